import PyProof.Rows.All
import Wide.All
import OpenK.AllK
import Wide.FinOn
import Lean
import PyProof.EqAt
import PyProof.EqKinds
import PyProof.TupleCall
import PyProof.SetScanFacts
import PyProof.SetKind
import PyProof.TupleKey
import PyProof.Rows.SetFrom
import PyProof.WalksS
import PyProof.CollectWalk
import PyProof.DictRoadsH
import PyProof.MeetsDict
import KE.KLam
import KE.KMinKey
import KE.KRevSl
import KE.KRevIter
import PyProof.ListNew
import KE.KItemsList
import PySem.Challenge.RW_pactroom_k45_undone_from_the_last
set_option Elab.async false
set_option linter.all false
set_option genSizeOf false
set_option maxHeartbeats 4000000
set_option maxRecDepth 100000
theorem θ{p:Prop}(h:p:=by decide +kernel):p:=h
theorem ζ{p:Prop}(h:p:=by decide):p:=h
theorem ω{p:Prop}(h:p:=by omega):p:=h
theorem χ{a b:Nat}(h:a.ble b=true:=by rfl):a<=b:=Nat.le_of_ble_eq_true h
abbrev ε:=@PySem.wpAny_bind
abbrev π:=@PySem.wpAny_pure
abbrev ρ:=@PySem.Heap.get?_push_of_some
abbrev ξ:=@List.getElem?_eq_getElem
abbrev τ:=@decide_eq_true
abbrev υ:=@Nat.le_succ_of_le
abbrev ι:=@Nat.le_refl
abbrev η:=@PySem.Heap.lt_size
abbrev ψ:=@PySem.Heap.get?_push_size
abbrev Γ:=@decide_eq_false
abbrev Δ:=@Option.some.inj
abbrev Θ:=@List.mem_cons_of_mem
abbrev Λ:=@Nat.le_trans
abbrev Ξ:=@of_decide_eq_true
abbrev Φ:=@Nat.ne_of_lt
abbrev Ψ:=@List.mem_append_right
abbrev Ω:=@List.mem_cons_self
open PySem.W (Frag)
namespace L2
open PySem PySem.Spec PyProof.Rows
abbrev Key:=Sum Int Str
def kX:Key->Value->Bool
 | .inl k,v=>Value.isInt k v
 | .inr x,v=>Value.isStrOf x v
def AX(w:World):Key->Int
 | .inl k=>hashInt k
 | .inr x=>hashStr w x
theorem bz:∀{k:Key} {v:Value},kX k v=true->(∃i t,k=Sum.inl i/\v=Value.int i t)\/(∃x t,k=Sum.inr x/\v=Value.str x t)
 | .inl i,v,h=>by
  obtain ⟨t,e⟩:=Value.isInt_shape (k:=i) (v:=v) h
  exact .inl ⟨i,t,rfl,e⟩
 | .inr x,v,h=>by
  obtain ⟨t,e⟩:=Value.isStrOf_shape (x:=x) (v:=v) h
  exact .inr ⟨x,t,rfl,e⟩
theorem rJ(i:Int)(t:Tok):kX (.inl i) (.int i t)=true:=by simp [kX,Value.isInt]
theorem rH(x:Str)(t:Tok):kX (.inr x) (.str x t)=true:=by simp [kX,Value.isStrOf]
theorem zm(a b:Int):decide ((Sum.inl a:Key)=Sum.inl b)=(a==b):=by
 by_cases e:a=b
 ·subst e;simp
 ·have h:¬(Sum.inl a:Key)=Sum.inl b:=λq=>e (Sum.inl.inj q)
  rw [Γ h]
  exact (beq_eq_false_iff_ne.mpr e).symm
theorem zi(a b:Str):decide ((Sum.inr a:Key)=Sum.inr b)=decide (a=b):=by
 by_cases e:a=b
 ·subst e;simp
 ·have h:¬(Sum.inr a:Key)=Sum.inr b:=λq=>e (Sum.inr.inj q)
  rw [Γ h,Γ e]
theorem zk(a:Int)(b:Str):decide ((Sum.inl a:Key)=Sum.inr b)=false:=Γ (λq=>nomatch q)
theorem zj(a:Str)(b:Int):decide ((Sum.inr a:Key)=Sum.inl b)=false:=Γ (λq=>nomatch q)
def ca(prog:Program)(w:World):PySem.KeyKind prog w Key where
 is:=kX
 hash:=AX w
 inj:=λv a b ha hb=>by
  rcases bz ha with ⟨i,t,rfl,rfl⟩ | ⟨x,t,rfl,rfl⟩
  ·rcases bz hb with ⟨j,u,rfl,e⟩ | ⟨y,u,rfl,e⟩
   ·injection e with e1 _;rw [e1]
   ·exact nomatch e
  ·rcases bz hb with ⟨j,u,rfl,e⟩ | ⟨y,u,rfl,e⟩
   ·exact nomatch e
   ·injection e with e1 _;rw [e1]
 byValue:=λk v h=>by
  rcases bz h with ⟨i,t,rfl,rfl⟩ | ⟨x,t,rfl,rfl⟩<;>rfl
 pyHash:=λhv h=>by
  rcases bz hv with ⟨i,t,rfl,rfl⟩ | ⟨x,t,rfl,rfl⟩
  ·exact wpAny_pyHash_int h
  ·exact wpAny_pyHash_str h
 eqBool:=λhu hv h=>by
  rcases bz hu with ⟨i,t,rfl,rfl⟩ | ⟨x,t,rfl,rfl⟩
  ·rcases bz hv with ⟨j,u,rfl,rfl⟩ | ⟨y,u,rfl,rfl⟩
   ·rw [zm] at h;exact wpAny_eqBool_int h
   ·rw [zk] at h;exact SeqAt.EqAt.int_str i t y u _ _ _ _ h
  ·rcases bz hv with ⟨j,u,rfl,rfl⟩ | ⟨y,u,rfl,rfl⟩
   ·rw [zj] at h;exact SeqAt.EqAt.str_int x t j u _ _ _ _ h
   ·rw [zi] at h;exact wpAny_eqBool_str h
 «strs» := fun k x t v h => by
  rcases bz h with ⟨i,u,rfl,e⟩ | ⟨y,u,rfl,e⟩
  ·exact nomatch e
  ·injection e with e1 _
   subst e1
   cases v<;>rfl
theorem nY(prog:Program)(w:World)(i:Int)(t:Tok):(ca prog w).is (.inl i) (.int i t)=true:=rJ i t
theorem nX(prog:Program)(w:World)(x:Str)(t:Tok):(ca prog w).is (.inr x) (.str x t)=true:=rH x t
end L2
namespace L2
open PySem PySem.Spec PyProof.Rows
inductive V where
 | non | bl (b:Bool) | int (i:Int) | str (x:Str) | byt (b:Array UInt8) | flt (b:UInt64) | ref (a:Addr) | ty (n:String)
 deriving DecidableEq
def RelV:V->Value->Prop
 | .non,u=>u=Value.none
 | .bl b,u=>u=Value.bool b
 | .int i,u=>∃t,u=Value.int i t
 | .str x,u=>∃t,u=Value.str x t
 | .byt b,u=>∃t,u=Value.bytes b t
 | .flt b,u=>∃t,u=Value.float b t
 | .ref a,u=>u=Value.ref a
 | .ty n,u=>u=Value.type n
abbrev Vals:List V->List Value->Prop:=Paired RelV
theorem Vals.length{xs:List V}{us:List Value}(r:Vals xs us):xs.length=us.length:=Paired.length r
theorem Vals.get:∀{xs:List V} {us:List Value} {i:Nat} {x:V},Vals xs us->xs[i]?=some x->∃u,us[i]?=some u/\RelV x u
 | _,_,_,_,.nil,e=>by simp at e
 | _,_,0,_,.cons r _,e=>by simp at e;subst e;exact ⟨_,rfl,r⟩
 | _,_,i+1,x,.cons _ t,e=>by
  obtain ⟨u,h1,h2⟩:=Vals.get (i:=i) (x:=x) t (by simpa using e)
  exact ⟨u,by simpa using h1,h2⟩
theorem Vals.append:∀{xs ys:List V} {us ws:List Value},Vals xs us->Vals ys ws->Vals (xs++ys) (us++ws)
 | _,_,_,_,.nil,s=>s
 | _,_,_,_,.cons r t,s=>.cons r (Vals.append t s)
theorem Vals.take:∀{xs:List V} {us:List Value} (n:Nat),Vals xs us->Vals (xs.take n) (us.take n)
 | _,_,0,_=>.nil
 | _,_,_+1,.nil=>.nil
 | _,_,n+1,.cons r t=>.cons r (Vals.take n t)
theorem Vals.drop:∀{xs:List V} {us:List Value} (n:Nat),Vals xs us->Vals (xs.drop n) (us.drop n)
 | _,_,0,r=>r
 | _,_,_+1,.nil=>.nil
 | _,_,n+1,.cons _ t=>Vals.drop n t
def RelO:Option V->Option Value->Prop
 | some v,some u=>RelV v u
 | none,none=>True
 | _,_=>False
def KV{κ:Type}:List (κ×V)->List (κ×Value)->Prop:=Paired λ(p:κ×V) (q:κ×Value)=>p.1=q.1/\RelV p.2 q.2
def kV:Key->V
 | .inl i=>.int i
 | .inr x=>.str x
inductive HO where
 | lst (xs:List V)
 | tup (xs:List V)
 | dK (kvs:List (Key×V)) | dT (kvs:List (List Key×V))
 | set (S:Int->Bool) (n:Nat)
 | ins (C dx:Addr) (fs:List (Str×V))
 | own (x:Addr)
 | xd (fs:List (Str×V))
 | met (f x:Addr)
 | rng (lo hi:Int)
 | frz (o:Obj) (u:HO)
 | tbl (ps:Array Value)
 | ext (φ:Heap->Prop)
abbrev Hp:=Addr->Option HO
def upd(H:Hp)(a:Addr)(o:HO):Hp:=λb=>if b=a then some o else H b
theorem ae{H:Hp}{a:Addr}{o:HO}:upd H a o a=some o:=by unfold upd;rw [if_pos rfl]
theorem aw{H:Hp}{a b:Addr}{o:HO}(h:b≠a):upd H a o b=H b:=by unfold upd;rw [if_neg h]
theorem bp{H:Hp}{a b:Addr}{o u:HO}(h:H a=some o)(h':H b=some u)(d:o≠u):a≠b:=by
 intro e;subst e;rw [h] at h';exact d (Δ h')
theorem ah{H:Hp}{a b:Addr}{o:HO}(h:H a=some o)(h':H b=none):a≠b:=by
 intro e;subst e;rw [h] at h';cases h'
section
variable (P:Program)(w:World)
def ObjOk(H:Hp)(h:Heap)(a:Addr):HO->Prop
 | .lst xs=>xs.length<=sizeLine/\∃(its:List Value) (n:Nat),Vals xs its/\h.get? a=some {cls:=.type "list",data:=.seq its.toArray n}
 | .tup xs=>xs.length<=sizeLine/\∃its:List Value,Vals xs its/\IsTup h a its.toArray
 | .dK kvs=>kvs.length<=sizeLine/\(a==sysModules)=false/\∃vs,KV kvs vs/\h.DictOf (ca P w) a vs
 | .dT kvs=>kvs.length<=sizeLine/\(a==sysModules)=false/\∃xs:List (List Key×Addr×Value),
   Paired (λ(p:List Key×V) (q:List Key×Addr×Value)=>p.1=q.1/\H q.2.1=some (.tup (p.1.map kV))/\RelV p.2 q.2.2) kvs xs /\
   ∃o es ep,h.get? a=some o/\o.ExactDict/\o.data=.dict es ep/\es.toList=xs.map (entryOfKey (tupleKind (ca P w)))/\(xs.map (·.1)).Nodup
 | .set S n=>h.SetOf (intKind P w) a S n
 | .ins C dx fs=>H dx=some (.own a)/\fs.length<=1000/\dx≠a/\h.get? a=some (PySem.W.instObj C dx) /\
   ∃mA,h.Ns1 dx mA/\(∀f,RelO (fs.lookup f) (mA f))/\PySem.Within mA (fs.map (·.1))
 | .own _=>∃o,h.get? a=some o
 | .xd fs=>∃mA,h.Ns1 a mA/\∀f,RelO (fs.lookup f) (mA f)
 | .rng lo hi=>∃t u v,h.get? a=some {cls:=.type "range",data:=.fields #[.int lo t,.int hi u,.int 1 v]}
 | .frz o u=>h.get? a=some o/\ObjOk H h a u
 | .tbl ps=>h.get? a=some {cls:=.none,data:=.fields ps}
 | .met f x=>h.get? a=some (PySem.W.methodObj (.ref f) (.ref x))
 | .ext φ=>φ h/\(∃o,h.get? a=some o)/\∀h1 h2:Heap,φ h1->(∀o,h1.get? a=some o->h2.get? a=some o)->φ h2
def HOk(H:Hp)(h:Heap):Prop:=∀a o,H a=some o->ObjOk P w H h a o
end
section
variable {P:Program}{w:World}{H H':Hp}{h h':Heap}{a:Addr}{o:HO}
theorem ObjOk.lt(x:ObjOk P w H h a o):a<h.objs.size:=by
 cases o with
 | lst xs=>obtain ⟨_,_,_,_,e⟩:=x;exact η e
 | tup xs=>obtain ⟨_,_,_,p⟩:=x;exact p.lt
 | dK kvs=>obtain ⟨_,_,_,_,o,_,_,e,_⟩:=x;exact η e
 | dT kvs=>obtain ⟨_,_,_,_,o,_,_,e,_⟩:=x;exact η e
 | set S n=>obtain ⟨o,_,_,_,e,_⟩:=x;exact η e
 | ins C dx fs=>obtain ⟨_,_,_,e,_⟩:=x;exact η e
 | own y=>obtain ⟨_,e⟩:=x;exact η e
 | xd fs=>obtain ⟨_,⟨_,_,_,e,_⟩,_⟩:=x;exact η e
 | rng lo hi=>obtain ⟨_,_,_,e⟩:=x;exact η e
 | frz ob u=>obtain ⟨e,_⟩:=x;exact η e
 | tbl ps=>exact η (show h.get? a=some _ from x)
 | met f y=>exact η (show h.get? a=some _ from x)
 | ext φ=>obtain ⟨_,⟨_,e⟩,_⟩:=x;exact η e
theorem Paired.mapP{α β:Type}{F G:α->β->Prop}:∀{l₁:List α} {l₂:List β},Paired F l₁ l₂->(∀a b,F a b->G a b)->Paired G l₁ l₂
 | _,_,.nil,_=>.nil
 | _,_,.cons r t,f=>.cons (f _ _ r) (Paired.mapP t f)
theorem ObjOk.stay(x:ObjOk P w H h a o)(k:∀b u,(b=a\/H b=some (.own a))->h.get? b=some u->h'.get? b=some u)
  (ho:∀b,H b=some (.own a)->H' b=some (.own a))(ht:∀b xs,H b=some (.tup xs)->H' b=some (.tup xs)):ObjOk P w H' h' a o:=by
 induction o with
 | lst xs=>obtain ⟨z,its,n,r,e⟩:=x;exact ⟨z,its,n,r,k _ _ (.inl rfl) e⟩
 | tup xs=>obtain ⟨z,its,r,ob,e,c⟩:=x;exact ⟨z,its,r,ob,k _ _ (.inl rfl) e,c⟩
 | dK kvs=>obtain ⟨z,y,vs,r,ob,es,ep,e,c⟩:=x;exact ⟨z,y,vs,r,ob,es,ep,k _ _ (.inl rfl) e,c⟩
 | dT kvs =>
  obtain ⟨z,y,xs,r,ob,es,ep,e,c⟩:=x
  exact ⟨z,y,xs,Paired.mapP r λp q z=>⟨z.1,ht _ _ z.2.1,z.2.2⟩,ob,es,ep,k _ _ (.inl rfl) e,c⟩
 | set S n=>obtain ⟨ob,es,ep,t,e,c⟩:=x;exact ⟨ob,es,ep,t,k _ _ (.inl rfl) e,c⟩
 | ins C dx fs =>
  obtain ⟨d,z,ne,e,mA,⟨od,es,ep,e2,c⟩,r⟩:=x
  exact ⟨ho _ d,z,ne,k _ _ (.inl rfl) e,mA,⟨od,es,ep,k _ _ (.inr d) e2,c⟩,r⟩
 | own y=>obtain ⟨ob,e⟩:=x;exact ⟨ob,k _ _ (.inl rfl) e⟩
 | xd fs=>obtain ⟨mA,⟨od,es,ep,e,c⟩,r⟩:=x;exact ⟨mA,⟨od,es,ep,k _ _ (.inl rfl) e,c⟩,r⟩
 | rng lo hi=>obtain ⟨t,u,v,e⟩:=x;exact ⟨t,u,v,k _ _ (.inl rfl) e⟩
 | frz ob u ih=>obtain ⟨e,q⟩:=x;exact ⟨k _ _ (.inl rfl) e,ih q⟩
 | tbl ps =>
  have e:h.get? a=some {cls:=.none,data:=.fields ps}:=x
  show h'.get? a=some {cls:=.none,data:=.fields ps}
  exact k a _ (.inl rfl) e
 | met f y =>
  have e:h.get? a=some (PySem.W.methodObj (.ref f) (.ref y)):=x
  show h'.get? a=some (PySem.W.methodObj (.ref f) (.ref y))
  exact k a _ (.inl rfl) e
 | ext φ=>obtain ⟨p,⟨o,e⟩,st⟩:=x;exact ⟨st _ _ p λo q=>k _ _ (.inl rfl) q,⟨o,k _ _ (.inl rfl) e⟩,st⟩
theorem HOk.lt(x:HOk P w H h)(e:H a=some o):a<h.objs.size:=(x a o e).lt
theorem HOk.fresh(x:HOk P w H h)(e:h.objs.size<=a):H a=none:=by
 cases q:H a with
 | none=>rfl
 | some u=>exact absurd (Nat.lt_of_lt_of_le (x.lt q) e) (Nat.lt_irrefl _)
theorem HOk.kept(x:HOk P w H h)(k:∀b u,h.get? b=some u->h'.get? b=some u):HOk P w H h':=λa o e =>
 (x a o e).stay (λb u _ q=>k b u q) (λ_ q=>q) λ_ _ q=>q
theorem HOk.laid(x:HOk P w H h)(k:∀b u,h.get? b=some u->h'.get? b=some u)(hp:h.objs.size<=a)(new:ObjOk P w (upd H a o) h' a o):HOk P w (upd H a o) h':=λb u e=>by
 have hn:=x.fresh hp
 by_cases hb:b=a
 ·subst hb;rw [ae] at e;cases e;exact new
 ·rw [aw hb] at e
  exact (x b u e).stay (λc v _ q=>k c v q) (λc q=>by rw [aw (ah q hn)];exact q) λc xs q=>by rw [aw (ah q hn)];exact q
end
def Rd(H:Hp)(a:Addr)(u:HO):Prop:=H a=some u\/∃o,H a=some (.frz o u)
theorem Rd.ok{P:Program}{w:World}{H:Hp}{h:Heap}{a:Addr}{u:HO}(r:Rd H a u)(x:HOk P w H h):ObjOk P w H h a u:=by
 rcases r with r | ⟨o,r⟩
 ·exact x a u r
 ·obtain ⟨_,q⟩:=x a _ r
  exact q
def Mut:Option HO->Prop
 | some (.lst _)=>True
 | some (.dK _)=>True
 | some (.dT _)=>True
 | some (.set _ _)=>True
 | some (.ins _ _ _)=>True
 | some (.ext _)=>True
 | _=>False
section
variable {P:Program}{w:World}{H:Hp}{h h':Heap}{x e:Addr}{o':HO}
theorem HOk.write(ok:HOk P w H h)(mu:Mut (H x))(he:e=x\/H e=some (.own x))(k:∀b u,b≠e->h.get? b=some u->h'.get? b=some u)(heo:∃u,h'.get? e=some u)
  (new:ObjOk P w (upd H x o') h' x o'):HOk P w (upd H x o') h':=λb u q=>by
 have nown:∀c y,H c=some (.own y)->c≠x:=λc y r z=>by subst z;rw [r] at mu;exact mu
 have ntup:∀c xs,H c=some (.tup xs)->c≠x:=λc xs r z=>by subst z;rw [r] at mu;exact mu
 by_cases hb:b=x
 ·subst hb;rw [ae] at q;cases q;exact new
 ·rw [aw hb] at q
  by_cases hbe:b=e
  ·have q':H b=some (.own x):=by
    rcases he with z | z
    ·exact absurd (hbe.trans z) hb
    ·rw [hbe];exact z
   rw [q] at q';cases q'
   obtain ⟨v,hv⟩:=heo
   exact ⟨v,by rw [hbe];exact hv⟩
  ·refine (ok b u q).stay (λc v hc r=>k c v ?_ r) (λc r=>by rw [aw (nown c b r)];exact r) λc xs r=>by rw [aw (ntup c xs r)];exact r
   rcases hc with rfl | hc
   ·exact hbe
   ·rintro rfl
    rcases he with z | z
    ·exact nown c b hc z
    ·rw [hc] at z;cases z;exact hb rfl
end
structure Un(fs ex:List Addr)(H H':Hp)(h h':Heap):Prop where
 keep:∀b o,h.get? b=some o->H b=none->b∉fs->b∉ex->h'.get? b=some o
 slot:∀b o,h.get? b=some o->H b=none->b∈fs->b∉ex->∃sl,h'.get? b=some {o with slots:=sl}
 free:∀b o,h.get? b=some o->H b=none->b∉ex->H' b=none
 there:∀b o,h.get? b=some o->b∉ex->∃o',h'.get? b=some o'
 tups:∀b xs,H b=some (.tup xs)->H' b=some (.tup xs)
 frzs:∀b o u,H b=some (.frz o u)->H' b=some (.frz o u)
 tbls:∀b ps,H b=some (.tbl ps)->∃more,H' b=some (.tbl (ps++more))
section
variable {fs fs' ex ex':List Addr}{H H1 H2:Hp}{h h1 h2 h':Heap}{a x e:Addr}{o:HO}
theorem Un.any(u:Un fs ex H H1 h h1){b:Addr}{ob:Obj}(q:h.get? b=some ob)(n:H b=none)(hx:b∉ex):∃sl,h1.get? b=some {ob with slots:=sl}:=by
 by_cases hb:b∈fs
 ·exact u.slot b ob q n hb hx
 ·exact ⟨ob.slots,u.keep b ob q n hb hx⟩
theorem Un.kept(k:∀b u,h.get? b=some u->h'.get? b=some u):Un fs ex H H h h' :=
 ⟨λb ob q _ _ _=>k b ob q,λb ob q _ _ _=>⟨ob.slots,k b ob q⟩,λ_ _ _ n _=>n,λb ob q _=>⟨ob,k b ob q⟩,λ_ _ q=>q,λ_ _ _ q=>q,λ_ ps q=>⟨#[],by rw [q];simp⟩⟩
theorem Un.refl:Un fs ex H H h h:=Un.kept λ_ _ q=>q
theorem Un.laid(k:∀b u,h.get? b=some u->h'.get? b=some u)(hp:h.objs.size<=a)(hn:H a=none):Un fs ex H (upd H a o) h h' where
 keep:=λb u q _ _ _=>k b u q
 slot:=λb u q _ _ _=>⟨u.slots,k b u q⟩
 free:=λb u q n _=>by rw [aw (Φ (Nat.lt_of_lt_of_le (η q) hp))];exact n
 there:=λb u q _=>⟨u,k b u q⟩
 tups:=λb xs q=>by rw [aw (ah q hn)];exact q
 frzs:=λb u xs q=>by rw [aw (ah q hn)];exact q
 tbls:=λb ps q=>⟨#[],by rw [aw (ah q hn),q];simp⟩
theorem Un.write(mu:Mut (H x))(he:e=x\/H e=some (.own x))(k:∀b u,b≠e->h.get? b=some u->h'.get? b=some u)(heo:∃u,h'.get? e=some u):Un fs ex H (upd H x o) h h':=by
 have hx:∀b,H b=none->b≠x:=λb n z=>by subst z;rw [n] at mu;exact mu
 have hb:∀b,H b=none->b≠e:=λb n z=>by
  subst z
  rcases he with r | r
  ·exact hx b n r
  ·rw [n] at r;cases r
 have hm:∀b u,H b=some u->¬Mut (some u)->b≠x:=λb u q nm z=>by subst z;rw [q] at mu;exact nm mu
 refine ⟨λb u q n _ _=>k b u (hb b n) q,λb u q n _ _=>⟨u.slots,k b u (hb b n) q⟩,λb u q n _=>by rw [aw (hx b n)];exact n,λb u q _=>?_,
  λb xs q=>by rw [aw (hm b _ q λz=>z)];exact q,λb u xs q=>by rw [aw (hm b _ q λz=>z)];exact q,λb ps q=>⟨#[],by rw [aw (hm b _ q λz=>z),q];simp⟩⟩
 by_cases hbe:b=e
 ·subst hbe;exact heo
 ·exact ⟨u,k b u hbe q⟩
end
def trk(h:Heap)(H:Hp):List Addr:=(List.range h.objs.size).filter λa=>(H a).isSome
def mw(h:Heap)(H:Hp):Heap:=PySem.W.hideAll h (trk h H)
theorem rN(h:Heap)(H:Hp):(mw h H).objs.size=h.objs.size:=PySem.W.hideAll_size _ _
theorem uV{h:Heap}{H:Hp}{b:Addr}{o:Obj}(e:h.get? b=some o)(n:H b=none):(mw h H).get? b=some o :=
 PySem.W.hideAll_get _ e λhm=>by
  have q:(H b).isSome=true:=(List.mem_filter.mp hm).2
  rw [n] at q;simp at q
theorem wM{h:Heap}{H:Hp}{b:Addr}{o:Obj}(e:(mw h H).get? b=some o):h.get? b=some o/\H b=none:=by
 have e':h.get? b=some o:=PySem.W.of_hideAll (trk h H) e
 refine ⟨e',?_⟩
 cases q:H b with
 | none=>rfl
 | some x =>
  have hm:b∈trk h H:=List.mem_filter.mpr ⟨List.mem_range.mpr (Heap.lt_size e'),by simp [q]⟩
  have z:(mw h H).get? b=none:=PySem.W.hideAll_none (trk h H) hm
  rw [z] at e;cases e
end L2
namespace L2
open PySem PySem.Spec PyProof.Rows
structure Mod(K:Frag)(mg:Str->Option Value)(base:Heap):Prop where
 kin:K.In base
 glob:base.Ns mainGlobals mg
 blt:∃mb,base.Ns builtinsNs mb/\∀x:Str,x≠"__name__"->mb x=bootBuiltins x
 nolimit:base.NoLimit
structure Cx where
 prog:Program
 w:World
 K:Frag
 mg:Str->Option Value
 base:Heap
 A:Around
 N:List Str
 s₀:Shared
 H₀:Hp
 env:Env
 outer:List Env
 stack:List Env
 ex:List Addr
 fn:Str->Bool
 calm:Bool
 pn:List (Addr×Obj)
 xe:Value->Shared->Prop
def frs(l:List Env):List Addr:=l.filterMap (·.frame)
abbrev Cx.fs(X:Cx):List Addr:=frs X.outer
def Vis(sc:Scope)(x:Str):Prop:=sc.names.lookup x=some .local\/sc.names.lookup x=some .cell\/sc.names.lookup x=some .free
def Loc(sc:Scope)(x:Str):Prop:=sc.names.lookup x=some .local\/sc.names.lookup x=some .cell
def A4(env:Env)(h:Heap)(m:Str->Option Value)(x:Str)(u:Value):Prop :=
 (env.kindOf x=some .local/\m x=some u)\/((env.kindOf x=some .cell\/env.kindOf x=some .free)/\∃c,env.cells.lookup x=some c/\h.IsCell c (some u))
structure Cx.Ok(X:Cx):Prop where
 mod:Mod X.K X.mg X.base
 kind:X.env.scope.kind=.function
 glob:X.env.globals=mainGlobals
 blt:X.env.builtins=builtinsNs
 above:X.s₀.heap.objs.size<=X.env.locals
 inj:∀x y c,X.env.cells.lookup x=some c->X.env.cells.lookup y=some c->x=y
 has:∀x,(X.env.kindOf x=some .cell\/X.env.kindOf x=some .free)->∃c,X.env.cells.lookup x=some c
 cab:∀x c,X.fn x=true->X.env.cells.lookup x=some c->X.s₀.heap.objs.size<=c
 hd:X.calm=true->X.A.handled=none
 frames:X.A.frames=some X.stack
 stk:X.stack=X.outer\/(X.stack=X.env::X.outer/\X.env.frame=some X.env.locals)
 exf:∀b∈X.ex,b≠X.env.locals/\∀x c,X.env.cells.lookup x=some c->c≠b
 bs:∀b o,X.base.get? b=some o->X.s₀.heap.get? b=some o/\X.H₀ b=none
 bsz:X.base.objs.size<=X.s₀.heap.objs.size
 noex:∀b o,X.base.get? b=some o->b∉X.ex
 exfs:∀b∈X.ex,b∉X.fs
 funs:X.s₀.heap.FunFrames X.base X.outer
 frf:∀b∈X.fs,X.H₀ b=none
structure Inv(X:Cx)(pins:List (Addr×Obj))(σ:List (Option V))(H:Hp)(s:Shared):Prop where
 ok:X.Ok
 os:s.os=X.s₀.os
 bare:AllBare s.gens
 base:Un X.fs X.ex X.H₀ H X.s₀.heap s.heap
 loc:∃m,s.heap.Ns X.env.locals m/\∀(i:Nat) (x:Str) (v:V),X.N[i]?=some x->σ[i]?=some (some v)->Vis X.env.scope x->∃u,RelV v u/\A4 X.env s.heap m x u
 cell:∀x c,X.env.cells.lookup x=some c->∃v,s.heap.IsCell c v
 free:H X.env.locals=none
 freeC:∀x c,X.env.cells.lookup x=some c->H c=none
 pin:∀p∈X.pn++pins,s.heap.get? p.1=some p.2/\H p.1=none/\p.1≠X.env.locals/\p.1∉X.fs/\∀v,p.2.data≠.cell v
 hok:HOk X.prog X.w H s.heap
 len:σ.length=X.N.length
section
variable {X:Cx}{pins:List (Addr×Obj)}{σ:List (Option V)}{H H':Hp}{s:Shared}{h':Heap}
theorem Cx.Ok.nofr(ok:X.Ok){b:Addr}{o:Obj}(e:X.base.get? b=some o):b∉X.fs:=λhb=>by
 have:=(ok.funs.mem hb).1
 rw [e] at this;cases this
theorem Inv.bs(I:Inv X pins σ H s):∀b o,X.base.get? b=some o->s.heap.get? b=some o/\H b=none:=λb o e =>
 ⟨I.base.keep b o (I.ok.bs b o e).1 (I.ok.bs b o e).2 (I.ok.nofr e) (I.ok.noex b o e),I.base.free b o (I.ok.bs b o e).1 (I.ok.bs b o e).2 (I.ok.noex b o e)⟩
theorem Inv.bk(I:Inv X pins σ H s):∀b o,X.base.get? b=some o->s.heap.get? b=some o:=λb o e=>(I.bs b o e).1
theorem Inv.mod(I:Inv X pins σ H s):Mod X.K X.mg X.base:=I.ok.mod
theorem Inv.kIn(I:Inv X pins σ H s):X.K.In s.heap:=I.ok.mod.kin.keeps I.bk
theorem Inv.lt(I:Inv X pins σ H s):X.env.locals<s.heap.objs.size:=let ⟨_,hn,_⟩:=I.loc;hn.lt
theorem Inv.sz(I:Inv X pins σ H s):X.s₀.heap.objs.size<=s.heap.objs.size:=Λ I.ok.above (Nat.le_of_lt I.lt)
theorem Inv.nofs(I:Inv X pins σ H s){a:Addr}(h:s.heap.objs.size<=a):a∉X.fs:=λhb=>by
 obtain ⟨_,o,ho,_⟩:=I.ok.funs.mem hb
 exact absurd (Nat.lt_of_lt_of_le (η ho) (Λ I.sz h)) (Nat.lt_irrefl _)
theorem Inv.cne(I:Inv X pins σ H s):∀x c,X.env.cells.lookup x=some c->c≠X.env.locals:=λx c e z=>by
 obtain ⟨v,o,ho,hd⟩:=I.cell x c e
 obtain ⟨m,⟨o',es,ep,ho',hd',_⟩,_⟩:=I.loc
 rw [z,ho'] at ho;cases ho;rw [hd'] at hd;cases hd
theorem Inv.funs(I:Inv X pins σ H s):s.heap.FunFrames X.base X.outer:=by
 have all:∀(l:List Env),(∀b∈frs l,b∈X.fs)->X.s₀.heap.FunFrames X.base l->s.heap.FunFrames X.base l:=by
  intro l
  induction l with
  | nil=>intro _ _;trivial
  | cons env r ih =>
   intro hs hl
   obtain ⟨hk,⟨L,o,hf,hn,ho,hd⟩,hr⟩:=hl
   have hL:L∈X.fs:=hs L (by unfold frs;rw [List.filterMap_cons,hf];exact List.mem_cons_self)
   obtain ⟨sl,e⟩:=I.base.slot L o ho (I.ok.frf L hL) hL λz=>I.ok.exfs L z hL
   exact ⟨hk,⟨L,_,hf,hn,e,hd⟩,ih (λb hb=>hs b (by unfold frs;rw [List.filterMap_cons,hf];exact List.mem_cons_of_mem _ hb)) hr⟩
 exact all X.outer (λ_ hb=>hb) I.ok.funs
theorem Inv.stack(I:Inv X pins σ H s):s.heap.FunFrames X.base X.stack:=by
 rcases I.ok.stk with e | ⟨e,hf⟩
 ·rw [e];exact I.funs
 ·rw [e]
  obtain ⟨m,hn,_⟩:=I.loc
  refine .cons (by rw [I.ok.kind];decide) hf hn ?_ I.funs
  exact Heap.get?_none_of_le (Λ I.ok.bsz I.ok.above)
theorem Inv.stkSub(I:Inv X pins σ H s):∀b∈frs X.stack,b∈X.env.locals::X.fs:=λb hb=>by
 rcases I.ok.stk with e | ⟨e,hf⟩
 ·rw [e] at hb;exact Θ _ hb
 ·rw [e] at hb
  unfold frs at hb
  rw [List.filterMap_cons,hf] at hb
  exact hb
theorem Inv.stkFree(I:Inv X pins σ H s):∀b∈frs X.stack,H b=none:=λb hb=>by
 rcases List.mem_cons.mp (I.stkSub b hb) with e | hb
 ·rw [e];exact I.free
 ·obtain ⟨_,o,ho,_⟩:=I.ok.funs.mem hb
  exact I.base.free b o ho (I.ok.frf b hb) λz=>I.ok.exfs b z hb
theorem Inv.step{g':Array GenState}{t':Nat}{d':Drawn}{ch:List Addr}(I:Inv X pins σ H s)
  (hch:∀b∈ch,(b∈X.ex\/X.s₀.heap.objs.size<=b)/\b≠X.env.locals/\(∀x c,X.env.cells.lookup x=some c->c≠b)/\∀p∈X.pn++pins,p.1≠b)
  (keep:∀b o,b≠X.env.locals->b∉X.fs->b∉ch->s.heap.get? b=some o->H b=none->h'.get? b=some o)
  (slot:∀b o,b≠X.env.locals->b∈X.fs->b∉ch->s.heap.get? b=some o->H b=none->∃sl,h'.get? b=some {o with slots:=sl})(free:∀b o,b∉ch->s.heap.get? b=some o->H b=none->H' b=none)
  (there:∀b o,b∉ch->s.heap.get? b=some o->∃o',h'.get? b=some o')
  (tups:∀b xs,H b=some (.tup xs)->H' b=some (.tup xs))(frzs:∀b o u,H b=some (.frz o u)->H' b=some (.frz o u))(tbls:∀b ps,H b=some (.tbl ps)->∃more,H' b=some (.tbl (ps++more)))
  (ns:∀m,s.heap.Ns X.env.locals m->h'.Ns X.env.locals m)(hok:HOk X.prog X.w H' h')(hg:AllBare g') :
  Inv X pins σ H' {s with heap:=h',gens:=g',drawn:=d',toks:=t'}:=by
 have neL:∀b o,X.s₀.heap.get? b=some o->b≠X.env.locals:=λb o e=>Φ (Nat.lt_of_lt_of_le (η e) I.ok.above)
 have neC:∀b o,X.s₀.heap.get? b=some o->b∉X.ex->b∉ch:=λb o e hx hb=>by
  rcases (hch b hb).1 with z | z
  ·exact hx z
  ·exact absurd (Nat.lt_of_lt_of_le (η e) z) (Nat.lt_irrefl _)
 have cellK:∀x c,X.env.cells.lookup x=some c->∀v,s.heap.IsCell c v->h'.IsCell c v:=λx c e v ⟨o,ho,hd⟩=>by
  have nch:c∉ch:=λz=>(hch c z).2.2.1 x c e rfl
  by_cases hc:c∈X.fs
  ·obtain ⟨sl,q⟩:=slot c o (I.cne x c e) hc nch ho (I.freeC x c e)
   exact ⟨_,q,hd⟩
  ·exact ⟨o,keep c o (I.cne x c e) hc nch ho (I.freeC x c e),hd⟩
 refine ⟨I.ok,I.os,hg,⟨λb o e n hb hx=>?_,λb o e n hb hx=>?_,λb o e n hx=>?_,λb o e hx=>?_,λb xs e=>tups b xs (I.base.tups b xs e),λb o xs e=>frzs b o xs (I.base.frzs b o xs e),λb ps e=>?_⟩,?_,λx c e=>?_,?_,λx c e=>?_,λp hp=>?_,hok,I.len⟩
 ·exact keep b o (neL b o e) hb (neC b o e hx) (I.base.keep b o e n hb hx) (I.base.free b o e n hx)
 ·obtain ⟨sl,e1⟩:=I.base.slot b o e n hb hx
  obtain ⟨sl',e2⟩:=slot b _ (neL b o e) hb (neC b o e hx) e1 (I.base.free b o e n hx)
  exact ⟨sl',e2⟩
 ·obtain ⟨o',e1⟩:=I.base.there b o e hx
  exact free b o' (neC b o e hx) e1 (I.base.free b o e n hx)
 ·obtain ⟨o',e1⟩:=I.base.there b o e hx
  exact there b o' (neC b o e hx) e1
 ·obtain ⟨m1,e1⟩:=I.base.tbls b ps e
  obtain ⟨m2,e2⟩:=tbls b _ e1
  exact ⟨m1++m2,by rw [e2,Array.append_assoc]⟩
 ·obtain ⟨m,hn,hl⟩:=I.loc
  refine ⟨m,ns m hn,λi x v e1 e2 e3=>?_⟩
  obtain ⟨u,r,l⟩:=hl i x v e1 e2 e3
  refine ⟨u,r,?_⟩
  rcases l with l | ⟨k,c,e,z⟩
  ·exact .inl l
  ·exact .inr ⟨k,c,e,cellK x c e _ z⟩
 ·obtain ⟨v,z⟩:=I.cell x c e
  exact ⟨v,cellK x c e v z⟩
 ·obtain ⟨m,⟨o,_,_,ho,_⟩,_⟩:=I.loc
  exact free _ o (λz=>(hch _ z).2.1 rfl) ho I.free
 ·obtain ⟨v,o,ho,hd⟩:=I.cell x c e
  exact free c o (λz=>(hch c z).2.2.1 x c e rfl) ho (I.freeC x c e)
 ·obtain ⟨e,n,ne,nf,d⟩:=I.pin p hp
  have nch:p.1∉ch:=λz=>(hch p.1 z).2.2.2 p hp rfl
  exact ⟨keep p.1 p.2 ne nf nch e n,free p.1 p.2 nch e n,ne,nf,d⟩
theorem Inv.un{t':Nat}(I:Inv X pins σ H s)(u:Un X.fs [] H H' s.heap h')(hok:HOk X.prog X.w H' h'):Inv X pins σ H' {s with heap:=h',toks:=t'}:=by
 obtain ⟨m,⟨o,es,ep,ho,r⟩,_⟩:=id I.loc
 obtain ⟨sl,hL⟩:=u.any ho I.free (by simp)
 exact I.step (g':=s.gens) (d':=s.drawn) (ch:=[]) (λ_ z=>nomatch z) (λb o _ hb _ e n=>u.keep b o e n hb (by simp)) (λb o _ hb _ e n=>u.slot b o e n hb (by simp)) (λb o _ e n=>u.free b o e n (by simp)) (λb o _ e=>u.there b o e (by simp)) u.tups u.frzs u.tbls (λm' hm=>by
  obtain ⟨o',es',ep',ho',r'⟩:=hm
  rw [ho] at ho';cases ho'
  exact ⟨_,es',ep',hL,r'⟩) hok I.bare
theorem Inv.call{g':Array GenState}{t':Nat}{d':Drawn}{ch:List Addr}(I:Inv X pins σ H s)(u:Un (frs X.stack) ch H H' s.heap h')(hok:HOk X.prog X.w H' h')(hg:AllBare g')
  (hch:∀b∈ch,(b∈X.ex\/X.s₀.heap.objs.size<=b)/\b≠X.env.locals/\(∀x c,X.env.cells.lookup x=some c->c≠b)/\∀p∈X.pn++pins,p.1≠b) :
  Inv X pins σ H' {s with heap:=h',gens:=g',drawn:=d',toks:=t'}:=by
 obtain ⟨m,⟨o,es,ep,ho,r⟩,_⟩:=id I.loc
 obtain ⟨sl,hL⟩:=u.any ho I.free λz=>(hch _ z).2.1 rfl
 exact I.step (ch:=ch) hch (λb o hL hb hc e n=>u.keep b o e n (λz=>(List.mem_cons.mp (I.stkSub b z)).elim hL hb) hc) (λb o _ _ hc e n=>u.any e n hc) (λb o hc e n=>u.free b o e n hc) (λb o hc e=>u.there b o e hc) u.tups u.frzs u.tbls (λm' hm=>by
  obtain ⟨o',es',ep',ho',r'⟩:=hm
  rw [ho] at ho';cases ho'
  exact ⟨_,es',ep',hL,r'⟩) hok hg
theorem Inv.turned{t':Nat}{it:Addr}(I:Inv X pins σ H s)(k:∀b o,b≠it->s.heap.get? b=some o->h'.get? b=some o)(hn:H it=none)(hL:it≠X.env.locals)
  (h1:it∈X.ex\/X.s₀.heap.objs.size<=it)(h2:∀x c,X.env.cells.lookup x=some c->c≠it)(h3:∀p∈X.pn++pins,p.1≠it):Inv X pins σ H {s with heap:=h',toks:=t'}:=by
 have nit:∀b u,H b=some u->b≠it:=λb u e z=>by rw [z,hn] at e;cases e
 refine I.step (g':=s.gens) (d':=s.drawn) (ch:=[it]) (λb hb=>?_) (λb o _ _ hc e _=>k b o (λz=>hc (by simp [z])) e) (λb o _ _ hc e _=>⟨o.slots,k b o (λz=>hc (by simp [z])) e⟩) (λ_ _ _ _ n=>n)
  (λb o hc e=>⟨o,k b o (λz=>hc (by simp [z])) e⟩) (λ_ _ e=>e) (λ_ _ _ e=>e) (λb ps e=>⟨#[],by rw [e];simp⟩) (λm hm=>?_) (λb u e=>?_) I.bare
 ·have e:b=it:=by simpa using hb
  subst e
  exact ⟨h1,hL,h2,h3⟩
 ·obtain ⟨o,es,ep,ho,r⟩:=hm
  exact ⟨o,es,ep,k _ o (Ne.symm hL) ho,r⟩
 ·refine (I.hok b u e).stay (λc v hc q=>k c v ?_ q) (λ_ q=>q) λ_ _ q=>q
  rcases hc with z | z
  ·rw [z];exact nit b u e
  ·exact nit c _ z
theorem Inv.tok(I:Inv X pins σ H s)(t:Nat):Inv X pins σ H {s with toks:=t}:=I.un (h':=s.heap) (t':=t) Un.refl I.hok
theorem Inv.kept{t':Nat}(I:Inv X pins σ H s)(k:∀b u,s.heap.get? b=some u->h'.get? b=some u):Inv X pins σ H {s with heap:=h',toks:=t'}:=I.un (Un.kept k) (I.hok.kept k)
theorem Inv.laid{a:Addr}{o:HO}{t':Nat}(I:Inv X pins σ H s)(k:∀b u,s.heap.get? b=some u->h'.get? b=some u)(hp:s.heap.objs.size<=a)(new:ObjOk X.prog X.w (upd H a o) h' a o) :
  Inv X pins σ (upd H a o) {s with heap:=h',toks:=t'}:=I.un (Un.laid k hp (I.hok.fresh hp)) (I.hok.laid k hp new)
theorem Inv.write{x e:Addr}{o:HO}{t':Nat}(I:Inv X pins σ H s)(mu:Mut (H x))(he:e=x\/H e=some (.own x))(k:∀b u,b≠e->s.heap.get? b=some u->h'.get? b=some u)(heo:∃u,h'.get? e=some u)
  (new:ObjOk X.prog X.w (upd H x o) h' x o):Inv X pins σ (upd H x o) {s with heap:=h',toks:=t'}:=I.un (Un.write mu he k heo) (I.hok.write mu he k heo new)
theorem Inv.weak{σ':List (Option V)}(I:Inv X pins σ H s)(hl:σ'.length=σ.length)(w:∀(i:Nat) v,σ'[i]?=some (some v)->σ[i]?=some (some v)):Inv X pins σ' H s :=
 ⟨I.ok,I.os,I.bare,I.base,let ⟨m,hn,hl'⟩:=I.loc;⟨m,hn,λi x v e1 e2 e3=>hl' i x v e1 (w i v e2) e3⟩,I.cell,I.free,I.freeC,I.pin,I.hok,hl.trans I.len⟩
theorem Inv.pins_of{pins':List (Addr×Obj)}(I:Inv X pins σ H s)(h:∀p∈pins',s.heap.get? p.1=some p.2/\H p.1=none/\p.1≠X.env.locals/\p.1∉X.fs/\∀v,p.2.data≠.cell v):Inv X pins' σ H s :=
 ⟨I.ok,I.os,I.bare,I.base,I.loc,I.cell,I.free,I.freeC,λp hp=>(List.mem_append.mp hp).elim (λz=>I.pin p (List.mem_append_left _ z)) (h p),I.hok,I.len⟩
theorem nU{N:List Str}(hN:N.Nodup){i j:Nat}{x:Str}(a:N[i]?=some x)(b:N[j]?=some x):i=j:=by
 obtain ⟨h1,e1⟩:=List.getElem?_eq_some_iff.mp a
 obtain ⟨h2,e2⟩:=List.getElem?_eq_some_iff.mp b
 exact (List.getElem_inj hN).mp (e1.trans e2.symm)
theorem kO{M:Model}{A:Around}{E:Value->Shared->Prop}{i:Nat}{x:Str}{v:V}{u:Value}{Q:Unit->Shared->Prop}(I:Inv X pins σ H s)(hN:X.N.Nodup)(hi:X.N[i]?=some x)(hx:Loc X.env.scope x)(r:RelV v u)
  (h:∀s',Inv X pins (σ.set i (some v)) H s'->(∃a,Heap.SameBut a s.heap s'.heap/\(a=X.env.locals\/X.env.cells.lookup x=some a))->Q () s')(hf:X.fn x=true\/X.env.scope.names.lookup x=some .local:=by first | exact .inl rfl | exact .inr rfl | assumption):wpAny M A (storeName X.env x u) Q E s:=by
 obtain ⟨m,hn,hl⟩:=id I.loc
 have hcls:(X.env.scope.kind==.class||(X.env.scope.kind==.module&&X.env.locals != X.env.globals))=false:=by rw [I.ok.kind];rfl
 have hiσ:i<σ.length:=by rw [I.len];exact (List.getElem?_eq_some_iff.mp hi).1
 have cne:=I.cne
 have tracked:∀{a:Addr} {h':Heap},(∃o,s.heap.get? a=some o/\H a=none)->Heap.SameBut a s.heap h'->HOk X.prog X.w H h':=λ{a h'} ha hs b ob e=>by
  obtain ⟨_,_,hfree⟩:=ha
  refine (I.hok b ob e).stay (λc w' hc q=>(hs.2 c ?_).trans q) (λ_ q=>q) λ_ _ q=>q
  rintro rfl
  rcases hc with rfl | hc
  ·rw [hfree] at e;cases e
  ·rw [hfree] at hc;cases hc
 rcases hx with hk | hk
 ·refine wpAny_storeName_local hk hn (λh' hn' hs=>?_) hcls
  obtain ⟨oL,_,_,hoL,_⟩:=id hn
  refine h _ ⟨I.ok,I.os,I.bare,⟨λb o e n hb hx=>?_,λb o e n hb hx=>?_,I.base.free,λb o e hx=>?_,I.base.tups,I.base.frzs,I.base.tbls⟩,⟨_,hn',λj y v' e1 e2 e3=>?_⟩,λy c e=>?_,I.free,I.freeC,λp hp=>?_,tracked ⟨oL,hoL,I.free⟩ hs,by simpa using I.len⟩ ⟨_,hs,.inl rfl⟩
  ·exact (hs.2 b (Φ (Nat.lt_of_lt_of_le (η e) I.ok.above))).trans (I.base.keep b o e n hb hx)
  ·obtain ⟨sl,e1⟩:=I.base.slot b o e n hb hx
   exact ⟨sl,(hs.2 b (Φ (Nat.lt_of_lt_of_le (η e) I.ok.above))).trans e1⟩
  ·obtain ⟨o',e1⟩:=I.base.there b o e hx
   exact ⟨o',(hs.2 b (Φ (Nat.lt_of_lt_of_le (η e) I.ok.above))).trans e1⟩
  ·by_cases hj:j=i
   ·subst hj
    rw [hi] at e1;cases e1
    rw [List.getElem?_set_self hiσ] at e2
    cases e2
    exact ⟨u,r,.inl ⟨hk,by simp⟩⟩
   ·rw [List.getElem?_set_ne (Ne.symm hj)] at e2
    obtain ⟨u',r',q⟩:=hl j y v' e1 e2 e3
    refine ⟨u',r',?_⟩
    rcases q with ⟨k,e⟩ | ⟨k,c,e,z⟩
    ·refine .inl ⟨k,?_⟩
     have:y≠x:=λe=>hj (nU hN e1 (e▸hi))
     simp [this,e]
    ·exact .inr ⟨k,c,e,z.sameBut hs (cne y c e)⟩
  ·obtain ⟨w',z⟩:=I.cell y c e
   exact ⟨w',z.sameBut hs (cne y c e)⟩
  ·obtain ⟨e,n,ne,nf,d⟩:=I.pin p hp
   exact ⟨(hs.2 p.1 ne).trans e,n,ne,nf,d⟩
 ·have hfn:X.fn x=true:=by
   rcases hf with z | z
   ·exact z
   ·rw [z] at hk;cases hk
  obtain ⟨c,hc⟩:=I.ok.has x (.inl hk)
  obtain ⟨w',z⟩:=I.cell x c hc
  refine wpAny_storeName_cell I.ok.kind hk hc z (λh' hc' hs=>?_)
  obtain ⟨oc,hoc,hocd⟩:=id z
  refine h {s with heap:=h'} ⟨I.ok,I.os,I.bare,⟨λb o e n hb hx=>?_,λb o e n hb hx=>?_,I.base.free,λb o e hx=>?_,I.base.tups,I.base.frzs,I.base.tbls⟩,⟨m,hn.sameBut hs (Ne.symm (cne x c hc)),λj y v' e1 e2 e3=>?_⟩,λy c' e=>?_,I.free,I.freeC,λp hp=>?_,tracked ⟨oc,hoc,I.freeC x c hc⟩ hs,by simpa using I.len⟩ ⟨c,hs,.inr hc⟩
  ·exact (hs.2 b (Φ (Nat.lt_of_lt_of_le (η e) (I.ok.cab x c hfn hc)))).trans (I.base.keep b o e n hb hx)
  ·obtain ⟨sl,e1⟩:=I.base.slot b o e n hb hx
   exact ⟨sl,(hs.2 b (Φ (Nat.lt_of_lt_of_le (η e) (I.ok.cab x c hfn hc)))).trans e1⟩
  ·obtain ⟨o',e1⟩:=I.base.there b o e hx
   exact ⟨o',(hs.2 b (Φ (Nat.lt_of_lt_of_le (η e) (I.ok.cab x c hfn hc)))).trans e1⟩
  ·by_cases hj:j=i
   ·subst hj
    rw [hi] at e1;cases e1
    rw [List.getElem?_set_self hiσ] at e2
    cases e2
    exact ⟨u,r,.inr ⟨.inl hk,c,hc,hc'⟩⟩
   ·rw [List.getElem?_set_ne (Ne.symm hj)] at e2
    obtain ⟨u',r',q⟩:=hl j y v' e1 e2 e3
    refine ⟨u',r',?_⟩
    rcases q with q | ⟨k,c',e,z'⟩
    ·exact .inl q
    ·refine .inr ⟨k,c',e,z'.sameBut hs ?_⟩
     rintro rfl
     exact hj (nU hN e1 (I.ok.inj _ _ _ e hc▸hi))
  ·by_cases hcc:c'=c
   ·subst hcc;exact ⟨_,hc'⟩
   ·obtain ⟨w2,z2⟩:=I.cell y c' e
    exact ⟨w2,z2.sameBut hs hcc⟩
  ·obtain ⟨e,n,ne,nf,d⟩:=I.pin p hp
   refine ⟨(hs.2 p.1 ?_).trans e,n,ne,nf,d⟩
   intro q
   rw [q,hoc] at e
   have q':oc=p.2:=Δ e
   exact d w' (by rw [← q'];exact hocd)
theorem jA{M:Model}{A:Around}{E:Value->Shared->Prop}{i:Nat}{x:Str}{v:V}{u:Value}{Q:Unit->Shared->Prop}(I:Inv X pins σ H s)(hN:X.N.Nodup)(hi:X.N[i]?=some x)(hx:Loc X.env.scope x)(r:RelV v u)
  (h:∀s',Inv X pins (σ.set i (some v)) H s'->Q () s')(hf:X.fn x=true\/X.env.scope.names.lookup x=some .local:=by first | exact .inl rfl | exact .inr rfl | assumption):wpAny M A (storeName X.env x u) Q E s :=
 kO I hN hi hx r (λs' I' _=>h s' I') hf
theorem Inv.call'{s':Shared}{ch:List Addr}(I:Inv X pins σ H s)(ho:s'.os=s.os)(u:Un (frs X.stack) ch H H' s.heap s'.heap)(hok:HOk X.prog X.w H' s'.heap)(hg:AllBare s'.gens)
  (hch:∀b∈ch,(b∈X.ex\/X.s₀.heap.objs.size<=b)/\b≠X.env.locals/\(∀x c,X.env.cells.lookup x=some c->c≠b)/\∀p∈X.pn++pins,p.1≠b):Inv X pins σ H' s':=by
 obtain ⟨h',g',d',t',o'⟩:=s'
 have e:o'=s.os:=ho
 subst e
 exact I.call (g':=g') (t':=t') (d':=d') u hok hg hch
end
abbrev XK:=Value->Option Addr->Hp->Prop
abbrev St:=List (Option V)
abbrev VK:=V->Hp->Prop
abbrev TE:=St->Hp->VK->Prop
abbrev TT:=St->Hp->(Bool->Hp->Prop)->Prop
abbrev TA:=St->Hp->(List V->Hp->Prop)->Prop
structure Ends where
 nx:St->Hp->Prop
 rt:VK
 bk:St->Hp->Prop:=λ_ _=>False
 ct:St->Hp->Prop:=λ_ _=>False
abbrev TS:=Ends->St->Hp->Prop
def EP(X:Cx)(pins:List (Addr×Obj))(σ:St)(Q:VK)(u:Value)(s':Shared):Prop:=∃v H',Inv X pins σ H' s'/\RelV v u/\Q v H'
def TP(X:Cx)(pins:List (Addr×Obj))(σ:St)(Q:Bool->Hp->Prop)(b:Bool)(s':Shared):Prop:=∃H',Inv X pins σ H' s'/\Q b H'
def AP(X:Cx)(pins:List (Addr×Obj))(σ:St)(Q:List V->Hp->Prop)(us:List Value)(s':Shared):Prop:=∃vs H',Inv X pins σ H' s'/\Vals vs us/\Q vs H'
def SP(X:Cx)(pins:List (Addr×Obj))(D:Ends)(f:Flow)(s':Shared):Prop :=
 match f with
 | .next=>∃σ' H',Inv X pins σ' H' s'/\D.nx σ' H'
 | .brk=>∃σ' H',Inv X pins σ' H' s'/\D.bk σ' H'
 | .cont=>∃σ' H',Inv X pins σ' H' s'/\D.ct σ' H'
 | .ret u=>∃v σ' H',Inv X pins σ' H' s'/\RelV v u/\D.rt v H'
def PE(X:Cx)(e:Expr)(t:TE):Prop :=
 ∀(pins:List (Addr×Obj)) (s:Shared) (σ:St) (H:Hp) (Q:VK),Inv X pins σ H s->t σ H Q->wpAny (model X.prog X.w) X.A (eval e X.env) (EP X pins σ Q) X.xe s
def PT(X:Cx)(e:Expr)(t:TT):Prop :=
 ∀(pins:List (Addr×Obj)) (s:Shared) (σ:St) (H:Hp) (Q:Bool->Hp->Prop),Inv X pins σ H s->t σ H Q->wpAny (model X.prog X.w) X.A (isTrue e X.env (eval e X.env)) (TP X pins σ Q) X.xe s
def PW(X:Cx)(e:Expr)(t:TT):Prop :=
 ∀(whole:Sem Value) (pins:List (Addr×Obj)) (s:Shared) (σ:St) (H:Hp) (Q:Bool->Hp->Prop),Inv X pins σ H s->t σ H Q->wpAny (model X.prog X.w) X.A (isTrue e X.env whole) (TP X pins σ Q) X.xe s
theorem PW.pt{X:Cx}{e:Expr}{t:TT}(h:PW X e t):PT X e t:=h _
def PA(X:Cx)(es:List Expr)(t:TA):Prop :=
 ∀(pos:Pos) (pins:List (Addr×Obj)) (s:Shared) (σ:St) (H:Hp) (Q:List V->Hp->Prop),Inv X pins σ H s->t σ H Q->wpAny (model X.prog X.w) X.A (spliced (backTo pos (starEach es X.env))) (AP X pins σ Q) X.xe s
def PS(X:Cx)(st:Stmt)(t:TS):Prop :=
 ∀(pins:List (Addr×Obj)) (s:Shared) (σ:St) (H:Hp) (D:Ends),Inv X pins σ H s->t D σ H->wpAny (model X.prog X.w) X.A (exec st X.env) (SP X pins D) X.xe s
def PSs(X:Cx)(st:List Stmt)(t:TS):Prop :=
 ∀(pins:List (Addr×Obj)) (s:Shared) (σ:St) (H:Hp) (D:Ends),Inv X pins σ H s->t D σ H->wpAny (model X.prog X.w) X.A (execs st X.env) (SP X pins D) X.xe s
theorem thn{α:Type}{t:Sem α}{Q Q':α->Shared->Prop}{M:Model}{A:Around}{E:Value->Shared->Prop}{s:Shared}(h:wpAny M A t Q E s)(hQ:∀a s,Q a s->Q' a s):wpAny M A t Q' E s:=wpAny_mono h hQ λ_ _ x=>x
end L2
namespace L2
open PySem PySem.Spec PyProof.Rows
section
variable {X:Cx}
def oK(i:Nat):TE:=fun σ H Q=>∃v,σ[i]?=some (some v)/\Q v H
def tC(v:V):TE:=λ_ H Q=>Q v H
theorem tU{i:Nat}{x:Str}{pos:Pos}(hN:X.N[i]?=some x)(hv:Vis X.env.scope x)(hd:(x==("__debug__":Str))=false:=by decide)(hcd:(x==("__classdict__":Str))=false:=by decide):PE X (.Name x pos) (oK i):=by
 intro pins s σ H Q I h
 obtain ⟨v,e,h⟩:=h
 obtain ⟨m,hn,hl⟩:=I.loc
 obtain ⟨u,r,l⟩:=hl i x v hN e hv
 have fin:EP X pins σ Q u s:=⟨v,H,I,r,h⟩
 rcases l with ⟨hk,hm⟩ | ⟨hk,c,hc,hcell⟩
 ·exact wpAny_Name (wpAny_loadName_local I.ok.kind hk hn hm fin) hd
 ·rcases hk with hk | hk
  ·exact wpAny_Name (wpAny_loadName_cell I.ok.kind hk hc hcell fin) hd
  ·exact wpAny_Name (wpAny_loadName_free I.ok.kind hk hc hcell fin hcd) hd
theorem ai{i j pos}:PE X (.Constant (.int i) j pos) (tC (.int i)):=λ_ _ _ H _ I h=>wpAny_Constant_int ⟨.int i,H,I.tok _,⟨_,rfl⟩,h⟩
theorem cH{b j pos}:PE X (.Constant (.bool b) j pos) (tC (.bl b)):=λ_ _ _ H _ I h=>Constant_bool ⟨.bl b,H,I,rfl,h⟩
theorem aY{j pos}:PE X (.Constant .none j pos) (tC .non):=λ_ _ _ H _ I h=>Constant_none ⟨.non,H,I,rfl,h⟩
theorem ay{x j pos}:PE X (.Constant (.str x) j pos) (tC (.str x)):=λ_ _ _ H _ I h=>Calls.Constant_str ⟨.str x,H,I.tok _,⟨_,rfl⟩,h⟩
def Gl(X:Cx)(x:Str):Prop:=X.env.kindOf x=some .globalImplicit
theorem il{E:Value->Shared->Prop}{pins:List (Addr×Obj)}{s:Shared}{σ:St}{H:Hp}{x:Str}{u:Value}{pos:Pos}{Q:Value->Shared->Prop}(I:Inv X pins σ H s)(hg:Gl X x)(hm:X.mg x=some u)(h:Q u s)
  (hd:(x==("__debug__":Str))=false:=by decide):wpAny (model X.prog X.w) X.A (eval (.Name x pos) X.env) Q E s :=
 Calls.Name_function_global I.ok.kind hg (Calls.loadGlobal_global (by rw [I.ok.glob];exact I.mod.glob.keeps I.bk) hm h) hd
theorem gZ{E:Value->Shared->Prop}{pins:List (Addr×Obj)}{s:Shared}{σ:St}{H:Hp}{x:Str}{u:Value}{pos:Pos}{Q:Value->Shared->Prop}(I:Inv X pins σ H s)(hg:Gl X x)(hm:X.mg x=none)(hv:bootBuiltins x=some u)(h:Q u s)
  (hn:x≠"__name__":=by decide)(hd:(x==("__debug__":Str))=false:=by decide):wpAny (model X.prog X.w) X.A (eval (.Name x pos) X.env) Q E s:=by
 obtain ⟨mb,h1,h2⟩:=I.mod.blt
 exact Calls.Name_function_global I.ok.kind hg (Calls.loadGlobal_builtin (by rw [I.ok.glob];exact I.mod.glob.keeps I.bk) hm (by rw [I.ok.blt];exact h1.keeps I.bk) ((h2 x hn).trans hv) h) hd
theorem dt{x:Str}{v:V}{u:Value}{pos:Pos}(hg:Gl X x)(hm:X.mg x=some u)(r:RelV v u)(hd:(x==("__debug__":Str))=false:=by decide):PE X (.Name x pos) (tC v) :=
 λ_ _ _ H _ I h=>il I hg hm ⟨v,H,I,r,h⟩ hd
theorem mo{x:Str}{v:V}{u:Value}{pos:Pos}(hg:Gl X x)(hm:X.mg x=none)(hv:bootBuiltins x=some u)(r:RelV v u)(hn:x≠"__name__":=by decide)(hd:(x==("__debug__":Str))=false:=by decide):PE X (.Name x pos) (tC v) :=
 λ_ _ _ H _ I h=>gZ I hg hm hv ⟨v,H,I,r,h⟩ hn hd
variable {a b:Expr}{ta tb:TE}{pos:Pos}
def tB(t:TE):TT:=fun σ H Q=>t σ H λx H1=>∃c,x=.bl c/\Q c H1
theorem bj{e:Expr}{t:TE}(h:PE X e t)(he:∀whole,isTrue e X.env whole=(do let v ← whole;standAt e.pos;holding [v] (truthy v)):=by intro _;rfl):PT X e (tB t):=by
 intro pins s σ H Q I hw
 refine isTrue_plain (thn (h pins s σ H _ I hw) λv s1 ⟨x,H1,I1,r1,q1⟩=>?_) (he _)
 obtain ⟨d,rfl,q⟩:=q1
 cases r1
 exact wpAny_truthy_bool ⟨H1,I1,q⟩
variable {tA tB':TT}{rest:List Expr}
def zO(t u:TT):TT:=fun σ H Q=>t σ H λc H1=>if c=true then u σ H1 Q else Q false H1
def tOr(t u:TT):TT:=fun σ H Q=>t σ H λc H1=>if c=true then Q true H1 else u σ H1 Q
def AI(t:TT):TT:=fun σ H Q=>t σ H λc H1=>Q (!c) H1
theorem bF(ha:PT X a tA):PW X (.BoolOp .And [a] pos) tA:=by
 intro wh pins s σ H Q I h
 refine isTrue_and (thn (ha pins s σ H Q I h) λc s1 e=>?_)
 cases c with
 | true=>exact isTrue_and_nil e
 | false=>exact e
theorem gS(ha:PT X a tA):PW X (.BoolOp .Or [a] pos) tA:=by
 intro wh pins s σ H Q I h
 refine isTrue_or (thn (ha pins s σ H Q I h) λc s1 e=>?_)
 cases c with
 | false=>exact isTrue_or_nil e
 | true=>exact e
theorem bH(ha:PT X a tA)(hb:PW X (.BoolOp .And (b::rest) pos) tB'):PW X (.BoolOp .And (a::b::rest) pos) (zO tA tB'):=by
 intro wh pins s σ H Q I h
 refine isTrue_and (thn (ha pins s σ H _ I h) λc s1 ⟨H1,I1,q1⟩=>?_)
 cases c with
 | true=>exact hb wh pins s1 σ H1 Q I1 q1
 | false=>exact ⟨H1,I1,q1⟩
theorem i0(ha:PT X a tA)(hb:PW X (.BoolOp .Or (b::rest) pos) tB'):PW X (.BoolOp .Or (a::b::rest) pos) (tOr tA tB'):=by
 intro wh pins s σ H Q I h
 refine isTrue_or (thn (ha pins s σ H _ I h) λc s1 ⟨H1,I1,q1⟩=>?_)
 cases c with
 | true=>exact ⟨H1,I1,q1⟩
 | false=>exact hb wh pins s1 σ H1 Q I1 q1
theorem eU(ha:PT X a tA):PT X (.UnaryOp .Not a pos) (AI tA):=by
 intro pins s σ H Q I h
 exact isTrue_not (ha pins s σ H (λc H1=>Q (!c) H1) I h)
def zN(ta tb:TE):TE:=fun σ H Q=>ta σ H λx H1=>∃c,x=.bl c/\if c=true then tb σ H1 Q else Q (.bl false) H1
def AH(ta tb:TE):TE:=fun σ H Q=>ta σ H λx H1=>∃c,x=.bl c/\if c=true then Q (.bl true) H1 else tb σ H1 Q
def zH(ta:TE):TE:=fun σ H Q=>ta σ H λx H1=>∃c,x=.bl c/\Q (.bl (!c)) H1
theorem fO{op}{t:TE}(h:PE X a t):PE X (.BoolOp op [a] pos) t:=λpins s σ H Q I hw=>BoolOp_one (h pins s σ H Q I hw)
theorem gU(ha:PE X a ta)(hb:PE X (.BoolOp .And (b::rest) pos) tb):PE X (.BoolOp .And (a::b::rest) pos) (zN ta tb):=by
 intro pins s σ H Q I h
 refine BoolOp_and (thn (ha pins s σ H _ I h) λv s1 ⟨x,H1,I1,r1,q1⟩=>?_)
 obtain ⟨c,rfl,q1⟩:=q1
 cases r1
 refine wpAny_truthy_bool ?_
 cases c with
 | true=>exact hb pins s1 σ H1 Q I1 q1
 | false=>exact ⟨.bl false,H1,I1,rfl,q1⟩
theorem xu(ha:PE X a ta)(hb:PE X (.BoolOp .Or (b::rest) pos) tb):PE X (.BoolOp .Or (a::b::rest) pos) (AH ta tb):=by
 intro pins s σ H Q I h
 refine BoolOp_or (thn (ha pins s σ H _ I h) λv s1 ⟨x,H1,I1,r1,q1⟩=>?_)
 obtain ⟨c,rfl,q1⟩:=q1
 cases r1
 refine wpAny_truthy_bool ?_
 cases c with
 | false=>exact hb pins s1 σ H1 Q I1 q1
 | true=>exact ⟨.bl true,H1,I1,rfl,q1⟩
theorem yt(ha:PE X a ta):PE X (.UnaryOp .Not a pos) (zH ta):=by
 intro pins s σ H Q I h
 refine UnaryOp_ (thn (ha pins s σ H _ I h) λv s1 ⟨x,H1,I1,r1,q1⟩=>?_)
 obtain ⟨c,rfl,q1⟩:=q1
 cases r1
 exact not_of (wpAny_truthy_bool ⟨.bl (!c),H1,I1,rfl,q1⟩)
def tIf(t:TT)(ta tb:TE):TE:=fun σ H Q=>t σ H λc H1=>if c=true then ta σ H1 Q else tb σ H1 Q
theorem jP{c:Expr}(hc:PT X c tA)(ha:PE X a ta)(hb:PE X b tb):PE X (.IfExp c a b pos) (tIf tA ta tb):=by
 intro pins s σ H Q I h
 refine wpAny_IfExp (thn (hc pins s σ H _ I h) λd s1 ⟨H1,I1,q1⟩=>?_)
 cases d with
 | true=>exact ha pins s1 σ H1 Q I1 q1
 | false=>exact hb pins s1 σ H1 Q I1 q1
end
end L2
namespace L2
open PySem PySem.Spec PyProof.Rows
def SqL(K:Frag)(H:Hp)(a:Addr)(xs:List V):Prop :=
 Rd H a (.lst xs) \/
  ∃(o:Obj) (its:Array Value) (n:Nat),K.lookup a=some o/\o.cls=.type "list"/\o.dict=none/\o.data=.seq its n/\its.size<=sizeLine/\Vals xs its.toList
def SqT(K:Frag)(H:Hp)(a:Addr)(xs:List V):Prop :=
 Rd H a (.tup xs) \/
  ∃(o:Obj) (its:Array Value) (n:Nat),K.lookup a=some o/\o.cls=.type "tuple"/\o.data=.seq its n/\its.size<=sizeLine/\Vals xs its.toList
def A2:Value->Option V
 | .none=>some .non
 | .bool b=>some (.bl b)
 | .int i _=>some (.int i)
 | .str x _=>some (.str x)
 | .bytes b _=>some (.byt b)
 | .float b _=>some (.flt b)
 | .ref a=>some (.ref a)
 | .type n=>some (.ty n)
 | _=>none
theorem RelV.abs{x:V}{u:Value}(r:RelV x u):A2 u=some x:=by
 cases x with
 | non=>cases r;rfl
 | bl _=>cases r;rfl
 | int _=>obtain ⟨t,rfl⟩:=r;rfl
 | str _=>obtain ⟨t,rfl⟩:=r;rfl
 | byt _=>obtain ⟨t,rfl⟩:=r;rfl
 | flt _=>obtain ⟨t,rfl⟩:=r;rfl
 | ref _=>cases r;rfl
 | ty _=>cases r;rfl
theorem RelV.inj{x y:V}{u:Value}(r:RelV x u)(q:RelV y u):x=y:=Δ (r.abs.symm.trans q.abs)
theorem Vals.inj:∀{xs ys:List V} {us:List Value},Vals xs us->Vals ys us->xs=ys
 | _,_,_,.nil,.nil=>rfl
 | _,_,_,.cons r t,.cons r' t'=>by rw [r.inj r',Vals.inj t t']
section
variable {X:Cx}{pins:List (Addr×Obj)}{σ:St}{H:Hp}{s:Shared}{a:Addr}{xs ys:List V}
theorem SqL.of{K:Frag}(h:H a=some (.lst xs)):SqL K H a xs:=.inl (.inl h)
theorem SqT.of{K:Frag}(h:H a=some (.tup xs)):SqT K H a xs:=.inl (.inl h)
theorem Inv.list(I:Inv X pins σ H s)(h:SqL X.K H a xs):∃its:List Value,Vals xs its/\PlainL s.heap a its.toArray/\xs.length<=sizeLine:=by
 rcases h with h | ⟨o,its,n,hk,hc,hd,hs,hz,r⟩
 ·obtain ⟨z,its,n,r,e⟩:=h.ok I.hok
  exact ⟨its,r,⟨_,n,e,rfl,rfl,rfl⟩,z⟩
 ·refine ⟨its.toList,r,⟨o,n,I.kIn a o hk,hc,hd,by simpa using hs⟩,?_⟩
  have e:=r.length
  simp only [Array.length_toList] at e
  omega
theorem Inv.tuple(I:Inv X pins σ H s)(h:SqT X.K H a xs):∃its:List Value,Vals xs its/\IsTup s.heap a its.toArray/\xs.length<=sizeLine:=by
 rcases h with h | ⟨o,its,n,hk,hc,hs,hz,r⟩
 ·obtain ⟨z,its,r,p⟩:=h.ok I.hok
  exact ⟨its,r,p,z⟩
 ·refine ⟨its.toList,r,⟨o,I.kIn a o hk,hc,n,by simpa using hs⟩,?_⟩
  have e:=r.length
  simp only [Array.length_toList] at e
  omega
theorem Inv.list_inj(I:Inv X pins σ H s)(h:SqL X.K H a xs)(h':SqL X.K H a ys):xs=ys:=by
 obtain ⟨its,r,⟨o,n,e,_,_,d⟩,_⟩:=I.list h
 obtain ⟨its',r',⟨o',n',e',_,_,d'⟩,_⟩:=I.list h'
 rw [e] at e';cases e'
 rw [d] at d'
 injection d' with d1 _
 have:its=its':=by simpa using congrArg Array.toList d1
 subst this
 exact r.inj r'
theorem Inv.tuple_inj(I:Inv X pins σ H s)(h:SqT X.K H a xs)(h':SqT X.K H a ys):xs=ys:=by
 obtain ⟨its,r,⟨o,e,_,n,d⟩,_⟩:=I.tuple h
 obtain ⟨its',r',⟨o',e',_,n',d'⟩,_⟩:=I.tuple h'
 rw [e] at e';cases e'
 rw [d] at d'
 injection d' with d1 _
 have:its=its':=by simpa using congrArg Array.toList d1
 subst this
 exact r.inj r'
end
abbrev Cx.wish(X:Cx)(E:Value->Shared->Prop):Cx:={X with xe:=E}
abbrev Cx.nox(X:Cx):Cx:=X.wish λ_ _=>False
theorem Cx.Ok.wish{X:Cx}(ok:X.Ok)(E:Value->Shared->Prop):(X.wish E).Ok :=
 ⟨ok.mod,ok.kind,ok.glob,ok.blt,ok.above,ok.inj,ok.has,ok.cab,ok.hd,ok.frames,ok.stk,ok.exf,ok.bs,ok.bsz,ok.noex,ok.exfs,ok.funs,ok.frf⟩
theorem Cx.Ok.unwish{X:Cx}{E:Value->Shared->Prop}(ok:(X.wish E).Ok):X.Ok :=
 ⟨ok.mod,ok.kind,ok.glob,ok.blt,ok.above,ok.inj,ok.has,ok.cab,ok.hd,ok.frames,ok.stk,ok.exf,ok.bs,ok.bsz,ok.noex,ok.exfs,ok.funs,ok.frf⟩
section
variable {X:Cx}{pins:List (Addr×Obj)}{σ:St}{H:Hp}{s:Shared}{E:Value->Shared->Prop}
theorem Inv.wish(I:Inv X pins σ H s)(E:Value->Shared->Prop):Inv (X.wish E) pins σ H s:=⟨I.ok.wish E,I.os,I.bare,I.base,I.loc,I.cell,I.free,I.freeC,I.pin,I.hok,I.len⟩
theorem Inv.unwish(I:Inv (X.wish E) pins σ H s):Inv X pins σ H s:=⟨I.ok.unwish,I.os,I.bare,I.base,I.loc,I.cell,I.free,I.freeC,I.pin,I.hok,I.len⟩
theorem SP.unwish{D:Ends}{f:Flow}{s':Shared}(h:SP (X.wish E) pins D f s'):SP X pins D f s':=by
 cases f with
 | next=>obtain ⟨σ',H',I,q⟩:=h;exact ⟨σ',H',I.unwish,q⟩
 | brk=>obtain ⟨σ',H',I,q⟩:=h;exact ⟨σ',H',I.unwish,q⟩
 | cont=>obtain ⟨σ',H',I,q⟩:=h;exact ⟨σ',H',I.unwish,q⟩
 | ret u=>obtain ⟨v,σ',H',I,r,q⟩:=h;exact ⟨v,σ',H',I.unwish,r,q⟩
theorem PSs.nox{st:List Stmt}{t:TS}(h:PSs X.nox st t):PSs X st t:=λpins s σ H D I hw =>
 wpAny_mono (h pins s σ H D (I.wish _) hw) (λ_ _ q=>q.unwish) λ_ _ z=>False.elim z
end
section
variable {X:Cx}{st:Stmt}{rest:List Stmt}{t u:TS}{e:Expr}{te:TE}{pos:Pos}
def zI:TS:=λD σ H=>D.nx σ H
def AF(t u:TS):TS:=λD σ H=>t {D with nx:=u D} σ H
theorem av:PSs X [] zI:=λ_ _ σ H _ I h=>wpAny_execs_nil ⟨σ,H,I,h⟩
theorem ac(h1:PS X st t)(h2:PSs X rest u):PSs X (st::rest) (AF t u):=by
 intro pins s σ H D I h
 refine wpAny_execs_cons (thn (h1 pins s σ H {D with nx:=u D} I h) λf s1 q=>?_)
 cases f with
 | next =>
  obtain ⟨σ',H',I',q⟩:=q
  exact h2 pins s1 σ' H' D I' q
 | ret v=>exact q
 | brk=>exact q
 | cont=>exact q
theorem af(h1:PS X st t):PSs X [st] t:=by
 intro pins s σ H D I h
 refine wpAny_execs_cons (thn (h1 pins s σ H D I h) λf s1 q=>?_)
 cases f with
 | next=>exact wpAny_execs_nil q
 | ret v=>exact q
 | brk=>exact q
 | cont=>exact q
def xY:TS:=λD σ H=>D.bk σ H
theorem tN:PS X (.Break pos) xY:=λ_ _ σ H _ I h=>wpAny_Break ⟨σ,H,I,h⟩
theorem Inv.quiet{pins:List (Addr×Obj)}{σ:St}{H:Hp}{s:Shared}(I:Inv X pins σ H s):interactive X.env=false:=by simp [interactive,I.ok.kind]
def zL(te:TE):TS:=λD σ H=>te σ H λ_ H1=>D.nx σ H1
theorem bf(he:PE X e te)(hs:swapsWith e none pos.line X.env=pure false:=by rfl):PS X (.Expr e pos) (zL te):=by
 intro pins s σ H D I h
 exact wpAny_Expr_any (thn (he pins s σ H _ I h) λv s1 ⟨x,H1,I1,r1,q1⟩=>⟨σ,H1,I1,q1⟩) I.quiet hs
def AG(te:TE):TS:=λD σ H=>te σ H D.rt
theorem aq(he:PE X e te):PS X (.Return (some e) pos) (AG te):=by
 intro pins s σ H D I h
 exact wpAny_Return_some (thn (he pins s σ H _ I h) λv s1 ⟨x,H1,I1,r1,q1⟩=>⟨x,σ,H1,I1,r1,q1⟩)
def zF:TS:=λD _ H=>D.rt .non H
theorem wf:PS X (.Return none pos) zF:=λ_ _ σ H _ I h=>wpAny_Return_none ⟨.non,σ,H,I,rfl,h⟩
def AK(c:TT)(t u:TS):TS:=λD σ H=>c σ H λb H1=>if b=true then t D σ H1 else u D σ H1
theorem aE{c:Expr}{a b:List Stmt}{tc:TT}(hc:PT X c tc)(ha:PSs X a t)(hb:PSs X b u):PS X (.If c a b pos) (AK tc t u):=by
 intro pins s σ H D I h
 refine wpAny_If (thn (hc pins s σ H _ I h) λd s1 ⟨H1,I1,q1⟩=>?_)
 cases d with
 | true=>exact ha pins s1 σ H1 D I1 q1
 | false=>exact hb pins s1 σ H1 D I1 q1
def xT:TS:=λ_ _ _=>False
theorem aH{sts:List Stmt}:PSs X sts xT:=λ_ _ _ _ _ _ h=>h.elim
end
abbrev TG:=V->St->Hp->(St->Hp->Prop)->Prop
abbrev TGs:=List V->St->Hp->(St->Hp->Prop)->Prop
def PG(X:Cx)(target:Expr)(t:TG):Prop :=
 ∀(pins:List (Addr×Obj)) (s:Shared) (σ:St) (H:Hp) (v:V) (u:Value) (Q:St->Hp->Prop),Inv X pins σ H s->RelV v u->t v σ H Q ->
  wpAny (model X.prog X.w) X.A (assign target X.env u) (λ_ s'=>∃σ' H',Inv X pins σ' H' s'/\Q σ' H') X.xe s
def PGs(X:Cx)(ts:List Expr)(t:TGs):Prop :=
 ∀(pins:List (Addr×Obj)) (s:Shared) (σ:St) (H:Hp) (vs:List V) (us:List Value) (Q:St->Hp->Prop),Inv X pins σ H s->Vals vs us->t vs σ H Q ->
  wpAny (model X.prog X.w) X.A (assignInOrder ((assignEach ts X.env).map (·.2)) us) (λ_ s'=>∃σ' H',Inv X pins σ' H' s'/\Q σ' H') X.xe s
section
variable {X:Cx}{pos:Pos}
def oj(i:Nat):TG:=λv σ H Q=>Q (σ.set i (some v)) H
theorem cn{i:Nat}{x:Str}(hN:X.N.Nodup)(hi:X.N[i]?=some x)(hx:Loc X.env.scope x)(hf:X.fn x=true\/X.env.scope.names.lookup x=some .local:=by first | exact .inl rfl | exact .inr rfl | assumption):PG X (.Name x pos) (oj i):=by
 intro pins s σ H v u Q I r h
 exact wpAny_assign_Name (jA I hN hi hx r (λs' I'=>⟨_,H,I',h⟩) hf)
def A1:TGs:=λvs σ H Q=>vs=[]/\Q σ H
def Aq(t:TG)(u:TGs):TGs:=λvs σ H Q=>∃v r,vs=v::r/\t v σ H fun σ' H'=>u r σ' H' Q
theorem qm:PGs X [] A1:=by
 intro pins s σ H vs us Q I r h
 obtain ⟨e,h⟩:=h
 subst e
 cases r
 exact assignInOrder_nil ⟨σ,H,I,h⟩
theorem eG{e:Expr}{es:List Expr}{t:TG}{u:TGs}(h1:PG X e t)(h2:PGs X es u)
  (hs:(assignEach (e::es) X.env).map (·.2)=assign e X.env::(assignEach es X.env).map (·.2):=by rfl):PGs X (e::es) (Aq t u):=by
 intro pins s σ H vs us Q I r h
 obtain ⟨v,vr,e1,h⟩:=h
 subst e1
 cases r with
 | cons r rr =>
  rw [hs]
  refine assignInOrder_cons (thn (h1 pins s σ H _ _ _ I r h) λ_ s1 ⟨σ1,H1,I1,q1⟩=>?_)
  exact h2 pins s1 σ1 H1 _ _ Q I1 rr q1
def A0(K:Frag)(n:Nat)(t:TGs):TG:=λv σ H Q=>∃a xs,v=.ref a/\SqT K H a xs/\xs.length=n/\t xs σ H Q
theorem tQ{es:List Expr}{k:Nat}{t:TGs}{n:Nat}(hc:X.calm=true)(h:PGs X es t)
  (hn:(assignEach es X.env).length=n:=by rfl)(hst:(assignEach es X.env).findIdx? (·.1)=none:=by rfl):PG X (.Tuple es k pos) (A0 X.K n t):=by
 intro pins s σ H v u Q I r hw
 obtain ⟨a,xs,e1,hq,hl,hw⟩:=hw
 subst e1
 cases r
 obtain ⟨its,rv,ht,hz⟩:=I.tuple hq
 refine assign_Tuple_tuple (I.ok.hd hc) ht (by simp [hn,← hl,rv.length]) hst λh' hx=>?_
 have I1:Inv X pins σ H {s with heap:=h'}:=I.kept (t':=s.toks) λb o e=>hx b o (Φ (η e)) e
 exact h pins _ σ H xs _ Q I1 (by simpa using rv) hw
def xZ(te:TE)(g:TG):TS:=λD σ H=>te σ H λx H1=>g x σ H1 D.nx
theorem yl{tg e:Expr}{te:TE}{g:TG}(he:PE X e te)(hg:PG X tg g)(hs:swapsWithSole [tg] e pos.line X.env=pure false:=by rfl)(hw:swappedStores [tg] e X.env=pure none:=by rfl)
  (h1:(assignEach [tg] X.env).map (·.2)=[assign tg X.env]:=by rfl):PS X (.Assign [tg] e pos) (xZ te g):=by
 intro pins s σ H D I h
 refine wpAny_Assign_stores (thn (he pins s σ H _ I h) λv s1 ⟨x,H1,I1,r1,q1⟩=>?_) hs hw
 rw [h1]
 exact thn (hg pins s1 σ H1 x v _ I1 r1 q1) λ_ s2 q=>q
theorem aC{i:Nat}{x:Str}{e:Expr}{te:TE}{pos':Pos}(hN:X.N.Nodup)(hi:X.N[i]?=some x)(hx:Loc X.env.scope x)(he:PE X e te)(hs:swapsWith e (some (.Name x pos')) pos.line X.env=pure false:=by rfl)(hf:X.fn x=true\/X.env.scope.names.lookup x=some .local:=by first | exact .inl rfl | exact .inr rfl | assumption) :
  PS X (.Assign [.Name x pos'] e pos) (xZ te (oj i)):=by
 intro pins s σ H D I h
 refine wpAny_Assign_Name (thn (he pins s σ H _ I h) λv s1 ⟨y,H1,I1,r1,q1⟩=>?_) hs
 exact jA I1 hN hi hx r1 (λs2 I2=>⟨_,H1,I2,q1⟩) hf
end
section
variable {X:Cx}{pos:Pos}
def xR(c:TT)(tb:TS):TS:=λD σ H=>∃W:Nat->St->Hp->Prop,(∃m,W m σ H)/\∀m σ H,W m σ H ->
 c σ H λb H1=>if b=true then ∃N:St->Hp->Prop,(∀σ' H',N σ' H'->∃m',m'<m/\W m' σ' H')/\tb {D with nx:=N,ct:=N,bk:=D.nx} σ H1 else D.nx σ H1
theorem jO{c:Expr}{body:List Stmt}{tc:TT}{tb:TS}(hp:PassesOwn (model X.prog X.w) X.A X.env X.xe)(hc:PT X c tc)(hb:PSs X body tb):PS X (.While c body [] pos) (xR tc tb):=by
 intro pins s σ H D I h
 obtain ⟨W,⟨m0,w0⟩,turn⟩:=h
 refine wpAny_While (codeAny_whileLoop (λn s'=>∃σ' H',Inv X pins σ' H' s'/\W n σ' H') ?_ m0 ⟨σ,H,I,w0⟩)
 rintro n s1 ⟨σ1,H1,I1,w1⟩
 refine wpAny_passesOwn hp (thn (hc pins s1 σ1 H1 _ I1 (turn n σ1 H1 w1)) λb s2 ⟨H2,I2,q2⟩=>?_)
 cases b with
 | true =>
  obtain ⟨N,hN,q2⟩:=q2
  rw [if_pos rfl]
  refine wpAny_passesOwn hp (thn (hb pins s2 σ1 H2 _ I2 q2) λf s3 q3=>?_)
  cases f with
  | next =>
   obtain ⟨σ3,H3,I3,n3⟩:=q3
   obtain ⟨m',hm,w3⟩:=hN σ3 H3 n3
   exact ⟨m',hm,σ3,H3,I3,w3⟩
  | cont =>
   obtain ⟨σ3,H3,I3,n3⟩:=q3
   obtain ⟨m',hm,w3⟩:=hN σ3 H3 n3
   exact ⟨m',hm,σ3,H3,I3,w3⟩
  | brk=>exact q3
  | ret v=>exact q3
 | false =>
  rw [if_neg Bool.false_ne_true]
  exact wpAny_execs_nil ⟨σ1,H2,I2,q2⟩
end
structure It where
 go:Nat->Hp->Prop
 yld:Nat->Hp->V->Hp->Prop
 stop:Nat->Hp->Prop
def mL(X:Cx)(pins:List (Addr×Obj))(H:Hp)(b:Addr):Prop :=
 H b=none/\b≠X.env.locals/\b∉X.fs/\(b∈X.ex\/X.s₀.heap.objs.size<=b)/\(∀x c,X.env.cells.lookup x=some c->c≠b)/\∀p∈X.pn++pins,p.1≠b
theorem Inv.fpOk{X:Cx}{pins:List (Addr×Obj)}{σ:St}{H H':Hp}{s:Shared}{b:Addr}(I:Inv X pins σ H s)(hb:s.heap.objs.size<=b)(hn:H' b=none):mL X pins H' b:=by
 refine ⟨hn,Nat.ne_of_gt (Nat.lt_of_lt_of_le I.lt hb),I.nofs hb,.inr (Λ I.sz hb),λx c e z=>?_,λp hp z=>?_⟩
 ·obtain ⟨v,q⟩:=I.cell x c e
  exact absurd (Nat.lt_of_lt_of_le q.lt (by rw [z];exact hb)) (Nat.lt_irrefl _)
 ·exact absurd (Nat.lt_of_lt_of_le (η (I.pin p hp).1) (by rw [z];exact hb)) (Nat.lt_irrefl _)
structure rX(P:Program)(w:World)(K:Frag)(tg:Expr)(J:It)(fp:List Addr)(it:Addr)(tn:Nat->Heap->Prop):Prop where
 mem:it∈fp
 obj:∀i h,tn i h->∀b∈fp,∃o,h.get? b=some o/\∀v,o.data≠.cell v
 keep:∀i h h',tn i h->(∀b∈fp,∀o,h.get? b=some o->h'.get? b=some o)->tn i h'
 item:∀(X:Cx),X.prog=P->X.w=w->X.K=K->X.calm=true->∀(i:Nat) (pins:List (Addr×Obj)) (s:Shared) (σ:St) (H:Hp) (E:Value->Shared->Prop),Inv X pins σ H s->(∀b∈fp,mL X pins H b)->tn i s.heap->J.go i H ->
  wpAny (model P w) X.A (pyNext (.ref it)) (λr s1=>∃u,r=some u /\
   wpAny (model P w) X.A (letOwnedTupleGo tg (.ref it) u) (λ_ s2=>∃x H',Inv X pins σ H' s2/\RelV x u/\J.yld i H x H'/\tn (i+1) s2.heap/\∀b∈fp,H' b=none) E s1) E s
 done:∀(X:Cx),X.prog=P->X.w=w->X.K=K->X.calm=true->∀(i:Nat) (pins:List (Addr×Obj)) (s:Shared) (σ:St) (H:Hp) (E:Value->Shared->Prop),Inv X pins σ H s->(∀b∈fp,mL X pins H b)->tn i s.heap->J.stop i H ->
  wpAny (model P w) X.A (pyNext (.ref it)) (λr s1=>r=none/\Inv X pins σ H s1) E s
 self:∀(A:Around) (i:Nat) (s:Shared) (Q:Value->Shared->Prop) (E:Value->Shared->Prop),tn i s.heap->Q (.ref it) s->wpAny (model P w) A (pyIter (.ref it)) Q E s
abbrev TI:=St->Hp->(It->Hp->Prop)->Prop
def PIE(X:Cx)(pins:List (Addr×Obj))(σ:St)(tg:Expr)(R:It->Hp->Prop)(itv:Value)(s2:Shared):Prop :=
 ∃(it:Addr) (fp:List Addr) (tn:Nat->Heap->Prop) (J:It) (H':Hp),itv=.ref it/\Inv X pins σ H' s2/\rX X.prog X.w X.K tg J fp it tn/\tn 0 s2.heap/\(∀b∈fp,mL X pins H' b)/\R J H'
def PI(X:Cx)(tg iter:Expr)(wi:TI):Prop :=
 ∀(pins:List (Addr×Obj)) (s:Shared) (σ:St) (H:Hp) (R:It->Hp->Prop),Inv X pins σ H s->wi σ H R ->
  wpAny (model X.prog X.w) X.A (eval iter X.env) (λv s1=>wpAny (model X.prog X.w) X.A (pyIter v) (PIE X pins σ tg R) X.xe s1) X.xe s
theorem qy{M:Model}{A:Around}{E:Value->Shared->Prop}{s:Shared}{tg:Expr}{it:Addr}{u:Value}{o:Obj}{n:String}{vs:Array Value}{Q:Unit->Shared->Prop}(ho:s.heap.get? it=some o)(hc:o.cls=.type n)(hd:o.data=.fields vs)
  (hn:["enumerate","zip","dict_itemiterator","dict_reverseitemiterator","odict_iterator","itertools.zip_longest","itertools.pairwise"].contains n=false)(hQ:Q () s):wpAny M A (letOwnedTupleGo tg (.ref it) u) Q E s:=by
 unfold letOwnedTupleGo
 cases tg<;>first
  | exact π hQ
  | (cases u<;>first
    | exact π hQ
    | (refine ε (wpAny_load ho ?_)
       rw [hc,hd]
       show wpAny M A (if (["enumerate","zip","dict_itemiterator","dict_reverseitemiterator","odict_iterator","itertools.zip_longest","itertools.pairwise"].contains n&&vs[0]?==some (rawInt _))=true then _ else _) Q E s
       rw [if_neg (by intro h;rw [hn,Bool.false_and] at h;cases h)]
       exact π hQ))
def Itl(K:Frag)(a:Addr):It :=
 ⟨λi H=>∃xs x,SqL K H a xs/\xs[i]?=some x,λi H x H'=>H'=H/\∀xs,SqL K H a xs->xs[i]?=some x,λi H=>∃xs,SqL K H a xs/\xs.length<=i⟩
def Itt(K:Frag)(a:Addr):It :=
 ⟨λi H=>∃xs x,SqT K H a xs/\xs[i]?=some x,λi H x H'=>H'=H/\∀xs,SqT K H a xs->xs[i]?=some x,λi H=>∃xs,SqT K H a xs/\xs.length<=i⟩
def Itr(lo:Int)(n:Nat):It:=⟨λi _=>i<n,λi H x H'=>H'=H/\x=.int (lo+i),λi _=>n<=i⟩
theorem qN{P:Program}{w:World}{K:Frag}{tg:Expr}(a it:Addr):rX P w K tg (Itl K a) [it] it (λi h=>h.IsListIter it a i) where
 mem:=by simp
 obj:=λi h st b hb=>by
  have e:b=it:=by simpa using hb
  subst e
  obtain ⟨o,e,c,d⟩:=st
  exact ⟨o,e,λv z=>by rw [d] at z;cases z⟩
 keep:=λi h h' st k=>st.at λo e=>k it (by simp) o e
 item:=by
  intro X hP hw hK hc i pins s σ H E I hf st hg
  subst hP hw hK
  obtain ⟨xs,x,hq,hx⟩:=hg
  obtain ⟨its,rv,p,hz⟩:=I.list hq
  obtain ⟨u,hu,ru⟩:=rv.get hx
  obtain ⟨f0,f1,f2,f3,f4,f5⟩:=hf it (by simp)
  refine wpAny_pyNext_list_item st p.isList (x:=u) (by simpa using hu) λh' st' sb=>?_
  have I1:Inv X pins σ H {s with heap:=h'}:=I.turned (t':=s.toks) (λb o hb e=>(sb.2 b hb).trans e) f0 f1 f3 f4 f5
  obtain ⟨o,e,c,d⟩:=id st'
  exact ⟨u,rfl,qy (s:={s with heap:=h'}) e c d ζ ⟨x,H,I1,ru,⟨rfl,λys hy=>by rw [I.list_inj hy hq];exact hx⟩,st',λb hb=>(hf b hb).1⟩⟩
 done:=by
  intro X hP hw hK hc i pins s σ H E I hf st hg
  subst hP hw hK
  obtain ⟨xs,hq,hx⟩:=hg
  obtain ⟨its,rv,p,hz⟩:=I.list hq
  obtain ⟨f0,f1,f2,f3,f4,f5⟩:=hf it (by simp)
  have hl:=rv.length
  exact wpAny_pyNext_list_end (I.ok.hd hc) st p.isList (by simp;omega) λh' eb=>⟨rfl,I.turned (t':=s.toks) (λb o hb e=>eb b o hb e) f0 f1 f3 f4 f5⟩
 self:=λ_ _ _ _ _ st h=>wpAny_pyIter_listiter st h
theorem oH{P:Program}{w:World}{K:Frag}{tg:Expr}(a it:Addr):rX P w K tg (Itt K a) [it] it (λi h=>h.IsTupleIter it a i) where
 mem:=by simp
 obj:=λi h st b hb=>by
  have e:b=it:=by simpa using hb
  subst e
  obtain ⟨o,e,c,d⟩:=st
  exact ⟨o,e,λv z=>by rw [d] at z;cases z⟩
 keep:=λi h h' st k=>st.at λo e=>k it (by simp) o e
 item:=by
  intro X hP hw hK hc i pins s σ H E I hf st hg
  subst hP hw hK
  obtain ⟨xs,x,hq,hx⟩:=hg
  obtain ⟨its,rv,p,hz⟩:=I.tuple hq
  obtain ⟨u,hu,ru⟩:=rv.get hx
  obtain ⟨f0,f1,f2,f3,f4,f5⟩:=hf it (by simp)
  refine wpAny_pyNext_tuple_item st (show s.heap.IsTuple a its.toArray from p) (x:=u) (by simpa using hu) λh' st' sb=>?_
  have I1:Inv X pins σ H {s with heap:=h'}:=I.turned (t':=s.toks) (λb o hb e=>(sb.2 b hb).trans e) f0 f1 f3 f4 f5
  obtain ⟨o,e,c,d⟩:=id st'
  exact ⟨u,rfl,qy (s:={s with heap:=h'}) e c d ζ ⟨x,H,I1,ru,⟨rfl,λys hy=>by rw [I.tuple_inj hy hq];exact hx⟩,st',λb hb=>(hf b hb).1⟩⟩
 done:=by
  intro X hP hw hK hc i pins s σ H E I hf st hg
  subst hP hw hK
  obtain ⟨xs,hq,hx⟩:=hg
  obtain ⟨its,rv,p,hz⟩:=I.tuple hq
  obtain ⟨f0,f1,f2,f3,f4,f5⟩:=hf it (by simp)
  have hl:=rv.length
  exact wpAny_pyNext_tuple_end (I.ok.hd hc) st (show s.heap.IsTuple a its.toArray from p) (by simp;omega) λh' eb=>⟨rfl,I.turned (t':=s.toks) (λb o hb e=>eb b o hb e) f0 f1 f3 f4 f5⟩
 self:=λ_ _ _ _ _ st h=>wpAny_pyIter_tupleiter st h
theorem oI{P:Program}{w:World}{K:Frag}{tg:Expr}(it:Addr)(lo:Int)(n:Nat):rX P w K tg (Itr lo n) [it] it (λi h=>IsRangeIter h it (lo+(i:Nat)*1) ((n:Int)-(i:Nat)) 1) where
 mem:=by simp
 obj:=λi h st b hb=>by
  have e:b=it:=by simpa using hb
  subst e
  exact ⟨_,st,λv z=>by
   have z':Data.fields _=Data.cell v:=z
   cases z'⟩
 keep:=λi h h' st k=>k it (by simp) _ st
 item:=by
  intro X hP hw hK hc i pins s σ H E I hf st hg
  subst hP hw hK
  obtain ⟨f0,f1,f2,f3,f4,f5⟩:=hf it (by simp)
  have W:=Walks.range (prog:=X.prog) (w:=X.w) (I.ok.hd hc) it lo 1 n
  refine W.item i s _ _ hg st λv h' tk hv st' kk=>?_
  obtain ⟨t,rfl⟩:=hv
  have I1:Inv X pins σ H {s with heap:=h',toks:=tk}:=I.turned (λb o hb e=>kk b o (by simpa using hb) e) f0 f1 f3 f4 f5
  refine ⟨_,rfl,qy (s:={s with heap:=h',toks:=tk}) (n:="range_iterator") st' rfl rfl ζ ⟨.int (lo+i),H,I1,⟨t,?_⟩,⟨rfl,rfl⟩,st',λb hb=>(hf b hb).1⟩⟩
  rw [Int.mul_one]
 done:=by
  intro X hP hw hK hc i pins s σ H E I hf st hg
  subst hP hw hK
  obtain ⟨f0,f1,f2,f3,f4,f5⟩:=hf it (by simp)
  exact wpAny_pyNext_range_end (I.ok.hd hc) st (by have:n<=i:=hg;omega) λh' eb=>⟨rfl,I.turned (t':=s.toks) (λb o hb e=>eb b o hb e) f0 f1 f3 f4 f5⟩
 self:=λ_ _ _ _ _ st h=>wpAny_pyIter_rangeiter st h
end L2
namespace L2
open PySem PySem.Spec PyProof.Rows
section
variable {X:Cx}{tg:Expr}
def Am(K:Frag)(tl:TE):TI:=fun σ H R=>tl σ H λx H1=>∃a,x=.ref a/\(∃xs,SqL K H1 a xs)/\R (Itl K a) H1
def AY(K:Frag)(tl:TE):TI:=fun σ H R=>tl σ H λx H1=>∃a,x=.ref a/\(∃xs,SqT K H1 a xs)/\R (Itt K a) H1
theorem ju{l:Expr}{tl:TE}(hl:PE X l tl):PI X tg l (Am X.K tl):=by
 intro pins s σ H R I h
 refine thn (hl pins s σ H _ I h) λv s1 ⟨x,H1,I1,r1,q1⟩=>?_
 obtain ⟨a,e,⟨xs,hq⟩,q⟩:=q1
 subst e
 cases r1
 obtain ⟨its,rv,p,hz⟩:=I1.list hq
 refine wpAny_pyIter_list p.isList ?_
 refine ⟨s1.heap.objs.size,[s1.heap.objs.size],_,_,H1,rfl,I1.kept (t':=s1.toks) λb o e=>ρ _ e,qN a _,⟨_,ψ _ rfl,rfl,rfl⟩,λb hb=>?_,q⟩
 have e:b=s1.heap.objs.size:=by simpa using hb
 subst e
 exact I1.fpOk (ι _) (I1.hok.fresh (ι _))
theorem tO{l:Expr}{tl:TE}(hl:PE X l tl):PI X tg l (AY X.K tl):=by
 intro pins s σ H R I h
 refine thn (hl pins s σ H _ I h) λv s1 ⟨x,H1,I1,r1,q1⟩=>?_
 obtain ⟨a,e,⟨xs,hq⟩,q⟩:=q1
 subst e
 cases r1
 obtain ⟨its,rv,p,hz⟩:=I1.tuple hq
 refine wpAny_pyIter_tuple (show s1.heap.IsTuple a its.toArray from p) ?_
 refine ⟨s1.heap.objs.size,[s1.heap.objs.size],_,_,H1,rfl,I1.kept (t':=s1.toks) λb o e=>ρ _ e,oH a _,⟨_,ψ _ rfl,rfl,rfl⟩,λb hb=>?_,q⟩
 have e:b=s1.heap.objs.size:=by simpa using hb
 subst e
 exact I1.fpOk (ι _) (I1.hok.fresh (ι _))
theorem tH{pins:List (Addr×Obj)}{σ:St}{H:Hp}{s:Shared}{R:It->Hp->Prop}{E:Value->Shared->Prop}{lo hi:Int}{t u v:Tok}{tk:Nat}(I:Inv X pins σ H s)(h1:-(2 ^ 62)<=lo)(h2:lo<2 ^ 62)(h3:-(2 ^ 62)<=hi)(h4:hi<2 ^ 62)
  (q:R (Itr lo (hi-lo).toNat) H):wpAny (model X.prog X.w) X.A (pyIter (.ref s.heap.objs.size)) (PIE X pins σ tg R) E {s with heap:=s.heap.push {cls:=.type "range",data:=.fields #[.int lo t,.int hi u,.int 1 v]},toks:=tk}:=by
 refine wpAny_pyIter_range (IsRange.new ..) (small_one h1 h2 h3 h4) ?_
 have I1:Inv X pins σ H {s with heap:=s.heap.push {cls:=.type "range",data:=.fields #[.int lo t,.int hi u,.int 1 v]},toks:=tk}:=I.kept λb o e=>ρ _ e
 refine ⟨(s.heap.push {cls:=.type "range",data:=.fields #[.int lo t,.int hi u,.int 1 v]}).objs.size,[(s.heap.push {cls:=.type "range",data:=.fields #[.int lo t,.int hi u,.int 1 v]}).objs.size],_,_,H,rfl,
  I1.kept (t':=tk) λb o e=>ρ _ e,oI _ lo (hi-lo).toNat,?_,λb hb=>?_,q⟩
 ·have e1:lo+((0:Nat):Int)*1=lo:=by simp
  have e2:(((hi-lo).toNat:Nat):Int)-((0:Nat):Int)=Builtin.Range.rangeSize lo hi 1:=by rw [rangeSize_one];split<;>omega
  show IsRangeIter _ _ (lo+((0:Nat):Int)*1) ((((hi-lo).toNat:Nat):Int)-((0:Nat):Int)) 1
  rw [e1,e2]
  exact ψ _ rfl
 ·have e:b=(s.heap.push {cls:=.type "range",data:=.fields #[.int lo t,.int hi u,.int 1 v]}).objs.size:=by simpa using hb
  subst e
  exact I1.fpOk (ι _) (I1.hok.fresh (ι _))
def Ak(ta:TA):TI:=fun σ H R=>ta σ H λvs H1=>∃j:Int,vs=[.int j]/\-(2 ^ 62)<=j/\j<2 ^ 62/\R (Itr 0 j.toNat) H1
theorem cS{a:Expr}{ta:TA}{p pos:Pos}(hg:Gl X "range")(hm:X.mg "range"=none)(ha:PA X [a] ta)(hs:starEach [a] X.env=[(false,eval a X.env)]:=by rfl):PI X tg (.Call (.Name "range" p) [a] [] pos) (Ak ta):=by
 intro pins s σ H R I h
 refine Call_ (gZ I hg hm boot_range (PyProof.Rows.callWith_type1 (thn (ha pos pins s σ H _ I h) λus s1 ⟨vs,H1,I1,r1,q1⟩=>?_) hs rfl))
 obtain ⟨j,e,q1,q2,q⟩:=q1
 subst e
 cases r1 with
 | cons r rr =>
  cases rr
  obtain ⟨t,rfl⟩:=r
  exact call_range_1 (tH I1 ω ω q1 q2 (by simpa using q))
def AL(wi:TI)(g:TG)(tb:TS):TS:=λD σ H=>wi σ H λJ H1=>∃W:Nat->Nat->St->Hp->Prop,(∃m,W 0 m σ H1)/\∀i m σ H,W i m σ H ->
 (J.stop i H/\D.nx σ H)\/(J.go i H/\∃N:St->Hp->Prop,(∀σ' H',N σ' H'->∃m',m'<m/\W (i+1) m' σ' H')/\∀x H',J.yld i H x H'->g x σ H' fun σ2 H2=>tb {D with nx:=N,ct:=N,bk:=D.nx} σ2 H2)
def iM(fp:List Addr)(h:Heap):List (Addr×Obj):=fp.filterMap λb=>(h.get? b).map λo=>(b,o)
theorem cU{fp:List Addr}{h:Heap}{b:Addr}{o:Obj}(hb:b∈fp)(e:h.get? b=some o):(b,o)∈iM fp h:=List.mem_filterMap.mpr ⟨b,hb,by rw [e];rfl⟩
theorem rD{fp:List Addr}{h:Heap}{p:Addr×Obj}(hp:p∈iM fp h):p.1∈fp/\h.get? p.1=some p.2:=by
 obtain ⟨b,hb,e⟩:=List.mem_filterMap.mp hp
 cases q:h.get? b with
 | none=>rw [q] at e;cases e
 | some o =>
  rw [q] at e
  have e':(b,o)=p:=Δ e
  subst e'
  exact ⟨hb,q⟩
theorem Inv.pinned{pins:List (Addr×Obj)}{σ:St}{H:Hp}{s:Shared}{fp:List Addr}(I:Inv X pins σ H s)(hf:∀b∈fp,mL X pins H b)(ho:∀b∈fp,∃o,s.heap.get? b=some o/\∀v,o.data≠.cell v):Inv X (pins++iM fp s.heap) σ H s :=
 I.pins_of λp hp=>(List.mem_append.mp hp).elim (λz=>I.pin p (Ψ _ z)) λz=>by
  obtain ⟨hb,e⟩:=rD z
  obtain ⟨f0,f1,f2,_⟩:=hf p.1 hb
  obtain ⟨o,e',d⟩:=ho p.1 hb
  rw [e] at e';cases e'
  exact ⟨e,f0,f1,f2,d⟩
theorem Inv.unpinned{pins pl:List (Addr×Obj)}{σ:St}{H:Hp}{s:Shared}(I:Inv X (pins++pl) σ H s):Inv X pins σ H s:=I.pins_of λp hp=>I.pin p (Ψ _ (List.mem_append_left _ hp))
theorem iK{iter:Expr}{body:List Stmt}{wi:TI}{g:TG}{tb:TS}{pos:Pos}(hp:PassesOwn (model X.prog X.w) X.A X.env X.xe)(hc:X.calm=true)(hi:PI X tg iter wi)(hg:PG X tg g)(hb:PSs X body tb)
  (hs:∀x,foldedSetIterable iter X.env x=pure x:=by intro _;rfl):PS X (.For tg iter body [] pos) (AL wi g tb):=by
 intro pins s σ H D I h
 refine wpAny_For (thn (hi pins s σ H _ I h) λv s1 h1=>thn h1 λitv s2 h2=>?_) hs
 obtain ⟨it,fp,tn,J,H2,e,I2,T,st2,f2,W,⟨m0,w0⟩,turn⟩:=h2
 subst e
 have stat:∀{H':Hp},(∀b∈fp,H' b=none)->∀b∈fp,mL X pins H' b:=λhn b hb=>⟨hn b hb,(f2 b hb).2⟩
 refine codeAny_forLoop_any (λn s'=>∃i σ' H',Inv X pins σ' H' s'/\tn i s'.heap/\(∀b∈fp,H' b=none)/\W i n σ' H') ?_ m0 ⟨0,σ,H2,I2,st2,λb hb=>(f2 b hb).1,w0⟩
 rintro n s3 ⟨i,σ3,H3,I3,st3,fr3,w3⟩
 rcases turn i n σ3 H3 w3 with ⟨stop,qn⟩ | ⟨go,N,hN,step⟩
 ·refine wpAny_passesOwn hp (thn (T.done X rfl rfl rfl hc i pins s3 σ3 H3 X.xe I3 (stat fr3) st3 stop) λr s4 ⟨hr,I4⟩=>?_)
  subst hr
  exact wpAny_execs_nil ⟨σ3,H3,I4,qn⟩
 ·refine wpAny_passesOwn hp (thn (T.item X rfl rfl rfl hc i pins s3 σ3 H3 X.xe I3 (stat fr3) st3 go) λr s4 ⟨u,hr,h4⟩=>?_)
  subst hr
  refine wpAny_passesOwn hp (thn h4 λ_ s5 ⟨x,H5,I5,r5,y5,st5,fr5⟩=>?_)
  have I5':=I5.pinned (stat fr5) (T.obj _ _ st5)
  refine wpAny_passesOwn hp (thn (hg _ s5 σ3 H5 x u _ I5' r5 (step x H5 y5)) λ_ s6 ⟨σ6,H6,I6,q6⟩=>?_)
  refine wpAny_passesOwn hp (thn (hb _ s6 σ6 H6 _ I6 q6) λf s7 q7=>?_)
  have again:∀{σ7:St} {H7:Hp},Inv X (pins++iM fp s5.heap) σ7 H7 s7->N σ7 H7->∃m,m<n/\∃i σ' H',Inv X pins σ' H' s7/\tn i s7.heap/\(∀b∈fp,H' b=none)/\W i m σ' H':=λ{σ7 H7} I7 n7=>by
   obtain ⟨m',hm,w7⟩:=hN σ7 H7 n7
   refine ⟨m',hm,i+1,σ7,H7,I7.unpinned,T.keep _ _ _ st5 λb hb o e=>(I7.pin (b,o) (Ψ _ (Ψ _ (cU hb e)))).1,λb hb=>?_,w7⟩
   obtain ⟨o,e,d⟩:=T.obj _ _ st5 b hb
   exact (I7.pin (b,o) (Ψ _ (Ψ _ (cU hb e)))).2.1
  cases f with
  | next=>obtain ⟨σ7,H7,I7,n7⟩:=q7;exact again I7 n7
  | cont=>obtain ⟨σ7,H7,I7,n7⟩:=q7;exact again I7 n7
  | brk=>obtain ⟨σ7,H7,I7,q7⟩:=q7;exact ⟨σ7,H7,I7.unpinned,q7⟩
  | ret v=>obtain ⟨x7,σ7,H7,I7,r7,q7⟩:=q7;exact ⟨x7,σ7,H7,I7.unpinned,r7,q7⟩
end
theorem vb{K:Frag}{a:Addr}{xs:List V}{g:TG}{tb:TS}{D:Ends}{σ:St}{H:Hp}(Pv:Nat->St->Hp->Prop)(h0:Pv 0 σ H)(hl:∀i σ H,i<=xs.length->Pv i σ H->SqL K H a xs)
  (hs:∀i x σ H,xs[i]?=some x->Pv i σ H->g x σ H fun σ2 H2=>tb {D with nx:=Pv (i+1),ct:=Pv (i+1),bk:=D.nx} σ2 H2)(hd:∀σ H,Pv xs.length σ H->D.nx σ H) :
  ∃W:Nat->Nat->St->Hp->Prop,(∃m,W 0 m σ H)/\∀i m σ H,W i m σ H ->
   ((Itl K a).stop i H/\D.nx σ H)\/((Itl K a).go i H/\∃N:St->Hp->Prop,(∀σ' H',N σ' H'->∃m',m'<m/\W (i+1) m' σ' H')/\∀x H',(Itl K a).yld i H x H'->g x σ H' fun σ2 H2=>tb {D with nx:=N,ct:=N,bk:=D.nx} σ2 H2):=by
 refine ⟨λi m σ H=>m=xs.length-i/\i<=xs.length/\Pv i σ H,⟨xs.length,by simp,Nat.zero_le _,h0⟩,?_⟩
 rintro i m σ H ⟨rfl,hi,p⟩
 have q:=hl i σ H hi p
 by_cases hlt:i<xs.length
 ·refine .inr ⟨⟨xs,xs[i],q,by simp [hlt]⟩,Pv (i+1),fun σ' H' p'=>⟨xs.length-(i+1),ω,rfl,hlt,p'⟩,λx H' y=>?_⟩
  obtain ⟨e,y⟩:=y
  subst e
  exact hs i x σ _ (y xs q) p
 ·have e:i=xs.length:=by omega
  subst e
  exact .inl ⟨⟨xs,q,ι _⟩,hd σ H p⟩
theorem wY{K:Frag}{a:Addr}{xs:List V}{g:TG}{tb:TS}{D:Ends}{σ:St}{H:Hp}(Pv:Nat->St->Hp->Prop)(h0:Pv 0 σ H)(hl:∀i σ H,i<=xs.length->Pv i σ H->SqT K H a xs)
  (hs:∀i x σ H,xs[i]?=some x->Pv i σ H->g x σ H fun σ2 H2=>tb {D with nx:=Pv (i+1),ct:=Pv (i+1),bk:=D.nx} σ2 H2)(hd:∀σ H,Pv xs.length σ H->D.nx σ H) :
  ∃W:Nat->Nat->St->Hp->Prop,(∃m,W 0 m σ H)/\∀i m σ H,W i m σ H ->
   ((Itt K a).stop i H/\D.nx σ H)\/((Itt K a).go i H/\∃N:St->Hp->Prop,(∀σ' H',N σ' H'->∃m',m'<m/\W (i+1) m' σ' H')/\∀x H',(Itt K a).yld i H x H'->g x σ H' fun σ2 H2=>tb {D with nx:=N,ct:=N,bk:=D.nx} σ2 H2):=by
 refine ⟨λi m σ H=>m=xs.length-i/\i<=xs.length/\Pv i σ H,⟨xs.length,by simp,Nat.zero_le _,h0⟩,?_⟩
 rintro i m σ H ⟨rfl,hi,p⟩
 have q:=hl i σ H hi p
 by_cases hlt:i<xs.length
 ·refine .inr ⟨⟨xs,xs[i],q,by simp [hlt]⟩,Pv (i+1),fun σ' H' p'=>⟨xs.length-(i+1),ω,rfl,hlt,p'⟩,λx H' y=>?_⟩
  obtain ⟨e,y⟩:=y
  subst e
  exact hs i x σ _ (y xs q) p
 ·have e:i=xs.length:=by omega
  subst e
  exact .inl ⟨⟨xs,q,ι _⟩,hd σ H p⟩
theorem iY{lo:Int}{n:Nat}{g:TG}{tb:TS}{D:Ends}{σ:St}{H:Hp}(Pv:Nat->St->Hp->Prop)(h0:Pv 0 σ H)
  (hs:∀i σ H,i<n->Pv i σ H->g (.int (lo+i)) σ H fun σ2 H2=>tb {D with nx:=Pv (i+1),ct:=Pv (i+1),bk:=D.nx} σ2 H2)(hd:∀σ H,Pv n σ H->D.nx σ H) :
  ∃W:Nat->Nat->St->Hp->Prop,(∃m,W 0 m σ H)/\∀i m σ H,W i m σ H ->
   ((Itr lo n).stop i H/\D.nx σ H)\/((Itr lo n).go i H/\∃N:St->Hp->Prop,(∀σ' H',N σ' H'->∃m',m'<m/\W (i+1) m' σ' H')/\∀x H',(Itr lo n).yld i H x H'->g x σ H' fun σ2 H2=>tb {D with nx:=N,ct:=N,bk:=D.nx} σ2 H2):=by
 refine ⟨λi m σ H=>m=n-i/\i<=n/\Pv i σ H,⟨n,by simp,Nat.zero_le _,h0⟩,?_⟩
 rintro i m σ H ⟨rfl,hi,p⟩
 by_cases hlt:i<n
 ·refine .inr ⟨hlt,Pv (i+1),fun σ' H' p'=>⟨n-(i+1),ω,rfl,hlt,p'⟩,λx H' y=>?_⟩
  obtain ⟨e,y⟩:=y
  subst e y
  exact hs i σ _ hlt p
 ·have e:i=n:=by omega
  subst e
  exact .inl ⟨ι _,hd σ H p⟩
end L2
namespace L2
open PySem PySem.Spec PyProof.Rows
abbrev R2:=V->V->Hp->VK->Prop
def OpR(X:Cx)(f:Value->Value->Sem Value)(r:R2):Prop :=
 ∀(pins:List (Addr×Obj)) (s:Shared) (σ:St) (H:Hp) (x y:V) (v u:Value) (Q:VK),Inv X pins σ H s->RelV x v->RelV y u->r x y H Q ->
  wpAny (model X.prog X.w) X.A (f v u) (EP X pins σ Q) X.xe s
def UnR(X:Cx)(f:Value->Sem Value)(r:V->Hp->VK->Prop):Prop :=
 ∀(pins:List (Addr×Obj)) (s:Shared) (σ:St) (H:Hp) (x:V) (v:Value) (Q:VK),Inv X pins σ H s->RelV x v->r x H Q ->
  wpAny (model X.prog X.w) X.A (f v) (EP X pins σ Q) X.xe s
def dY(X:Cx)(f:Value)(r:List V->Hp->VK->Prop):Prop :=
 ∀(pins:List (Addr×Obj)) (s:Shared) (σ:St) (H:Hp) (xs:List V) (us:List Value) (Q:VK),Inv X pins σ H s->Vals xs us->r xs H Q ->
  wpAny (model X.prog X.w) X.A (call f us) (EP X pins σ Q) X.xe s
def A3(X:Cx)(r:V->Hp->(Bool->Hp->Prop)->Prop):Prop :=
 ∀(pins:List (Addr×Obj)) (s:Shared) (σ:St) (H:Hp) (x:V) (v:Value) (Q:Bool->Hp->Prop),Inv X pins σ H s->RelV x v->r x H Q ->
  wpAny (model X.prog X.w) X.A (truthy v) (TP X pins σ Q) X.xe s
def tOp(r:R2)(ta tb:TE):TE:=fun σ H Q=>ta σ H λx H1=>tb σ H1 λy H2=>r x y H2 Q
def tUn(r:V->Hp->VK->Prop)(ta:TE):TE:=fun σ H Q=>ta σ H λx H1=>r x H1 Q
def rI(C:Int->Int->Prop)(g:Int->Int->V):R2:=λx y H Q=>∃i j,x=.int i/\y=.int j/\C i j/\Q (g i j) H
def rI0(g:Int->Int->V):R2:=λx y H Q=>∃i j,x=.int i/\y=.int j/\Q (g i j) H
def rU(g:Int->V):V->Hp->VK->Prop:=λx H Q=>∃i,x=.int i/\Q (g i) H
section
variable {X:Cx}{a b c:Expr}{ta tb tc:TE}{pos:Pos}
theorem zv(ha:PE X a ta)(hb:PE X b tb){pins:List (Addr×Obj)}{s:Shared}{σ:St}{H:Hp}{R:V->V->Hp->Prop}(I:Inv X pins σ H s)
  (h:ta σ H λx H1=>tb σ H1 λy H2=>R x y H2){Q:Value->Shared->Prop}{f:Value->Value->Sem Value}
  (hf:∀v u s2 x y H2,Inv X pins σ H2 s2->RelV x v->RelV y u->R x y H2->wpAny (model X.prog X.w) X.A (f v u) Q X.xe s2) :
  wpAny (model X.prog X.w) X.A (eval a X.env) (λv s₁=>wpAny (model X.prog X.w) X.A (eval b X.env) (λu s₂=>wpAny (model X.prog X.w) X.A (f v u) Q X.xe s₂) X.xe s₁) X.xe s:=by
 refine thn (ha pins s σ H _ I h) λv s1 ⟨x,H1,I1,r1,q1⟩=>?_
 refine thn (hb pins s1 σ H1 _ I1 q1) λu s2 ⟨y,H2,I2,r2,q2⟩=>?_
 exact hf v u s2 x y H2 I2 r1 r2 q2
theorem aF{op:Operator}{r:R2}(ho:OpR X (binaryOp op) r)(ha:PE X a ta)(hb:PE X b tb):PE X (.BinOp a op b pos) (tOp r ta tb):=by
 intro pins s σ H Q I h
 exact wpAny_BinOp (zv ha hb I h λv u s2 x y H2 I2 rx ry q=>ho pins s2 σ H2 x y v u Q I2 rx ry q)
theorem nG{op:UnaryOp}{r:V->Hp->VK->Prop}(ho:UnR X (unaryOp op) r)(ha:PE X a ta):PE X (.UnaryOp op a pos) (tUn r ta):=by
 intro pins s σ H Q I h
 exact UnaryOp_ (thn (ha pins s σ H _ I h) λv s1 ⟨x,H1,I1,r1,q1⟩=>ho pins s1 σ H1 x v Q I1 r1 q1)
theorem opI{f:Value->Value->Sem Value}{C:Int->Int->Prop}{g:Int->Int->Int}
  (rule:∀(i j:Int) (t u:Tok) (s:Shared) (Q:Value->Shared->Prop) (E:Value->Shared->Prop),C i j->Q (.int (g i j) s.toks) {s with toks:=s.toks+1}->wpAny (model X.prog X.w) X.A (f (.int i t) (.int j u)) Q E s) :
  OpR X f (rI C λi j=>.int (g i j)):=by
 intro pins s σ H x y v u Q I rx ry h
 obtain ⟨i,j,rfl,rfl,hc,q⟩:=h
 obtain ⟨t,rfl⟩:=rx
 obtain ⟨t',rfl⟩:=ry
 exact rule i j t t' s _ _ hc ⟨.int (g i j),H,I.tok _,⟨_,rfl⟩,q⟩
theorem Aa{f:Value->Value->Sem Value}{g:Int->Int->Int}
  (rule:∀(i j:Int) (t u:Tok) (s:Shared) (Q:Value->Shared->Prop) (E:Value->Shared->Prop),Q (.int (g i j) s.toks) {s with toks:=s.toks+1}->wpAny (model X.prog X.w) X.A (f (.int i t) (.int j u)) Q E s) :
  OpR X f (rI0 λi j=>.int (g i j)):=by
 intro pins s σ H x y v u Q I rx ry h
 obtain ⟨i,j,rfl,rfl,q⟩:=h
 obtain ⟨t,rfl⟩:=rx
 obtain ⟨t',rfl⟩:=ry
 exact rule i j t t' s _ _ ⟨.int (g i j),H,I.tok _,⟨_,rfl⟩,q⟩
theorem yx{f:Value->Value->Sem Value}{g:Int->Int->Bool}
  (rule:∀(i j:Int) (t u:Tok) (s:Shared) (Q:Value->Shared->Prop) (E:Value->Shared->Prop),Q (.bool (g i j)) s->wpAny (model X.prog X.w) X.A (f (.int i t) (.int j u)) Q E s) :
  OpR X f (rI0 λi j=>.bl (g i j)):=by
 intro pins s σ H x y v u Q I rx ry h
 obtain ⟨i,j,rfl,rfl,q⟩:=h
 obtain ⟨t,rfl⟩:=rx
 obtain ⟨t',rfl⟩:=ry
 exact rule i j t t' s _ _ ⟨.bl (g i j),H,I,rfl,q⟩
def A8(i j:Int):Prop:=0<j/\j<1073741824
def A7(i j:Int):Prop:=0<=j/\j<=1000000/\i.natAbs<2 ^ 64
def CMul(i j:Int):Prop:=(-(2 ^ 64)<i/\i<2 ^ 64)\/(-(2 ^ 64)<j/\j<2 ^ 64)
theorem CMul.ok{i j:Int}(h:CMul i j):IntMulOk i j:=by
 rcases h with ⟨h1,h2⟩ | ⟨h1,h2⟩
 ·exact .of_left (intBits_le_64 h1 h2)
 ·exact .of_right (intBits_le_64 h1 h2)
theorem cT:OpR X (binaryOp .Add) (rI0 λi j=>.int (i+j)):=Aa λ_ _ _ _ _ _ _ q=>add_int q
theorem jS:OpR X (binaryOp .Sub) (rI0 λi j=>.int (i-j)):=Aa λ_ _ _ _ _ _ _ q=>sub_int q
theorem yw:OpR X (binaryOp .Mult) (rI CMul λi j=>.int (i*j)):=opI λ_ _ _ _ _ _ _ hc q=>mul_int q hc.ok
theorem b9:OpR X (binaryOp .FloorDiv) (rI A8 λi j=>.int (i/j)):=opI λi j _ _ _ _ _ hc q=>by
 have h1:(0:Int)<j:=hc.1
 have h2:j<1073741824:=hc.2
 exact floordiv_int ω (by rw [Int.fdiv_eq_ediv_of_nonneg i ω];exact q) (.inl (PyProof.noPylong_small ω))
theorem bK:OpR X (binaryOp .Mod) (rI (λ_ j=>0<j) λi j=>.int (i%j)):=opI λi j _ _ _ _ _ hc q=>by
 have h1:(0:Int)<j:=hc
 exact mod_int' ω (by rw [Int.fmod_eq_emod_of_nonneg i ω];exact q)
theorem jT:OpR X (binaryOp .Pow) (rI A7 λi j=>.int (i ^ j.toNat)):=opI λ_ _ _ _ _ _ _ hc q=>pow_int_small hc.1 hc.2.1 hc.2.2 q
theorem unI{f:Value->Sem Value}{g:Int->Int}
  (rule:∀(i:Int) (t:Tok) (s:Shared) (Q:Value->Shared->Prop) (E:Value->Shared->Prop),Q (.int (g i) s.toks) {s with toks:=s.toks+1}->wpAny (model X.prog X.w) X.A (f (.int i t)) Q E s) :
  UnR X f (rU λi=>.int (g i)):=by
 intro pins s σ H x v Q I rx h
 obtain ⟨i,rfl,q⟩:=h
 obtain ⟨t,rfl⟩:=rx
 exact rule i t s _ _ ⟨.int (g i),H,I.tok _,⟨_,rfl⟩,q⟩
theorem jz:UnR X (unaryOp .USub) (rU λi=>.int (-i)):=unI λ_ _ _ _ _ q=>neg_int q
end
def zU:V->V->Bool
 | .non,.non=>true | .non,.int _=>true | .int _,.non=>true | .non,.bl _=>true | .bl _,.non=>true | .non,.str _=>true | .str _,.non=>true
 | .int _,.int _=>true | .bl _,.bl _=>true | .str _,.str _=>true | .byt _,.byt _=>true
 | .int _,.str _=>true | .str _,.int _=>true | .bl _,.str _=>true | .str _,.bl _=>true
 | _,_=>false
def rEq:R2:=λx y H Q=>zU x y=true/\Q (.bl (decide (x=y))) H
def rNe:R2:=λx y H Q=>zU x y=true/\Q (.bl (!decide (x=y))) H
theorem jw{i j:Int}:decide (V.int i=V.int j)=(i==j):=by
 rw [Bool.eq_iff_iff]
 simp
theorem vh{i j:Bool}:decide (V.bl i=V.bl j)=(i==j):=by
 rw [Bool.eq_iff_iff]
 simp
theorem qC{i j:Str}:decide (V.str i=V.str j)=(i==j):=by
 rw [Bool.eq_iff_iff]
 simp
theorem qD{i j:Array UInt8}:decide (V.byt i=V.byt j)=(i.toList==j.toList):=by
 rw [Bool.eq_iff_iff]
 cases i
 cases j
 simp
section
variable {X:Cx}{a b c:Expr}{ta tb tc:TE}{pos:Pos}
theorem aP{pins:List (Addr×Obj)}{σ:St}{H:Hp}{s:Shared}{Q:VK}{k k':Bool}(I:Inv X pins σ H s)(q:Q (.bl k) H)(e:k=k'):EP X pins σ Q (.bool k') s:=by
 subst e
 exact ⟨.bl k,H,I,rfl,q⟩
theorem aO:OpR X (compareOp .Eq) rEq:=by
 intro pins s σ H x y v u Q I rx ry h
 obtain ⟨hs,q⟩:=h
 cases x with
 | non =>
  cases rx
  cases y with
  | non=>cases ry;exact PySem.EqNone.eq_none_none (aP I q (by simp))
  | bl j=>cases ry;exact PySem.EqNone.eq_none_bool (aP I q (by simp))
  | int j=>obtain ⟨t',rfl⟩:=ry;exact PySem.EqNone.eq_none_int (aP I q (by simp))
  | str j=>obtain ⟨t',rfl⟩:=ry;exact PySem.EqNone.eq_none_str (aP I q (by simp))
  | _=>exact absurd (show false=true from hs) Bool.false_ne_true
 | bl i =>
  cases rx
  cases y with
  | non=>cases ry;exact PySem.EqNone.eq_bool_none (aP I q (by simp))
  | bl j=>cases ry;exact eq_bool (aP I q vh)
  | str j=>obtain ⟨t',rfl⟩:=ry;exact PySem.EqMixed.eq_bool_str (aP I q (by simp))
  | _=>exact absurd (show false=true from hs) Bool.false_ne_true
 | int i =>
  obtain ⟨t,rfl⟩:=rx
  cases y with
  | non=>cases ry;exact PySem.EqNone.eq_int_none (aP I q (by simp))
  | int j=>obtain ⟨t',rfl⟩:=ry;exact eq_int (aP I q jw)
  | str j=>obtain ⟨t',rfl⟩:=ry;exact PySem.EqMixed.eq_int_str (aP I q (by simp))
  | _=>exact absurd (show false=true from hs) Bool.false_ne_true
 | str i =>
  obtain ⟨t,rfl⟩:=rx
  cases y with
  | non=>cases ry;exact PySem.EqNone.eq_str_none (aP I q (by simp))
  | bl j=>cases ry;exact PySem.EqMixed.eq_str_bool (aP I q (by simp))
  | int j=>obtain ⟨t',rfl⟩:=ry;exact PySem.EqMixed.eq_str_int (aP I q (by simp))
  | str j=>obtain ⟨t',rfl⟩:=ry;exact eq_str (aP I q qC)
  | _=>exact absurd (show false=true from hs) Bool.false_ne_true
 | byt i =>
  obtain ⟨t,rfl⟩:=rx
  cases y with
  | byt j=>obtain ⟨t',rfl⟩:=ry;exact PySem.W.eq_bytes (aP I q qD)
  | _=>exact absurd (show false=true from hs) Bool.false_ne_true
 | _=>cases y<;>exact absurd (show false=true from hs) Bool.false_ne_true
theorem kT:OpR X (compareOp .NotEq) rNe:=by
 intro pins s σ H x y v u Q I rx ry h
 obtain ⟨hs,q⟩:=h
 cases x with
 | non =>
  cases rx
  cases y with
  | non=>cases ry;exact PySem.EqNone.ne_none_none (aP I q (by simp))
  | bl j=>cases ry;exact PySem.EqNone.ne_none_bool (aP I q (by simp))
  | int j=>obtain ⟨t',rfl⟩:=ry;exact PySem.EqNone.ne_none_int (aP I q (by simp))
  | str j=>obtain ⟨t',rfl⟩:=ry;exact PySem.EqNone.ne_none_str (aP I q (by simp))
  | _=>exact absurd (show false=true from hs) Bool.false_ne_true
 | bl i =>
  cases rx
  cases y with
  | non=>cases ry;exact PySem.EqNone.ne_bool_none (aP I q (by simp))
  | bl j=>cases ry;exact ne_bool (aP I q (congrArg not vh))
  | str j=>obtain ⟨t',rfl⟩:=ry;exact PySem.EqMixed.ne_bool_str (aP I q (by simp))
  | _=>exact absurd (show false=true from hs) Bool.false_ne_true
 | int i =>
  obtain ⟨t,rfl⟩:=rx
  cases y with
  | non=>cases ry;exact PySem.EqNone.ne_int_none (aP I q (by simp))
  | int j=>obtain ⟨t',rfl⟩:=ry;exact ne_int (aP I q (congrArg not jw))
  | str j=>obtain ⟨t',rfl⟩:=ry;exact PySem.EqMixed.ne_int_str (aP I q (by simp))
  | _=>exact absurd (show false=true from hs) Bool.false_ne_true
 | str i =>
  obtain ⟨t,rfl⟩:=rx
  cases y with
  | non=>cases ry;exact PySem.EqNone.ne_str_none (aP I q (by simp))
  | bl j=>cases ry;exact PySem.EqMixed.ne_str_bool (aP I q (by simp))
  | int j=>obtain ⟨t',rfl⟩:=ry;exact PySem.EqMixed.ne_str_int (aP I q (by simp))
  | str j=>obtain ⟨t',rfl⟩:=ry;exact ne_str (aP I q (congrArg not qC))
  | _=>exact absurd (show false=true from hs) Bool.false_ne_true
 | byt i =>
  obtain ⟨t,rfl⟩:=rx
  cases y with
  | byt j=>obtain ⟨t',rfl⟩:=ry;exact PySem.W.ne_bytes (aP I q (congrArg not qD))
  | _=>exact absurd (show false=true from hs) Bool.false_ne_true
 | _=>cases y<;>exact absurd (show false=true from hs) Bool.false_ne_true
theorem gF:OpR X (compareOp .Lt) (rI0 λi j=>.bl (decide (i<j))):=yx λ_ _ _ _ _ _ _ q=>lt_int q
theorem xw:OpR X (compareOp .LtE) (rI0 λi j=>.bl (decide (i<=j))):=yx λ_ _ _ _ _ _ _ q=>le_int q
theorem gG:OpR X (compareOp .Gt) (rI0 λi j=>.bl (decide (j<i))):=yx λ_ _ _ _ _ _ _ q=>gt_int q
theorem gX:OpR X (compareOp .Is) (λx y H Q=>y=.non/\Q (.bl (decide (x=.non))) H):=by
 intro pins s σ H x y v u Q I rx ry h
 obtain ⟨rfl,q⟩:=h
 cases ry
 refine is_none_gen (aP I q ?_)
 cases x<;>first
  | (cases rx;rfl)
  | (obtain ⟨t,rfl⟩:=rx;rfl)
theorem gs:OpR X (compareOp .IsNot) (λx y H Q=>y=.non/\Q (.bl (!decide (x=.non))) H):=by
 intro pins s σ H x y v u Q I rx ry h
 obtain ⟨rfl,q⟩:=h
 cases ry
 refine isnot_none_gen (aP I q ?_)
 cases x<;>first
  | (cases rx;rfl)
  | (obtain ⟨t,rfl⟩:=rx;rfl)
theorem ap(b:Expr){op:CmpOp}(h:op≠.In:=by decide)(h2:op≠.NotIn:=by decide):behindInMarks op b=false:=by
 have e1:(op==CmpOp.In)=false:=by cases op<;>first | rfl | exact absurd rfl h
 have e2:(op==CmpOp.NotIn)=false:=by cases op<;>first | rfl | exact absurd rfl h2
 cases b<;>simp [behindInMarks,e1,e2]
theorem cv{op:CmpOp}{r:R2}(ho:OpR X (compareOp op) r)(ha:PE X a ta)(hb:PE X b tb)(hm:behindInMarks op b=false):PE X (.Compare a [op] [b] pos) (tOp r ta tb):=by
 intro pins s σ H Q I h
 exact wpAny_Compare1 (zv ha hb I h λv u s2 x y H2 I2 rx ry q=>ho pins s2 σ H2 x y v u Q I2 rx ry q) hm
def xk(t:TE):TT:=fun σ H Q=>t σ H λx H'=>∃k,x=.bl k/\Q k H'
theorem ak{op:CmpOp}{r:R2}(ho:OpR X (compareOp op) r)(ha:PE X a ta)(hb:PE X b tb)(hm:behindInMarks op b=false):PT X (.Compare a [op] [b] pos) (xk (tOp r ta tb)):=by
 intro pins s σ H Q I h
 refine wpAny_isTrue_Compare1 (thn (ha pins s σ H _ I h) λv s1 ⟨x,H1,I1,r1,q1⟩=>thn (hb pins s1 σ H1 _ I1 q1) λu s2 ⟨y,H2,I2,r2,q2⟩ =>
  thn (ho pins s2 σ H2 x y v u _ I2 r1 r2 q2) λc s3 ⟨z,H3,I3,r3,k,e,q3⟩=>?_) hm
 subst e
 cases r3
 exact wpAny_truthy_bool ⟨H3,I3,q3⟩
def xX(r r':R2)(ta tb tc:TE):TE:=fun σ H Q=>ta σ H λx H1=>tb σ H1 λy H2=>r x y H2 λz H3=>∃k,z=.bl k /\
 (if k=true then tc σ H3 λw' H4=>r' y w' H4 Q else Q (.bl false) H3)
theorem tZ{op op':CmpOp}{r r':R2}(ho:OpR X (compareOp op) r)(ho':OpR X (compareOp op') r')(ha:PE X a ta)(hb:PE X b tb)(hc:PE X c tc)
  (hm:lastMarks [op,op'] [b,c]=false:=by with_unfolding_all rfl):PE X (.Compare a [op,op'] [b,c] pos) (xX r r' ta tb tc):=by
 intro pins s σ H Q I h
 refine Compare_chain (thn (ha pins s σ H _ I h) λv s1 ⟨x,H1,I1,r1,q1⟩=>chain_link (thn (hb pins s1 σ H1 _ I1 q1) λu s2 ⟨y,H2,I2,r2,q2⟩ =>
  thn (ho pins s2 σ H2 x y v u _ I2 r1 r2 q2) λd s3 ⟨z,H3,I3,r3,k,e,q3⟩=>?_)) hm
 subst e
 cases r3
 refine wpAny_truthy_bool ?_
 cases k with
 | false=>exact ite_ff ⟨.bl false,H3,I3,rfl,q3⟩
 | true=>exact ite_tt (chain_last (thn (hc pins s3 σ H3 _ I3 q3) λw' s4 ⟨z',H4,I4,r4,q4⟩=>ho' pins s4 σ H4 y z' u w' Q I4 r2 r4 q4))
def Az(K:Frag)(x:V)(H:Hp)(k:Bool):Prop :=
 match x with
 | .non=>k=false
 | .bl b=>k=b
 | .int i=>k=(i != 0)
 | .str y=>y.length<=sizeLine/\k=((y.length:Int) != 0)
 | .byt y=>y.size<=sizeLine/\k=((y.size:Int) != 0)
 | .ref p=>(∃xs,SqL K H p xs/\k=!xs.isEmpty)\/(∃xs,SqT K H p xs/\k=!xs.isEmpty)\/∃kvs,H p=some (.dK kvs)/\k=!kvs.isEmpty
 | _=>False
theorem pK{κ:Type}{kvs:List (κ×V)}{vs:List (κ×Value)}(r:KV kvs vs):(!vs.isEmpty)=!kvs.isEmpty:=by
 cases r<;>rfl
theorem jZ{xs:List V}{its:List Value}(r:Vals xs its):(!its.toArray.isEmpty)=!xs.isEmpty:=by
 cases r<;>simp
theorem iR:(sizeLine:Nat)<2 ^ 63:=by rw [sizeLine_eq];decide
theorem xP:A3 X (λx H Q=>∃k,Az X.K x H k/\Q k H):=by
 intro pins s σ H x v Q I rx h
 obtain ⟨k,e,q⟩:=h
 have hl:=iR
 have hs:sizeLine=16777216:=sizeLine_eq
 cases x with
 | non =>
  cases rx
  have e':k=false:=e
  subst e'
  exact truthy_none ⟨H,I,q⟩
 | bl b =>
  cases rx
  have e':k=b:=e
  subst e'
  exact wpAny_truthy_bool ⟨H,I,q⟩
 | int i =>
  obtain ⟨t,rfl⟩:=rx
  have e':k=(i != 0):=e
  subst e'
  exact PySem.P.truthy_int ⟨H,I,q⟩
 | str y =>
  obtain ⟨t,rfl⟩:=rx
  obtain ⟨hy,e'⟩:y.length<=sizeLine/\k=((y.length:Int) != 0):=e
  subst e'
  exact PySem.P.truthy_str ω ⟨H,I.tok _,q⟩
 | byt y =>
  obtain ⟨t,rfl⟩:=rx
  obtain ⟨hy,e'⟩:y.size<=sizeLine/\k=((y.size:Int) != 0):=e
  subst e'
  exact PySem.W.truthy_bytes ω ⟨H,I.tok _,q⟩
 | ref p =>
  cases rx
  have e':(∃xs,SqL X.K H p xs/\k=!xs.isEmpty)\/(∃xs,SqT X.K H p xs/\k=!xs.isEmpty)\/∃kvs,H p=some (.dK kvs)/\k=!kvs.isEmpty:=e
  rcases e' with ⟨xs,hx,e'⟩ | ⟨xs,hx,e'⟩ | ⟨kvs,hx,e'⟩
  ·subst e'
   obtain ⟨its,r,pl,hz⟩:=I.list hx
   have hlen:=r.length
   exact wpAny_truthy_list pl.isList (by simp only [List.size_toArray];omega) ⟨H,I.tok _,by rw [jZ r];exact q⟩
  ·subst e'
   obtain ⟨its,r,pl,hz⟩:=I.tuple hx
   have hlen:=r.length
   exact truthy_tuple pl (by simp only [List.size_toArray];omega) ⟨H,I.tok _,by rw [jZ r];exact q⟩
  ·subst e'
   obtain ⟨hz,hS,vs,r,m⟩:kvs.length<=sizeLine/\(p==sysModules)=false/\∃vs,KV kvs vs/\s.heap.DictOf (ca X.prog X.w) p vs:=I.hok p _ hx
   have hlen:kvs.length=vs.length:=Paired.length r
   exact wpAny_truthy_dict hS m ω ⟨H,I.tok _,by rw [pK r];exact q⟩
 | _=>exact (show False from e).elim
theorem nD(ha:PE X a ta)(he:∀whole,isTrue a X.env whole=(do let v ← whole;standAt a.pos;holding [v] (truthy v))) :
  PT X a (fun σ H Q=>ta σ H λx H'=>∃k,Az X.K x H' k/\Q k H'):=by
 intro pins s σ H Q I h
 exact isTrue_plain (thn (ha pins s σ H _ I h) λv s1 ⟨x,H1,I1,r1,q1⟩=>xP pins s1 σ H1 x v Q I1 r1 q1) (he _)
theorem ba:OpR X (binaryOp .Add) (λx y H Q=>∃i j,x=.str i/\y=.str j/\i.length+j.length<=sizeLine/\Q (.str (i++j)) H):=by
 intro pins s σ H x y v u Q I rx ry h
 obtain ⟨i,j,rfl,rfl,hz,q⟩:=h
 obtain ⟨t,rfl⟩:=rx
 obtain ⟨t',rfl⟩:=ry
 exact add_str (λt' tk=>⟨.str (i++j),H,I.tok _,⟨_,rfl⟩,q⟩) hz
theorem cR{x:V}{us:List Value}(r:Vals [x] us):∃u,us=[u]/\RelV x u:=by
 cases r with
 | cons r1 r2=>cases r2;exact ⟨_,rfl,r1⟩
theorem xi{x y:V}{us:List Value}(r:Vals [x,y] us):∃u w',us=[u,w']/\RelV x u/\RelV y w':=by
 cases r with
 | cons r1 r2 =>
  cases r2 with
  | cons r3 r4=>cases r4;exact ⟨_,_,rfl,r1,r3⟩
theorem bD:dY X (.type "str") (λxs H Q=>∃i,xs=[.int i]/\i.natAbs.log2<1920/\Q (.str (toString i)) H):=by
 intro pins s σ H xs us Q I r h
 obtain ⟨i,rfl,hz,q⟩:=h
 obtain ⟨u,rfl,t,rfl⟩:=cR r
 exact PySem.P.str_of_int hz ⟨.str _,H,I.tok _,⟨_,rfl⟩,q⟩
theorem vm:dY X (.builtin "ord") (λxs H Q=>∃x,xs=[.str x]/\x.length=1/\Q (.int (x.cps.getD 0 0:Nat)) H):=by
 intro pins s σ H xs us Q I r h
 obtain ⟨x,rfl,hz,q⟩:=h
 obtain ⟨u,rfl,t,rfl⟩:=cR r
 exact ord_of_one hz ⟨.int _,H,I.tok _,⟨_,rfl⟩,q⟩
end
end L2
namespace L2
open PySem PySem.Spec PyProof.Rows
structure ObjM(h:Heap)(x dx C:Addr)(mA:Str->Option Value):Prop where
 obj:h.get? x=some (PySem.W.instObj C dx)
 ns:h.Ns1 dx mA
 ne:dx≠x
theorem rG{h:Heap}{dx:Addr}{mA:Str->Option Value}(n:h.Ns1 dx mA):∃od,h.get? dx=some od/\∀name,PySem.W.lookIn name od=some (mA name):=by
 obtain ⟨o,es,ep,ho,hd,hk,_,hm⟩:=n
 refine ⟨o,ho,λname=>?_⟩
 have e:=hm name
 unfold nsFind findBy at e
 rw [← Array.find?_toList] at e
 unfold PySem.W.lookIn
 rw [hd]
 dsimp only
 split
 ·rename_i y q
  rw [q] at e
  exact congrArg some e
 ·rename_i q
  rw [q] at e
  have a:es.toList.any (·.refKey)=false:=by
   rw [List.any_eq_false]
   intro y hy
   obtain ⟨z,t,hkey⟩:=hk y (Array.mem_toList_iff.mp hy)
   simp [DictEntry.refKey,hkey]
  have a':¬es.toList.any (·.refKey)=true:=by rw [a];exact Bool.false_ne_true
  rw [if_neg a']
  exact congrArg some e
theorem ObjM.look{h:Heap}{x dx C:Addr}{mA:Str->Option Value}(I:ObjM h x dx C mA):∃od,PySem.W.InstAt h x (PySem.W.instObj C dx) C (some od)/\∀name,PySem.W.lookIn name od=some (mA name) :=
 let ⟨od,ho,hl⟩:=rG I.ns
 ⟨od,⟨I.obj,rfl,rfl,ho⟩,hl⟩
section
variable {prog:Program}{w:World}{A:Around}{E:Value->Shared->Prop}{s:Shared}{K:Frag}{x dx C f:Addr}{mA:Str->Option Value}{name:Str}{v:Value}
theorem wX{expr:Bool}{Q:Value->Shared->Prop}(X:K.In s.heap)(I:ObjM s.heap x dx C mA)(hg:PySem.W.plainGet K C name=true)(hh:PySem.W.hasDictIn K C=true)
  (ha:PySem.W.findIn K (.ref C) name=some none)(hv:mA name=some v)(hv':PySem.W.handedIn v=true)(h:Q v {s with toks:=s.toks+1}) :
  wpAny (model prog w) A (getAttr (.ref x) name expr) Q E s:=by
 obtain ⟨od,J,hl⟩:=I.look
 exact PySem.W.get_value X J (PySem.W.plainGet_of hg).1 (PySem.W.findObj_own hh ha rfl (by rw [hl,hv])) hv' h
theorem u3{pl:Sem Bool}{Q:Value×List Value->Shared->Prop}(X:K.In s.heap)(I:ObjM s.heap x dx C mA)(hg:PySem.W.plainGet K C name=true)
  (hf:PySem.W.findIn K (.ref C) name=some (some (.ref f)))(ht:PySem.W.isFn K (.ref f)=true)(hv:mA name=none)(h:Q (.ref f,[.ref x]) s) :
  wpAny (model prog w) A (getMethod (.ref x) name pl) Q E s:=by
 obtain ⟨od,J,hl⟩:=I.look
 exact PySem.W.method_fn X J (PySem.W.plainGet_of hg).1 (PySem.W.plainGet_of hg).2 hf (beq_iff_eq.mp ht) (by show (PySem.W.lookIn name od).map (·.isSome)=some false;rw [hl,hv];rfl) h
theorem vV{ns:List Str}{Q:Unit->Shared->Prop}(X:K.In s.heap)(I:ObjM s.heap x dx C mA)
  (hs:PySem.W.findIn K (.ref C) "__setattr__"=some (some (.builtin "object.__setattr__")))(hp:PySem.W.plainOver K C=true)(ht:PySem.W.takerIn K C name=some none)(hh:PySem.W.hasDictIn K C=true)
  (hw:PySem.Within mA ns)(hsz:ns.length<=sizeLine)
  (h:∀h',ObjM h' x dx C (λy=>if y=name then some v else mA y)->Heap.SameBut dx s.heap h'->Q () {s with heap:=h',toks:=s.toks+2}) :
  wpAny (model prog w) A (setAttr (.ref x) name v) Q E s:=by
 obtain ⟨od,J,hl⟩:=I.look
 refine PySem.W.set_plain X J hs (PySem.W.osa_open (s:={s with toks:=s.toks+1}) (r:=none) X J hp ht λb=>?_)
 obtain ⟨cd,hc,hd'⟩:=PySem.W.any_some hh
 have hx:s.heap.get? x=some ⟨.ref C,some dx,.plain,#[]⟩:=I.obj
 refine ε (π (ε (ε (wpAny_loadPart hx (ε (PySem.W.Looks.here (s:={s with toks:=s.toks+1}) (PySem.W.looks_clsIn X hc) ?_))))))
 rw [hd']
 refine π (a:=some dx) (ε (π (ε ?_)))
 refine wpAny_nsSet1 (s:={s with toks:=s.toks+1}) I.ns λh' hn2 hs2=>?_
 obtain ⟨oD,esD,epD,hoD,hdD,hcD⟩:=hn2.count (PySem.Within.cons name v hw)
 refine ε (wpAny_lookBehind hoD (by rw [hdD];exact pastItsLine_dict (Λ hcD (by rw [List.length_cons];omega))) ?_)
 exact π (h _ ⟨(hs2.2 _ (Ne.symm I.ne)).trans I.obj,hn2,I.ne⟩ hs2)
theorem uN{R:Result->Shared->Prop}{vs:List Value}{kw:List (Str×Value)}(X:K.In s.heap)(hm:PySem.W.makesIn K C=true)
  (hi:PySem.W.findIn K (.ref C) "__init__"=some (some (.ref f)))(hf:PySem.W.typeIn K (.ref f)=some (.type "function"))
  (h:codeAny (model prog w) (A.under (.builtin "type.__call__" ⟨.ref C::vs,kw⟩)) (.call (.ref f) ⟨.ref (s.heap.objs.size+1)::vs,kw⟩) (PySem.W.InitBack (s.heap.objs.size+1) R)
   {s with heap:=(s.heap.push PySem.W.emptyDict).push (PySem.W.instObj C s.heap.objs.size)}) :
  codeAny (model prog w) A (.call (.ref C) ⟨vs,kw⟩) R s:=by
 obtain ⟨hh,g,d,t,os⟩:=s
 exact PySem.W.make_core (PySem.W.makes_of X hm) (PySem.W.looks_findIn X hi) (λself=>PySem.W.bind_fn X self hf) (.inl rfl) h
end
def ao(f:Str)(v:V):List (Str×V)->List (Str×V)
 | []=>[(f,v)]
 | (g,x)::r=>if g=f then (g,v)::r else (g,x)::ao f v r
theorem az(f g:Str)(v:V):∀fs:List (Str×V),(ao f v fs).lookup g=if g=f then some v else fs.lookup g
 | []=>by
  show List.lookup g [(f,v)]=_
  by_cases h:g=f
  ·have hb:(g==f)=true:=beq_iff_eq.mpr h
   simp only [List.lookup,hb,if_pos h]
  ·have hb:(g==f)=false:=beq_eq_false_iff_ne.mpr h
   simp only [List.lookup,hb,if_neg h]
 | (k,x)::r=>by
  have ih:=az f g v r
  rw [show ao f v ((k,x)::r)=(if k=f then (k,v)::r else (k,x)::ao f v r) from rfl]
  by_cases hk:k=f
  ·rw [if_pos hk]
   by_cases h:g=k
   ·have hb:(g==k)=true:=beq_iff_eq.mpr h
    simp only [List.lookup,hb,if_pos (h.trans hk)]
   ·have hb:(g==k)=false:=beq_eq_false_iff_ne.mpr h
    simp only [List.lookup,hb,if_neg (λe:g=f=>h (e.trans hk.symm))]
  ·rw [if_neg hk]
   by_cases h:g=k
   ·have hb:(g==k)=true:=beq_iff_eq.mpr h
    simp only [List.lookup,hb,if_neg (λe:g=f=>hk (h.symm.trans e))]
   ·have hb:(g==k)=false:=beq_eq_false_iff_ne.mpr h
    simp only [List.lookup,hb]
    exact ih
theorem iU(f:Str)(v:V):∀fs:List (Str×V),f∈(ao f v fs).map (·.1)/\∀g,g∈fs.map (·.1)->g∈(ao f v fs).map (·.1)
 | []=>⟨by simp [ao],λg h=>by simp at h⟩
 | (k,x)::r=>by
  obtain ⟨i1,i2⟩:=iU f v r
  rw [show ao f v ((k,x)::r)=(if k=f then (k,v)::r else (k,x)::ao f v r) from rfl]
  by_cases hk:k=f
  ·rw [if_pos hk]
   subst hk
   exact ⟨by simp,λg h=>by simpa using h⟩
  ·rw [if_neg hk]
   refine ⟨?_,λg h=>?_⟩
   ·rw [List.map_cons]
    exact Θ _ i1
   ·rw [List.map_cons] at h ⊢
    rcases List.mem_cons.mp h with e | e
    ·exact List.mem_cons.mpr (.inl e)
    ·exact Θ _ (i2 g e)
theorem cG(f:Str)(v:V):∀fs:List (Str×V),(ao f v fs).length<=fs.length+1
 | []=>by simp [ao]
 | (k,x)::r=>by
  have ih:=cG f v r
  rw [show ao f v ((k,x)::r)=(if k=f then (k,v)::r else (k,x)::ao f v r) from rfl]
  by_cases hk:k=f
  ·rw [if_pos hk,List.length_cons,List.length_cons];omega
  ·rw [if_neg hk,List.length_cons,List.length_cons];omega
theorem RelO.some_of{v:V}{o:Option Value}(r:RelO (some v) o):∃u,o=some u/\RelV v u:=by
 cases o with
 | none=>exact (show False from r).elim
 | some u=>exact ⟨u,rfl,r⟩
theorem RelO.none_of{o:Option Value}(r:RelO none o):o=none:=by
 cases o with
 | none=>rfl
 | some u=>exact (show False from r).elim
theorem rO{v:V}{u:Value}(r:RelV v u):PySem.W.handedIn u=true:=by
 cases v with
 | non=>cases (show u=Value.none from r);rfl
 | bl b=>cases (show u=Value.bool b from r);rfl
 | int i=>obtain ⟨t,e⟩:=(show ∃t,u=Value.int i t from r);cases e;rfl
 | str x=>obtain ⟨t,e⟩:=(show ∃t,u=Value.str x t from r);cases e;rfl
 | byt b=>obtain ⟨t,e⟩:=(show ∃t,u=Value.bytes b t from r);cases e;rfl
 | flt b=>obtain ⟨t,e⟩:=(show ∃t,u=Value.float b t from r);cases e;rfl
 | ref a=>cases (show u=Value.ref a from r);rfl
 | ty n=>cases (show u=Value.type n from r);rfl
section
variable {P:Program}{w:World}{H H':Hp}{h h':Heap}{a C dx:Addr}{fs fs':List (Str×V)}
theorem jv(hok:HOk P w H h)(e:H a=some (.ins C dx fs)):∃mA,ObjM h a dx C mA/\(∀f,RelO (fs.lookup f) (mA f))/\PySem.Within mA (fs.map (·.1))/\fs.length<=1000/\H dx=some (.own a):=by
 obtain ⟨d,z,ne,ob,mA,n,r,q⟩:=(show ObjOk P w H h a (.ins C dx fs) from hok a _ e)
 exact ⟨mA,⟨ob,n,ne⟩,r,q,z,d⟩
end
structure Cls(K:Frag)(C:Addr):Prop where
 pg:PySem.W.plainGet K C Str.empty=true
 hd:PySem.W.hasDictIn K C=true
 po:PySem.W.plainOver K C=true
 sa:PySem.W.findIn K (.ref C) "__setattr__"=some (some (.builtin "object.__setattr__"))
theorem Cls.get{K:Frag}{C:Addr}(c:Cls K C)(f:Str):PySem.W.plainGet K C f=true:=c.pg
def NoAttr(K:Frag)(C:Addr)(f:Str):Prop:=PySem.W.findIn K (.ref C) f=some none
theorem NoAttr.taker{K:Frag}{C:Addr}{f:Str}(n:NoAttr K C f):PySem.W.takerIn K C f=some none:=by
 unfold PySem.W.takerIn
 rw [show PySem.W.findIn K (.ref C) f=some none from n]
 rfl
structure gE(K:Frag)(C:Addr)(m:Str)(f:Addr):Prop where
 at_:PySem.W.findIn K (.ref C) m=some (some (.ref f))
 fn:PySem.W.isFn K (.ref f)=true
 kp:PySem.W.keepIn K (.ref f)=true
section
variable {X:Cx}{pins:List (Addr×Obj)}{σ:St}{H:Hp}{s:Shared}{a C dx:Addr}{fs:List (Str×V)}{f:Str}{v:V}{A:Around}{E:Value->Shared->Prop}
theorem j0{b:Bool}{Q:Value->Shared->Prop}(I:Inv X pins σ H s)(e:H a=some (.ins C dx fs))(c:Cls X.K C)(n:NoAttr X.K C f)(l:fs.lookup f=some v)
  (h:∀u s',Inv X pins σ H s'->RelV v u->Q u s'):wpAny (model X.prog X.w) A (getAttr (.ref a) f b) Q E s:=by
 obtain ⟨mA,O,r,_,_,_⟩:=jv I.hok e
 obtain ⟨u,hu,ru⟩:=RelO.some_of (v:=v) (o:=mA f) (by rw [← l];exact r f)
 exact wX I.kIn O (c.get f) c.hd n hu (rO ru) (h u _ (I.tok _) ru)
theorem g7{m:Str}{g:Addr}{pl:Sem Bool}{Q:Value×List Value->Shared->Prop}(I:Inv X pins σ H s)(e:H a=some (.ins C dx fs))(c:Cls X.K C)(k:gE X.K C m g)(l:fs.lookup m=none)
  (h:Q (.ref g,[.ref a]) s):wpAny (model X.prog X.w) A (getMethod (.ref a) m pl) Q E s:=by
 obtain ⟨mA,O,r,_,_,_⟩:=jv I.hok e
 have hn:mA m=none:=RelO.none_of (by rw [← l];exact r m)
 exact u3 I.kIn O (c.get m) k.at_ k.fn hn h
theorem jG{y:V}{u:Value}{Q:Unit->Shared->Prop}(I:Inv X pins σ H s)(e:H a=some (.ins C dx fs))(c:Cls X.K C)(n:NoAttr X.K C f)(hl:fs.length<1000)(ry:RelV y u)
  (h:∀s',Inv X pins σ (upd H a (.ins C dx (ao f y fs))) s'->Q () s'):wpAny (model X.prog X.w) A (setAttr (.ref a) f u) Q E s:=by
 obtain ⟨mA,O,r,wi,_,ho⟩:=jv I.hok e
 have hz:(fs.map (·.1)).length<=sizeLine:=by rw [List.length_map,sizeLine_eq];omega
 refine vV I.kIn O c.sa c.po n.taker c.hd wi hz λh' O' sb=>h _ ?_
 have hd:∃o,h'.get? dx=some o:=let ⟨o,_,_,e',_⟩:=O'.ns;⟨o,e'⟩
 refine I.write (x:=a) (e:=dx) (by rw [e];exact True.intro) (.inr ho) (λb q hb z=>(sb.2 b hb).trans z) hd ?_
 refine ⟨by rw [aw O.ne];exact ho,?_,O.ne,O'.obj,_,O'.ns,λg=>?_,λg hg=>?_⟩
 ·have:=cG f y fs;omega
 ·show RelO ((ao f y fs).lookup g) (if g=f then some u else mA g)
  rw [az]
  by_cases q:g=f
  ·rw [if_pos q,if_pos q];exact ry
  ·rw [if_neg q,if_neg q];exact r g
 ·by_cases q:g=f
  ·rw [q];exact (iU f y fs).1
  ·refine (iU f y fs).2 g (wi g λz=>hg ?_)
   show (if g=f then some u else mA g)=none
   rw [if_neg q];exact z
theorem Inv.made(I:Inv X pins σ H s):Inv X pins σ (upd (upd H s.heap.objs.size (.own (s.heap.objs.size+1))) (s.heap.objs.size+1) (.ins C s.heap.objs.size []))
  {s with heap:=(s.heap.push PySem.W.emptyDict).push (PySem.W.instObj C s.heap.objs.size)}:=by
 have e1:(s.heap.push PySem.W.emptyDict).get? s.heap.objs.size=some PySem.W.emptyDict:=ψ s.heap rfl
 have e2:((s.heap.push PySem.W.emptyDict).push (PySem.W.instObj C s.heap.objs.size)).get? (s.heap.objs.size+1)=some (PySem.W.instObj C s.heap.objs.size):=by
  have:=ψ (s.heap.push PySem.W.emptyDict) (o:=PySem.W.instObj C s.heap.objs.size) rfl
  rwa [Heap.size_push] at this
 have e3:(s.heap.push PySem.W.emptyDict).Ns s.heap.objs.size (λ_=>none):=⟨PySem.W.emptyDict,#[],_,e1,rfl,(λe he=>absurd he (by simp)),λ_=>rfl⟩
 have I1:=I.laid (a:=s.heap.objs.size) (o:=.own (s.heap.objs.size+1)) (h':=s.heap.push PySem.W.emptyDict) (t':=s.toks) (λb u q=>ρ _ q) (ι _) ⟨_,e1⟩
 refine I1.laid (a:=s.heap.objs.size+1) (o:=.ins C s.heap.objs.size []) (t':=s.toks) (λb u q=>ρ _ q) (Nat.le_of_eq (Heap.size_push _ _)) ?_
 have ne:s.heap.objs.size≠s.heap.objs.size+1:=Φ (Nat.lt_succ_self _)
 refine ⟨by rw [aw ne,ae],Nat.zero_le _,ne,e2,λ_=>none,(Heap.Ns1.of_empty e3).at λo q=>ρ _ q,λ_=>True.intro,λy hy=>absurd rfl hy⟩
theorem xb{prog:Program}{w:World}{env:Env}{e:Expr}{f:Str}{pos:Pos}{s:Shared}{Q:Value->Shared->Prop}(hb:attributeBase e f env (eval e env)=eval e env)
  (h:wpAny (model prog w) A (eval e env) (λo s₁=>wpAny (model prog w) A (getAttr o f true) Q E s₁) E s):wpAny (model prog w) A (eval (.Attribute e f pos) env) Q E s :=
 Attribute_any_ h (by rw [arm_eval_Attribute,hb])
end
def qR(K:Frag)(ta:TE)(f:Str):TE:=fun σ H Q=>ta σ H λx H1=>∃a C dx fs v,x=.ref a/\H1 a=some (.ins C dx fs)/\Cls K C/\NoAttr K C f/\fs.lookup f=some v/\Q v H1
def AO(K:Frag)(ta tv:TE)(f:Str):TS:=λD σ H=>tv σ H λy H1=>ta σ H1 λx H2=>∃a C dx fs,x=.ref a/\H2 a=some (.ins C dx fs)/\Cls K C/\NoAttr K C f/\fs.length<1000 /\
 D.nx σ (upd H2 a (.ins C dx (ao f y fs)))
def AC(X:Cx)(op:Operator)(rd:V->V->Hp->VK->Prop):Prop :=
 ∀(pins:List (Addr×Obj)) (s:Shared) (σ:St) (H:Hp) (x y:V) (u v:Value) (Q:VK),Inv X pins σ H s->RelV x u->RelV y v->rd x y H Q->wpAny (model X.prog X.w) X.A (inplaceOp op u v) (EP X pins σ Q) X.xe s
def v0(K:Frag)(ta tv:TE)(rd:V->V->Hp->VK->Prop)(f:Str):TS:=λD σ H=>ta σ H λx H1=>∃a C dx fs v,x=.ref a/\H1 a=some (.ins C dx fs)/\Cls K C/\NoAttr K C f/\fs.lookup f=some v /\
 tv σ H1 λy H2=>rd v y H2 λz H3=>∃dx' fs',H3 a=some (.ins C dx' fs')/\fs'.length<1000/\D.nx σ (upd H3 a (.ins C dx' (ao f z fs')))
section
variable {X:Cx}{o e value:Expr}{f:Str}{pos pos' tpos:Pos}{ta tv:TE}
theorem au(he:PE X e ta)(hb:attributeBase e f X.env (eval e X.env)=eval e X.env):PE X (.Attribute e f pos) (qR X.K ta f):=by
 intro pins s σ H Q I h
 refine xb hb (thn (he pins s σ H _ I h) λu s1 ⟨x,H1,I1,rx,a,C,dx,fs,v,ex,ea,c,n,l,q⟩=>?_)
 subst ex
 obtain rfl:u=Value.ref a:=rx
 exact j0 I1 ea c n l λu' s2 I2 ru=>⟨v,H1,I2,ru,q⟩
theorem aL(ha:PE X o ta)(hv:PE X value tv)(hs:swapsWith value (some (.Attribute o f pos')) pos.line X.env=pure false):PS X (.Assign [.Attribute o f pos'] value pos) (AO X.K ta tv f):=by
 intro pins s σ H D I h
 refine plainObj_wpAny_Assign_Attribute (thn (hv pins s σ H _ I h) λu s1 ⟨y,H1,I1,ry,q⟩=>thn (ha pins s1 σ H1 _ I1 q) λov s2 ⟨x,H2,I2,rx,a,C,dx,fs,ex,ea,c,n,l,q2⟩=>?_) hs
 subst ex
 obtain rfl:ov=Value.ref a:=rx
 exact jG I2 ea c n l ry λs3 I3=>⟨σ,_,I3,q2⟩
theorem iL{op:Operator}{rd:V->V->Hp->VK->Prop}(ha:PE X o ta)(hv:PE X value tv)(hop:AC X op rd):PS X (.AugAssign (.Attribute o f tpos) op value pos) (v0 X.K ta tv rd f):=by
 intro pins s σ H D I h
 refine wpAny_AugAssign_AttributeAny (thn (ha pins s σ H _ I h) λov s1 ⟨x,H1,I1,rx,a,C,dx,fs,v,ex,ea,c,n,l,q⟩=>?_)
 subst ex
 obtain rfl:ov=Value.ref a:=rx
 refine j0 I1 ea c n l λu s2 I2 ru=>thn (hv pins s2 σ H1 _ I2 q) λw3 s3 ⟨y,H2,I3,ry,q3⟩=>thn (hop pins s3 σ H2 v y u w3 _ I3 ru ry q3) λw4 s4 ⟨z,H3,I4,rz,dx',fs',ea',l',q4⟩=>?_
 exact jG I4 ea' c n l' rz λs5 I5=>⟨σ,_,I5,q4⟩
def AU:V->V->Hp->VK->Prop:=λx y H Q=>∃i j,x=.int i/\y=.int j/\Q (.int (i+j)) H
theorem pM:AC X .Add AU:=by
 rintro pins s σ H x y u v Q I rx ry ⟨i,j,rfl,rfl,q⟩
 obtain ⟨t,rfl⟩:=(show ∃t,u=Value.int i t from rx)
 obtain ⟨t',rfl⟩:=(show ∃t',v=Value.int j t' from ry)
 exact PyProof.Rows.iadd_int ⟨.int (i+j),H,I.tok _,⟨_,rfl⟩,q⟩
end
section
variable {X:Cx}{pins:List (Addr×Obj)}{σ:St}{H:Hp}{s:Shared}{A:Around}{E:Value->Shared->Prop}{Q:Value->Shared->Prop}{c:Value}{b:Bool}
inductive TyOf (K:Frag) (H:Hp):V->Value->Prop where
 | non:TyOf K H .non (.type "NoneType")
 | bl (x:Bool):TyOf K H (.bl x) (.type "bool")
 | int (i:Int):TyOf K H (.int i) (.type "int")
 | str (x:Str):TyOf K H (.str x) (.type "str")
 | flt (x:UInt64):TyOf K H (.flt x) (.type "float")
 | lst {a:Addr} {xs:List V} (e:H a=some (.lst xs)):TyOf K H (.ref a) (.type "list")
 | frz {a:Addr} {o:Obj} {xs:List V} (e:H a=some (.frz o (.lst xs))):TyOf K H (.ref a) (.type "list")
 | tup {a:Addr} {xs:List V} (e:H a=some (.tup xs)):TyOf K H (.ref a) (.type "tuple")
 | dK {a:Addr} {kvs:List (Key×V)} (e:H a=some (.dK kvs)):TyOf K H (.ref a) (.type "dict")
 | dT {a:Addr} {kvs:List (List Key×V)} (e:H a=some (.dT kvs)):TyOf K H (.ref a) (.type "dict")
 | ins {a C dx:Addr} {fs:List (Str×V)} (e:H a=some (.ins C dx fs)) (cl:Cls K C) (ha:PySem.W.findIn K (.ref C) "__class__"=some (some (.builtin "object.__class__")))
   (hn:PySem.W.specialIn K (.builtin "object.__class__") "__get__"=some (some (.builtin "getset_descriptor.__get__"))) (htk:PySem.W.takesIn K (.builtin "object.__class__")=some true)
   (hm:PySem.W.mroIn K C (.type "object")=some true):TyOf K H (.ref a) (.ref C)
theorem rK{x:V}{u t:Value}(I:Inv X pins σ H s)(rx:RelV x u)(ty:TyOf X.K H x t)(e:PySem.W.kitOne X.K t c=some b)(h:∀tk,Q (.bool b) {s with toks:=tk}) :
  wpAny (model X.prog X.w) A (call (.builtin "isinstance") [u,c]) Q E s:=by
 cases ty with
 | non=>cases (show u=Value.none from rx);exact PySem.W.kia_one PySem.W.kitx_none I.kIn True.intro e (λz=>nomatch z) h
 | bl y=>cases (show u=Value.bool y from rx);exact PySem.W.kia_one PySem.W.kitx_bool I.kIn True.intro e (λz=>nomatch z) h
 | int i=>obtain ⟨t,q⟩:=(show ∃t,u=Value.int i t from rx);cases q;exact PySem.W.kia_one PySem.W.kitx_int I.kIn True.intro e (λz=>nomatch z) h
 | str y=>obtain ⟨t,q⟩:=(show ∃t,u=Value.str y t from rx);cases q;exact PySem.W.kia_one PySem.W.kitx_str I.kIn True.intro e (λz=>nomatch z) h
 | flt y=>obtain ⟨t,q⟩:=(show ∃t,u=Value.float y t from rx);cases q;exact PySem.W.kia_one PySem.W.kitx_float I.kIn True.intro e (λz=>nomatch z) h
 | @lst a xs ea =>
  cases (show u=Value.ref a from rx)
  obtain ⟨_,_,n,_,h1⟩:=(show ObjOk X.prog X.w H s.heap a (.lst xs) from I.hok a _ ea)
  exact PySem.W.kia_one PySem.W.kitx_list I.kIn ⟨_,h1,rfl⟩ e (λz=>nomatch z) h
 | @frz a ob xs ea =>
  cases (show u=Value.ref a from rx)
  obtain ⟨_,_,_,n,_,h1⟩:=(show ObjOk X.prog X.w H s.heap a (.frz ob (.lst xs)) from I.hok a _ ea)
  exact PySem.W.kia_one PySem.W.kitx_list I.kIn ⟨_,h1,rfl⟩ e (λz=>nomatch z) h
 | @tup a xs ea =>
  cases (show u=Value.ref a from rx)
  obtain ⟨_,_,_,p⟩:=(show ObjOk X.prog X.w H s.heap a (.tup xs) from I.hok a _ ea)
  obtain ⟨o,h1,h2,_⟩:=p
  exact PySem.W.kia_one PySem.W.kitx_tuple I.kIn ⟨o,h1,h2⟩ e (λz=>nomatch z) h
 | @dK a kvs ea =>
  cases (show u=Value.ref a from rx)
  obtain ⟨_,_,vs,_,p⟩:=(show ObjOk X.prog X.w H s.heap a (.dK kvs) from I.hok a _ ea)
  obtain ⟨o,es,ep,h1,h2,_⟩:=p
  exact PySem.W.kia_one PySem.W.kitx_dict I.kIn ⟨o,h1,h2.1⟩ e (λz=>nomatch z) h
 | @dT a kvs ea =>
  cases (show u=Value.ref a from rx)
  obtain ⟨_,_,xs,_,o,es,ep,h1,h2,_⟩:=(show ObjOk X.prog X.w H s.heap a (.dT kvs) from I.hok a _ ea)
  exact PySem.W.kia_one PySem.W.kitx_dict I.kIn ⟨o,h1,h2.1⟩ e (λz=>nomatch z) h
 | @ins a C dx fs ea cl ha hn htk hm =>
  cases (show u=Value.ref a from rx)
  obtain ⟨mA,O,_⟩:=jv I.hok ea
  obtain ⟨od,J,_⟩:=O.look
  exact PySem.W.kia_one (PySem.W.kitx_own (cl.get _) cl.hd ha hn htk hm) I.kIn J e (λz=>nomatch z) h
end
end L2
namespace L2
open PySem PySem.Spec PyProof.Rows
structure Room(k:Nat)(A:Around):Prop where
 hd:A.handled=none
 dp:A.depth+3*k+5<recursionLimit
 un:A.units+16*k+200<cLine
theorem Room.mono{j k:Nat}{A:Around}(r:Room k A)(h:j<=k):Room j A:=⟨r.hd,by have:=r.dp;omega,by have:=r.un;omega⟩
theorem Room.deeper{k:Nat}{A:Around}(r:Room (k+1) A)(env:Env):Room k (A.deeper env) :=
 ⟨r.hd,by have:=r.dp;show A.depth+1+3*k+5<_;omega,by have:=r.un;show A.units+3+16*k+200<_;omega⟩
theorem pF{A:Around}{C:Addr}{us:List Value}{kw:List (Str×Value)}:(A.under (.builtin "type.__call__" ⟨.ref C::us,kw⟩)).depth=A.depth+1:=by
 first | rfl | simp [Around.under,Code.weight,Code.isCreation,Code.isGuard,Code.isCaller,Code.frames,Code.isFrame,guardIds]
theorem pE{A:Around}{C:Addr}{us:List Value}{kw:List (Str×Value)}:(A.under (.builtin "type.__call__" ⟨.ref C::us,kw⟩)).units=A.units+1:=by
 first | rfl | simp [Around.under,Code.cUnits,Code.frames,Code.isFrame]
theorem Room.make{k:Nat}{A:Around}(r:Room (k+1) A)(C:Addr)(us:List Value)(kw:List (Str×Value)):Room k (A.under (.builtin "type.__call__" ⟨.ref C::us,kw⟩)) :=
 ⟨r.hd,by have:=r.dp;rw [pF];omega,by have:=r.un;rw [pE];omega⟩
theorem Room.depth{k:Nat}{A:Around}(r:Room k A):A.depth<recursionLimit:=by have:=r.dp;omega
theorem Room.units{k:Nat}{A:Around}(r:Room k A):A.units+64<cLine:=by have:=r.un;omega
def vJ:TA:=λ_ H Q=>Q [] H
def xl(ta:TE)(tr:TA):TA:=fun σ H Q=>ta σ H λx H1=>tr σ H1 λxs H2=>Q (x::xs) H2
section
variable {X:Cx}{e:Expr}{es:List Expr}{te:TE}{t:TA}{pos:Pos}
theorem ad:PA X [] vJ:=λ_ _ _ _ H Q I h=>Calls.spliced_nil ⟨[],H,I,.nil,h⟩
theorem aa(ha:PE X e te)(hr:PA X es t)(hs:starEach (e::es) X.env=(false,eval e X.env)::starEach es X.env:=by rfl):PA X (e::es) (xl te t):=by
 intro pos pins s σ H Q I h
 rw [hs]
 show wpAny _ _ (spliced ((false,eval e X.env)::backTo pos (starEach es X.env))) _ _ s
 refine Calls.spliced_cons (thn (ha pins s σ H _ I h) λu s1 ⟨x,H1,I1,r1,q1⟩=>?_)
 exact thn (hr pos pins s1 σ H1 _ I1 q1) λus s2 ⟨xs,H2,I2,r2,q2⟩=>⟨x::xs,H2,I2,.cons r1 r2,q2⟩
def AE(t:TA):TE:=fun σ H Q=>t σ H λxs H1=>xs.length<=sizeLine/\∀p,H1 p=none->Q (.ref p) (upd H1 p (.tup xs))
def AJ(t:TA):TE:=fun σ H Q=>t σ H λxs H1=>xs.length<=sizeLine/\∀p,H1 p=none->Q (.ref p) (upd H1 p (.lst xs))
theorem bi{x1}(h:PA X es t):PE X (.Tuple es x1 pos) (AE t):=by
 intro pins s σ H Q I hq
 refine wpAny_Tuple_spliced (thn (h pos pins s σ H _ I hq) λus s1 ⟨xs,H1,I1,r,z,q⟩=>⟨by rw [← r.length];exact z,?_⟩)
 have hf:H1 s1.heap.objs.size=none:=I1.hok.fresh (ι _)
 refine ⟨.ref s1.heap.objs.size,upd H1 s1.heap.objs.size (.tup xs),I1.laid (t':=s1.toks) (λb u e=>ρ _ e) (ι _) ?_,rfl,q _ hf⟩
 exact ⟨z,us,r,⟨_,ψ _ rfl,rfl,_,rfl⟩⟩
theorem aQ(h:PA X es t):PE X (.List es pos) (AJ t):=by
 intro pins s σ H Q I hq
 refine wpAny_List_spliced (thn (h pos pins s σ H _ I hq) λus s1 ⟨xs,H1,I1,r,z,q⟩=>⟨by rw [← r.length];exact z,?_⟩)
 have hf:H1 s1.heap.objs.size=none:=I1.hok.fresh (ι _)
 refine ⟨.ref s1.heap.objs.size,upd H1 s1.heap.objs.size (.lst xs),I1.laid (t':=s1.toks) (λb u e=>ρ _ e) (ι _) ?_,rfl,q _ hf⟩
 exact ⟨z,us,0,r,ψ _ rfl⟩
end
abbrev Sp:=List V->Hp->VK->XK->Prop
abbrev CXT:=List Env->Hp->Shared->XK->Value->Shared->Prop
structure Env0(P:Program)(w:World)(K:Frag)(mg:Str->Option Value)(base:Heap)(A:Around)(outer:List Env)(s:Shared)(H:Hp):Prop where
 frames:A.frames=some outer
 mod:Mod K mg base
 bs:∀b o,base.get? b=some o->s.heap.get? b=some o/\H b=none
 bsz:base.objs.size<=s.heap.objs.size
 funs:s.heap.FunFrames base outer
 frf:∀b∈frs outer,H b=none
 hok:HOk P w H s.heap
 bare:AllBare s.gens
def CE(outer:List Env)(P:Program)(w:World)(H:Hp)(s:Shared)(Q:VK)(u:Value)(s':Shared):Prop :=
 ∃v H',s'.os=s.os/\AllBare s'.gens/\Un (frs outer) [] H H' s.heap s'.heap/\HOk P w H' s'.heap/\RelV v u/\Q v H'
def CR(CX:CXT)(outer:List Env)(P:Program)(w:World)(H:Hp)(s:Shared)(Q:VK)(E:XK)(r:Result)(s':Shared):Prop :=
 match r with
 | .ok (.ret u)=>CE outer P w H s Q u s'
 | .ok _=>False
 | .error e=>CX outer H s E e s'
structure FnOk(P:Program)(w:World)(K:Frag)(mg:Str->Option Value)(base:Heap)(CX:CXT)(k:Nat)(f:Addr)(fd:FuncData)(ps:List Str)(sp:Sp):Prop where
 len:∀vs H Q E,sp vs H Q E->vs.length=ps.length
 run:∀(A:Around) (outer:List Env) (s:Shared) (H:Hp) (args:Args) (us:List Value) (vs:List V) (Q:VK) (E:XK),Room k A->Env0 P w K mg base A outer s H->BindsTo s fd args (ps.zip us)->Vals vs us->sp vs H Q E ->
  codeAny (model P w) A (.call (.ref f) args) (CR CX outer P w H s Q E) s
theorem FnOk.mono{P:Program}{w:World}{K:Frag}{mg:Str->Option Value}{base:Heap}{CX:CXT}{j k:Nat}{f:Addr}{fd:FuncData}{ps:List Str}{sp:Sp}(F:FnOk P w K mg base CX j f fd ps sp)(h:j<=k) :
  FnOk P w K mg base CX k f fd ps sp:=⟨F.len,λA outer s H args us vs Q E hr=>F.run A outer s H args us vs Q E (hr.mono h)⟩
theorem FnOk.imp{P:Program}{w:World}{K:Frag}{mg:Str->Option Value}{base:Heap}{CX:CXT}{k:Nat}{f:Addr}{fd:FuncData}{ps:List Str}{sp sp':Sp}(F:FnOk P w K mg base CX k f fd ps sp)
  (h:∀vs H Q E,sp' vs H Q E->sp vs H Q E):FnOk P w K mg base CX k f fd ps sp' :=
 ⟨λvs H Q E q=>F.len vs H Q E (h _ _ _ _ q),λA outer s H args us vs Q E hr he hb hv hs=>F.run A outer s H args us vs Q E hr he hb hv (h _ _ _ _ hs)⟩
theorem Env0.make{P:Program}{w:World}{K:Frag}{mg:Str->Option Value}{base:Heap}{A:Around}{outer:List Env}{s:Shared}{H:Hp}(e:Env0 P w K mg base A outer s H)(C:Addr)(us:List Value)(kw:List (Str×Value)) :
  Env0 P w K mg base (A.under (.builtin "type.__call__" ⟨.ref C::us,kw⟩)) outer s H:=⟨by first | exact e.frames | (simpa [Around.under,Code.envs,Code.isFrame,pushEnvs] using e.frames),e.mod,e.bs,e.bsz,e.funs,e.frf,e.hok,e.bare⟩
section
variable {X:Cx}{pins:List (Addr×Obj)}{σ:St}{H:Hp}{s s':Shared}
theorem Inv.env0(I:Inv X pins σ H s):Env0 X.prog X.w X.K X.mg X.base X.A X.stack s H :=
 ⟨I.ok.frames,I.ok.mod,I.bs,Λ I.ok.bsz I.sz,I.stack,I.stkFree,I.hok,I.bare⟩
theorem Inv.after{Q:VK}{u:Value}(I:Inv X pins σ H s)(h:CE X.stack X.prog X.w H s Q u s'):EP X pins σ Q u s':=by
 obtain ⟨v,H',os,bare,un,hok,r,q⟩:=h
 obtain ⟨hh,g,d,t,os'⟩:=s'
 obtain rfl:os'=s.os:=os
 exact ⟨v,H',I.call (h':=hh) (g':=g) (d':=d) (t':=t) (ch:=[]) un hok bare (λb z=>absurd z (by simp)),r,q⟩
end
def su(sp:Sp)(dvs:List V)(E:XK)(t:TA):TE:=fun σ H Q=>t σ H λvs H1=>sp (vs++dvs) H1 Q E
def pZ(C:Addr)(m:Str)(sp:Sp)(dvs:List V)(E:XK)(ta:TE)(t:TA):TE:=fun σ H Q=>ta σ H λx H1=>∃a dx fs,x=.ref a/\H1 a=some (.ins C dx fs)/\fs.lookup m=none /\
 t σ H1 λvs H2=>sp (x::(vs++dvs)) H2 Q E
def zJ(C:Addr)(sp:Sp)(dvs:List V)(E:XK)(t:TA):TE:=fun σ H Q=>t σ H λvs H1=>∀x dx,H1 x=none->H1 dx=none->dx≠x ->
 sp (.ref x::(vs++dvs)) (upd (upd H1 dx (.own x)) x (.ins C dx [])) (λv H2=>v=.non/\Q (.ref x) H2) E
def Binds(K:Frag)(fd:FuncData)(ps:List Str)(ds:List Value):Prop :=
 ∀(s:Shared) (us:List Value),K.In s.heap->(us++ds).length=ps.length->BindsTo s fd ⟨us,[]⟩ (ps.zip (us++ds))
theorem Binds.all{K:Frag}{fd:FuncData}{ps:List Str}(h:∀us:List Value,us.length=ps.length->bindArgs fd ⟨us,[]⟩=pure (ps.zip us)):Binds K fd ps []:=λs us _ hl=>by
 rw [List.append_nil] at hl ⊢
 exact .of_eq (h us hl)
def dM(CX:CXT)(X:Cx)(E:XK):Prop:=∀(pins:List (Addr×Obj)) (σ:St) (H:Hp) (s:Shared) (e:Value) (s':Shared),Inv X pins σ H s->CX X.stack H s E e s'->X.xe e s'
section
variable {X:Cx}{CX:CXT}{k:Nat}{f C:Addr}{fd:FuncData}{ps:List Str}{sp:Sp}{dvs:List V}{ds:List Value}{E:XK}{x m:Str}{p pos apos:Pos}{e o:Expr}{es:List Expr}{ta:TE}{t:TA}
theorem mi{pins:List (Addr×Obj)}{σ:St}{H:Hp}{s:Shared}{Q:VK}{us:List Value}{vs:List V}(F:FnOk X.prog X.w X.K X.mg X.base CX k f fd ps sp)(hr:Room k X.A)(hb:Binds X.K fd ps ds)(hd:Vals dvs ds)(hx:dM CX X E)
  (I:Inv X pins σ H s)(r:Vals vs us)(h:sp (vs++dvs) H Q E):wpAny (model X.prog X.w) X.A (call (.ref f) us) (EP X pins σ Q) X.xe s:=by
 have r2:Vals (vs++dvs) (us++ds):=r.append hd
 have hl:(us++ds).length=ps.length:=by rw [← r2.length];exact F.len _ _ _ _ h
 refine wpAny_call (codeAny_mono (F.run X.A X.stack s H ⟨us,[]⟩ (us++ds) (vs++dvs) Q E hr I.env0 (hb s us I.kIn hl) r2 h) λr s' hq=>?_)
 cases r with
 | error e=>exact hx pins σ H s e s' I hq
 | ok fl =>
  cases fl with
  | ret u=>exact I.after hq
  | next=>exact False.elim hq
  | brk=>exact False.elim hq
  | cont=>exact False.elim hq
theorem mj(F:FnOk X.prog X.w X.K X.mg X.base CX k f fd ps sp)(hr:Room k X.A)(hg:Gl X x)(hm:X.mg x=some (.ref f))(hk:PySem.W.keepIn X.K (.ref f)=true)(hb:Binds X.K fd ps ds)(hd:Vals dvs ds)(hx:dM CX X E)
  (ha:PA X (e::es) t)(hdb:(x==("__debug__":Str))=false:=by decide)(he:starEach (e::es) X.env=(false,eval e X.env)::starEach es X.env:=by rfl)(hpl:(backTo pos (starEach es X.env)).any (·.1)=false:=by rfl) :
  PE X (.Call (.Name x p) (e::es) [] pos) (su sp dvs E t):=by
 intro pins s σ H Q I h
 refine wpAny_Call_Name_kw (il I hg hm ?_ hdb)
 refine PySem.W.callWith_K (h₀:=X.base) I.ok.mod.kin hk (thn (ha pos pins s σ H _ I h) λus s1 ⟨vs,H1,I1,r,q⟩=>⟨I1.kIn,?_⟩) he hpl
 exact mi F hr hb hd hx I1 r q
theorem gq{pl:Sem Bool}(he:PE X o ta)(c:Cls X.K C)(hm:gE X.K C m f)(F:FnOk X.prog X.w X.K X.mg X.base CX k f fd ps sp)(hr:Room k X.A)(hb:Binds X.K fd ps ds)(hd:Vals dvs ds)(hx:dM CX X E)(ha:PA X (e::es) t)
  (hst:starEach (e::es) X.env=(false,eval e X.env)::starEach es X.env:=by rfl)(hpl:(backTo pos (starEach es X.env)).any (·.1)=false:=by rfl)
  (ht:eval (.Call (.Attribute o m apos) (e::es) [] pos) X.env=(do
   let ov ← eval o X.env
   standAt apos.atName
   let (f,first) ← holding [ov] (getMethod ov m pl)
   callWith pos f first (backTo pos (starEach (e::es) X.env)) (backToKw pos (keywordEach [] X.env))):=by rfl) :
  PE X (.Call (.Attribute o m apos) (e::es) [] pos) (pZ C m sp dvs E ta t):=by
 intro pins s σ H Q I h
 refine PySem.W.methodCall_KW (pl:=pl) (thn (he pins s σ H _ I h) λu s1 ⟨x,H1,I1,rx,a,dx,fs,ex,ea,l,q⟩=>?_) ht
 subst ex
 obtain rfl:u=Value.ref a:=rx
 refine g7 I1 ea c hm l ?_
 refine PySem.W.callWith_K (first:=[.ref a]) (h₀:=X.base) I.ok.mod.kin hm.kp (thn (ha pos pins s1 σ H1 _ I1 q) λus s2 ⟨vs,H2,I2,r,q2⟩=>⟨I2.kIn,?_⟩) hst hpl
 exact mi (us:=.ref a::us) (vs:=.ref a::vs) F hr hb hd hx I2 (.cons rfl r) q2
theorem ie{pl:Sem Bool}(he:PE X o ta)(c:Cls X.K C)(hm:gE X.K C m f)(F:FnOk X.prog X.w X.K X.mg X.base CX k f fd ps sp)(hr:Room k X.A)(hb:Binds X.K fd ps ds)(hd:Vals dvs ds)(hx:dM CX X E)
  (ht:eval (.Call (.Attribute o m apos) [] [] pos) X.env=(do
   let ov ← eval o X.env
   standAt apos.atName
   let (f,first) ← holding [ov] (getMethod ov m pl)
   callWith pos f first (backTo pos (starEach [] X.env)) (backToKw pos (keywordEach [] X.env))):=by rfl) :
  PE X (.Call (.Attribute o m apos) [] [] pos) (pZ C m sp dvs E ta vJ):=by
 intro pins s σ H Q I h
 refine PySem.W.methodCall_KW (pl:=pl) (thn (he pins s σ H _ I h) λu s1 ⟨x,H1,I1,rx,a,dx,fs,ex,ea,l,q⟩=>?_) ht
 subst ex
 obtain rfl:u=Value.ref a:=rx
 refine g7 I1 ea c hm l ?_
 exact PySem.W.callWith_K0 (first:=[.ref a]) I1.kIn hm.kp (mi (us:=[.ref a]) (vs:=[.ref a]) F hr hb hd hx I1 (.cons rfl .nil) q)
structure Mk(K:Frag)(C f:Addr):Prop where
 makes:PySem.W.makesIn K C=true
 init:PySem.W.findIn K (.ref C) "__init__"=some (some (.ref f))
 fn:PySem.W.isFn K (.ref f)=true
 kp:PySem.W.keepIn K (.ref C)=true
theorem tw{pins:List (Addr×Obj)}{σ:St}{H:Hp}{s:Shared}{Q:VK}{us:List Value}{vs:List V}(M:Mk X.K C f)(F:FnOk X.prog X.w X.K X.mg X.base CX k f fd ps sp)(hr:Room (k+1) X.A)(hb:Binds X.K fd ps ds)(hd:Vals dvs ds)
  (hx:dM CX X E)(I:Inv X pins σ H s)(r:Vals vs us)
  (h:∀x dx,H x=none->H dx=none->dx≠x->sp (.ref x::(vs++dvs)) (upd (upd H dx (.own x)) x (.ins C dx [])) (λv H2=>v=.non/\Q (.ref x) H2) E) :
  wpAny (model X.prog X.w) X.A (call (.ref C) us) (EP X pins σ Q) X.xe s:=by
 have hq:=h (s.heap.objs.size+1) s.heap.objs.size (I.hok.fresh (Nat.le_succ _)) (I.hok.fresh (ι _)) (Φ (Nat.lt_succ_self _))
 have I2:=Inv.made (C:=C) I
 have r2:Vals (V.ref (s.heap.objs.size+1)::(vs++dvs)) (Value.ref (s.heap.objs.size+1)::(us++ds)):=.cons rfl (r.append hd)
 have hl:(Value.ref (s.heap.objs.size+1)::us++ds).length=ps.length:=by
  have e:=r2.length
  rw [F.len _ _ _ _ hq] at e
  exact e.symm
 refine wpAny_call (uN (f:=f) I.kIn M.makes M.init (beq_iff_eq.mp M.fn) (codeAny_mono (F.run _ X.stack _ _ ⟨Value.ref (s.heap.objs.size+1)::us,[]⟩ (Value.ref (s.heap.objs.size+1)::(us++ds)) _ _ E (hr.make C us [])
  (I2.env0.make C us []) (hb _ (Value.ref (s.heap.objs.size+1)::us) I2.kIn hl) r2 hq) λr s' hq'=>?_))
 cases r with
 | error e=>exact hx pins σ _ _ e s' I2 hq'
 | ok fl =>
  cases fl with
  | ret u =>
   obtain ⟨v,H',I3,rv,ev,q3⟩:=I2.after hq'
   subst ev
   exact ⟨rv,⟨V.ref (s.heap.objs.size+1),H',I3,rfl,q3⟩⟩
  | next=>exact False.elim hq'
  | brk=>exact False.elim hq'
  | cont=>exact False.elim hq'
theorem cu(M:Mk X.K C f)(F:FnOk X.prog X.w X.K X.mg X.base CX k f fd ps sp)(hr:Room (k+1) X.A)(hg:Gl X x)(hm:X.mg x=some (.ref C))(hb:Binds X.K fd ps ds)(hd:Vals dvs ds)(hx:dM CX X E)
  (ha:PA X (e::es) t)(hdb:(x==("__debug__":Str))=false:=by decide)(he:starEach (e::es) X.env=(false,eval e X.env)::starEach es X.env:=by rfl)(hpl:(backTo pos (starEach es X.env)).any (·.1)=false:=by rfl) :
  PE X (.Call (.Name x p) (e::es) [] pos) (zJ C sp dvs E t):=by
 intro pins s σ H Q I h
 refine wpAny_Call_Name_kw (il I hg hm ?_ hdb)
 refine PySem.W.callWith_K (h₀:=X.base) I.ok.mod.kin M.kp (thn (ha pos pins s σ H _ I h) λus s1 ⟨vs,H1,I1,r,q⟩=>⟨I1.kIn,?_⟩) he hpl
 exact tw M F hr hb hd hx I1 r q
end
structure al(N P:List Str)(sc:Scope):Prop where
 kind:sc.kind=.function
 co:sc.isCoroutine=false
 gen:sc.isGenerator=false
 nd:N.Nodup
 pre:N.take P.length=P
 par:∀x∈P,sc.names.lookup x=some .local\/sc.names.lookup x=some .cell
 nofree:∀y∈sc.names,y.2≠.free
theorem lq{kindOf:Str->Option NameKind}{x:Str}:∀{binds:List (Str×Value)} {m:Str->Option Value},(∀v,(x,v)∉binds)->bindL kindOf binds m x=m x
 | [],_,_=>rfl
 | (n,v)::r,m,h=>by
  unfold bindL
  rw [lq λw hw=>h w (Θ _ hw)]
  split
  ·have:x≠n:=by rintro rfl;exact h v Ω
   simp [this]
  ·rfl
theorem lA{kindOf:Str->Option NameKind}{x:Str}:∀{binds:List (Str×Value)} {m:Str->Option Value},(∀v,(x,v)∉binds)->bindC kindOf binds m x=m x
 | [],_,_=>rfl
 | (n,v)::r,m,h=>by
  unfold bindC
  rw [lA λw hw=>h w (Θ _ hw)]
  split
  ·rfl
  ·have:x≠n:=by rintro rfl;exact h v Ω
   simp [this]
theorem lu{kindOf:Str->Option NameKind}{x:Str}{v:Value}:∀{P:List Str} {vs:List Value} {i:Nat} {m:Str->Option Value},P.Nodup->P[i]?=some x->vs[i]?=some v->kindOf x=some .local ->
  bindL kindOf (P.zip vs) m x=some v
 | [],_,_,_,_,h,_,_=>by simp at h
 | _::_,[],_,_,_,_,h,_=>by simp at h
 | p::P,w::vs,0,m,nd,h1,h2,hk=>by
  simp at h1 h2;subst h1;subst h2
  show bindL kindOf ((p,w)::P.zip vs) m p=_
  unfold bindL
  rw [lq λv hv=>(List.nodup_cons.mp nd).1 (List.of_mem_zip hv).1,if_pos hk]
  simp
 | p::P,w::vs,i+1,m,nd,h1,h2,hk=>by
  show bindL kindOf ((p,w)::P.zip vs) m x=_
  unfold bindL
  exact lu (i:=i) (List.nodup_cons.mp nd).2 (by simpa using h1) (by simpa using h2) hk
theorem lB{kindOf:Str->Option NameKind}{x:Str}{v:Value}:∀{P:List Str} {vs:List Value} {i:Nat} {m:Str->Option Value},P.Nodup->P[i]?=some x->vs[i]?=some v->kindOf x≠some .local ->
  bindC kindOf (P.zip vs) m x=some v
 | [],_,_,_,_,h,_,_=>by simp at h
 | _::_,[],_,_,_,_,h,_=>by simp at h
 | p::P,w::vs,0,m,nd,h1,h2,hk=>by
  simp at h1 h2;subst h1;subst h2
  show bindC kindOf ((p,w)::P.zip vs) m p=_
  unfold bindC
  rw [lA λv hv=>(List.nodup_cons.mp nd).1 (List.of_mem_zip hv).1,if_neg hk]
  simp
 | p::P,w::vs,i+1,m,nd,h1,h2,hk=>by
  show bindC kindOf ((p,w)::P.zip vs) m x=_
  unfold bindC
  exact lB (i:=i) (List.nodup_cons.mp nd).2 (by simpa using h1) (by simpa using h2) hk
def start(N:List Str)(vs:List V):St:=vs.map some++List.replicate (N.length-vs.length) none
def oq(CX:CXT)(P:Program)(w:World)(K:Frag)(mg:Str->Option Value)(base:Heap)(N:List Str)(qual:Str)(scope:Scope)(f:Addr)(cd:Value)(A:Around)(outer:List Env)(s:Shared)(H:Hp)(E:XK):Cx where
 prog:=P
 w:=w
 K:=K
 mg:=mg
 base:=base
 A:=A.deeper (envOfC qual scope s.heap.objs.size f cd)
 N:=N
 s₀:=s
 H₀:=H
 env:=envOfC qual scope s.heap.objs.size f cd
 outer:=outer
 stack:=envOfC qual scope s.heap.objs.size f cd::outer
 ex:=[]
 calm:=true
 fn:=λ_=>true
 pn:=[]
 xe:=λe s'=>wpAny (model P w) (A.deeper (envOfC qual scope s.heap.objs.size f cd)) (leaving (envOfC qual scope s.heap.objs.size f cd) e) (λ_ s''=>CX outer H s E e s'') (λe' s''=>CX outer H s E e' s'') s'
theorem ow{sc:Scope}{n:Nat}{x:Str}(h:sc.names.lookup x=some .cell):∃c,(cellsFrom n sc.names []).lookup x=some c:=by
 have q:=PySem.W.cellsFrom_some sc.names n [] (.inl h)
 exact Option.isSome_iff_exists.mp q
theorem rL{CX:CXT}{P:Program}{w:World}{K:Frag}{mg:Str->Option Value}{base:Heap}{N ps:List Str}{qual:Str}{scope:Scope}{f:Addr}{cd:Value}{A:Around}{outer:List Env}{s s1:Shared}{H:Hp}{E:XK}{us:List Value}{vs:List V}
  (S:al N ps scope)(hd:A.handled=none)(e0:Env0 P w K mg base A outer s H)(hl:vs.length=ps.length)(r:Vals vs us)
  (x:InCallC s s.heap.objs.size (bindL (envOfC qual scope s.heap.objs.size f cd).kindOf (ps.zip us) λ_=>none) (cellsFrom (s.heap.objs.size+1) scope.names []) (bindC (envOfC qual scope s.heap.objs.size f cd).kindOf (ps.zip us) λ_=>none) s1) :
  Inv (oq CX P w K mg base N qual scope f cd A outer s H E) [] (start N vs) H s1:=by
 have hpl:ps.length<=N.length:=by have:=congrArg List.length S.pre;rw [List.length_take] at this;omega
 obtain ⟨h1,tk,rfl,hk⟩:=x.done
 have noA:∀b:Addr,b∉(oq CX P w K mg base N qual scope f cd A outer s H E).ex:=λb z=>absurd (show b∈([]:List Addr) from z) (by simp)
 refine ⟨⟨e0.mod,S.kind,rfl,rfl,ι _,λy z c h1 h2=>?_,λy hy=>?_,λy c _ h=>?_,λ_=>hd,Around.frames_deeper e0.frames,.inr ⟨rfl,rfl⟩,λb z=>absurd z (noA b),e0.bs,e0.bsz,λb _ _=>noA b,λb z=>absurd z (noA b),e0.funs,e0.frf⟩,
  rfl,e0.bare,Un.kept hk,⟨_,x.toInCall.ns,λi y v h1 h2 h3=>?_⟩,λy c h=>⟨_,x.cell y c h⟩,e0.hok.fresh (Nat.le_refl _),λy c h=>?_,λp hp=>absurd (show p∈([]:List (Addr×Obj)) from hp) (by simp),e0.hok.kept hk,?_⟩
 ·exact name_of_addr x.apart (PySem.mem_of_lookup h1) (PySem.mem_of_lookup h2)
 ·have hy:scope.names.lookup y=some .cell\/scope.names.lookup y=some .free:=hy
  rcases hy with hy | hy
  ·exact ow hy
  ·exact absurd rfl (S.nofree _ (PySem.mem_of_lookup hy))
 ·exact Nat.le_of_lt (x.above y c (PySem.mem_of_lookup h))
 ·have hi:i<vs.length:=by
   unfold start at h2
   by_cases hi:i<vs.length
   ·exact hi
   ·rw [List.getElem?_append_right (by simpa using hi)] at h2
    rw [List.getElem?_replicate] at h2
    split at h2<;>cases h2
  have ha:vs[i]?=some v:=by
   unfold start at h2
   rw [List.getElem?_append_left (by simpa using hi),List.getElem?_map] at h2
   cases e:vs[i]? with
   | none=>rw [e] at h2;cases h2
   | some a=>rw [e] at h2;cases h2;rfl
  obtain ⟨u,hu,rv⟩:=r.get ha
  have hp:ps[i]?=some y:=by
   rw [← S.pre,List.getElem?_take_of_lt ω];exact h1
  have ndP:ps.Nodup:=by rw [← S.pre];exact S.nd.sublist (List.take_sublist _ _)
  refine ⟨u,rv,?_⟩
  rcases S.par y (List.mem_of_getElem? hp) with k | k
  ·exact .inl ⟨k,lu ndP hp hu k⟩
  ·obtain ⟨c,e⟩:=ow (n:=s.heap.objs.size+1) k
   refine .inr ⟨.inl k,c,e,?_⟩
   have q:=x.cell y c e
   rw [lB ndP hp hu (by show scope.names.lookup y≠_;rw [k];decide)] at q
   exact q
 ·exact e0.hok.fresh (Nat.le_of_lt (x.above y c (PySem.mem_of_lookup h)))
 ·unfold start
  show _=N.length
  rw [List.length_append,List.length_map,List.length_replicate]
  omega
theorem xG{CX:CXT}{P:Program}{w:World}{K:Frag}{mg:Str->Option Value}{base:Heap}{k:Nat}{f:Addr}{name qual:Str}{params:Arguments}{body:List Stmt}{scope:Scope}{dV kV doc pm cdv ct oc:Value}{an od:Option Addr}
  {osl:Array (Option Value)}{N ps:List Str}{sp:Sp}(lk:K.lookup f=some ⟨oc,od,.func (PySem.W.fnOf name qual params body scope dV kV doc pm an cdv ct),osl⟩)(hcd:PySem.W.codeIn K cdv qual=true)(S:al N ps scope)
  (len:∀vs H Q E,sp vs H Q E->vs.length=ps.length)
  (hbody:∀(A:Around) (outer:List Env) (s:Shared) (H:Hp) (vs:List V) (Q:VK) (E:XK),Room k (A.deeper (envOfC qual scope s.heap.objs.size f cdv))->sp vs H Q E ->
   ∃t,PSs (oq CX P w K mg base N qual scope f cdv A outer s H E) body t/\t {nx:=λ_ H'=>Q .non H',rt:=Q} (start N vs) H) :
  FnOk P w K mg base CX (k+1) f (PySem.W.fnOf name qual params body scope dV kV doc pm an cdv ct) ps sp:=by
 refine ⟨len,λA outer s H args us vs Q E hr e0 hb r hsp=>?_⟩
 have hl:=len _ _ _ _ hsp
 have KX:K.In s.heap:=e0.mod.kin.keeps λb o e=>(e0.bs b o e).1
 have lim:s.heap.NoLimit:=e0.mod.nolimit.keeps λb o e=>(e0.bs b o e).1
 have hkind:∀y∈ps.zip us,scope.names.lookup y.1=some .local\/(scope.names.lookup y.1=some .cell/\((cellsFrom (s.heap.objs.size+1) scope.names []).lookup y.1).isSome=true):=λ⟨n,v⟩ hy=>by
  rcases S.par n (List.of_mem_zip hy).1 with q | q
  ·exact .inl q
  ·exact .inr ⟨q,PySem.W.cellsFrom_some _ _ _ (.inl q)⟩
 refine codeAny_call_function hr.depth (KX _ _ lk) rfl S.co S.gen rfl (PySem.W.codeRec_of KX hcd) (hb _ _ _ _ ?_)
 refine wpAny_newFunctionEnv_cells S.kind hkind λenv he s1 x=>?_
 subst he
 refine ⟨lim.keeps x.toInCall.keep,codeAny_func ?_⟩
 obtain ⟨t,ht,hq⟩:=hbody A outer s H vs Q E (hr.deeper _) hsp
 have I:Inv (oq CX P w K mg base N qual scope f cdv A outer s H E) [] (start N vs) H s1:=rL S hr.hd e0 hl r x
 refine wpAny_mono (ht [] s1 (start N vs) H _ I hq) (λfl s' hs=>?_) λe s' hs=>hs
 have fin:∀{σ':St} {H':Hp} {v:V} {u:Value},Inv (oq CX P w K mg base N qual scope f cdv A outer s H E) [] σ' H' s'->RelV v u->Q v H'->CE outer P w H s Q u s' :=
  λ{σ' H' v u} J rv q=>⟨v,H',J.os,J.bare,J.base,J.hok,rv,q⟩
 cases fl with
 | ret u =>
  obtain ⟨v,σ',H',J,rv,q⟩:=hs
  exact fin J rv q
 | next =>
  obtain ⟨σ',H',J,q⟩:=hs
  exact fin (v:=V.non) (u:=Value.none) J rfl q
 | brk =>
  obtain ⟨_,_,_,q⟩:=hs
  exact False.elim q
 | cont =>
  obtain ⟨_,_,_,q⟩:=hs
  exact False.elim q
end L2
namespace L2
open PySem PySem.Spec PyProof.Rows
section
variable {X:Cx}{x:Str}{p pos:Pos}{e:Expr}{es:List Expr}{t:TA}{id T:String}{r:List V->Hp->VK->Prop}
def tCB(r:List V->Hp->VK->Prop)(t:TA):TE:=fun σ H Q=>t σ H λvs H1=>r vs H1 Q
theorem aB(hc:dY X (.builtin id) r)(hg:Gl X x)(hm:X.mg x=none)(hv:bootBuiltins x=some (.builtin id))(ha:PA X (e::es) t)(hn:x≠"__name__":=by decide)(hdb:(x==("__debug__":Str))=false:=by decide)
  (he:starEach (e::es) X.env=(false,eval e X.env)::starEach es X.env:=by rfl)(hpl:(backTo pos (starEach es X.env)).any (·.1)=false:=by rfl):PE X (.Call (.Name x p) (e::es) [] pos) (tCB r t):=by
 intro pins s σ H Q I h
 refine wpAny_Call_Name_kw (gZ I hg hm hv ?_ hn hdb)
 exact PyProof.Rows.callWith_builtin1 (thn (ha pos pins s σ H _ I h) λus s1 ⟨vs,H1,I1,r1,q1⟩=>hc pins s1 σ H1 vs us Q I1 r1 q1) he hpl
theorem aV(hc:dY X (.type T) r)(hg:Gl X x)(hm:X.mg x=none)(hv:bootBuiltins x=some (.type T))(ha:PA X (e::es) t)(hn:x≠"__name__":=by decide)(hdb:(x==("__debug__":Str))=false:=by decide)
  (he:starEach (e::es) X.env=(false,eval e X.env)::starEach es X.env:=by rfl)(hpl:(backTo pos (starEach es X.env)).any (·.1)=false:=by rfl):PE X (.Call (.Name x p) (e::es) [] pos) (tCB r t):=by
 intro pins s σ H Q I h
 refine wpAny_Call_Name_kw (gZ I hg hm hv ?_ hn hdb)
 exact PyProof.Rows.callWith_type1 (thn (ha pos pins s σ H _ I h) λus s1 ⟨vs,H1,I1,r1,q1⟩=>hc pins s1 σ H1 vs us Q I1 r1 q1) he hpl
end
end L2
namespace HT
open PySem PyProof.Rows
def xz:List Int->List Int->Bool
 | [],[]=>false
 | [],_::_=>true
 | _::_,[]=>false
 | x::xs,y::ys=>if x=y then xz xs ys else decide (x<y)
section
open PySem.SeqAt
open PySem.AutoSeq1 (wpAny_loadPart')
open PySem.MeetsSeq PySem.MeetsSeq2 PySem.MeetsSeq3
end
section
variable {prog:Program}{w:World}{A:Around}{E:Value->Shared->Prop}{s:Shared}
theorem w9{t b:Addr}{vs ws:List Value}{Q:Value->Shared->Prop}(ht:IsTup s.heap t vs.toArray)(hb:IsTup s.heap b ws.toArray)(hv:vs≠[])
  (h1:ws=[]->Q (.ref t) s)(h2:ws≠[]->Q (.ref s.heap.objs.size) {s with heap:=s.heap.push {cls:=.type "tuple",data:=.seq (vs++ws).toArray}})
  (hsz:vs.length+ws.length<=sizeLine):wpAny (model prog w) A (binaryOp .Add (.ref t) (.ref b)) Q E s:=by
 obtain ⟨⟨cls,dd,data,sl⟩,ho,hc,n,hd⟩:=id ht
 obtain ⟨⟨cls2,dd2,data2,sl2⟩,ho2,hc2,n2,hd2⟩:=id hb
 simp only at hc hd hc2 hd2
 subst hc hd hc2 hd2
 have e:vs.toArray++ws.toArray=(vs++ws).toArray:=by simp
 by_cases hw:ws=[]
 ·exact concat_meets ⟨_,ho,rfl⟩ ⟨_,ho2,rfl⟩ noFill_tuple_add seq_tuple_add PySem.F.slot_tuple_add PySem.F.entry_tuple_add (PySem.F.args_tuple_add_2 _ _)
   (tuple_addW1 t b vs.toArray ws.toArray n n2 dd dd2 sl sl2 (by simpa using hv) (by simp [hw])) ⟨ho,ho2,h1 hw⟩
 ·refine concat_meets ⟨_,ho,rfl⟩ ⟨_,ho2,rfl⟩ noFill_tuple_add seq_tuple_add PySem.F.slot_tuple_add PySem.F.entry_tuple_add (PySem.F.args_tuple_add_2 _ _)
   (tuple_addW2 t b vs.toArray ws.toArray n n2 dd dd2 sl sl2 (by simpa using hv) (by simpa using hw) (by rw [List.size_toArray,List.size_toArray];exact hsz)) ⟨ho,ho2,?_⟩
  rw [e]
  exact h2 hw
def sIx(n d:Nat):Option Int->Nat
 | none=>d
 | some v=>if v<0 then (v+(n:Int)).toNat else min v.toNat n
theorem tq(n d:Nat):sIx n d none=d:=rfl
theorem vZ(n d k:Nat):sIx n d (some (k:Int))=min k n:=by
 show (if (k:Int)<0 then ((k:Int)+(n:Int)).toNat else min (k:Int).toNat n)=min k n
 rw [if_neg ω,Int.toNat_natCast]
end
end HT
namespace L2
open PySem PySem.Spec PyProof.Rows
abbrev TO:=St->Hp->(Option Int->Hp->Prop)->Prop
def PO(X:Cx)(e:Option Expr)(t:TO):Prop :=
 ∀(pins:List (Addr×Obj)) (s:Shared) (σ:St) (H:Hp) (Q:Option Int->Hp->Prop),Inv X pins σ H s->t σ H Q ->
  wpAny (model X.prog X.w) X.A (evalPart e X.env) (λu s'=>∃o H',Inv X pins σ H' s'/\IsPart u o/\Q o H') X.xe s
def vI:TO:=λ_ H Q=>Q none H
def zG(t:TE):TO:=fun σ H Q=>t σ H λx H1=>∃i,x=.int i/\Q (some i) H1
theorem pL{ns:List Int}:∀{us:List Value},Vals (ns.map V.int) us->IntsAre us ns:=by
 induction ns with
 | nil=>intro us r;rw [List.map_nil] at r;cases r;exact .nil
 | cons n ns ih =>
  intro us r
  rw [List.map_cons] at r
  cases r with
  | cons r1 r2 =>
   obtain ⟨t,e⟩:=r1
   subst e
   exact .cons n t (ih r2)
section
variable {X:Cx}{e:Expr}{te:TE}{lo hi:Option Expr}{tl th:TO}{pos p2:Pos}
theorem qk:PO X none vI:=by
 intro pins s σ H Q I h
 rw [evalPart_none]
 exact π ⟨none,H,I,.none,h⟩
theorem dU(h:PE X e te):PO X (some e) (zG te):=by
 intro pins s σ H Q I hw
 rw [evalPart_some]
 refine thn (h pins s σ H _ I hw) λu s1 ⟨x,H1,I1,r1,q1⟩=>?_
 obtain ⟨i,rfl,q⟩:=q1
 obtain ⟨t,rfl⟩:=r1
 exact ⟨some i,H1,I1,.int i t,q⟩
def SlR(X:Cx)(r:V->Option Int->Option Int->Hp->VK->Prop):Prop :=
 ∀(pins:List (Addr×Obj)) (s:Shared) (σ:St) (H:Hp) (x:V) (v vl vu:Value) (lo hi:Option Int) (sl:Addr) (Q:VK),Inv X pins σ H s->RelV x v->s.heap.IsSliceOf sl vl vu .none->IsPart vl lo->IsPart vu hi->r x lo hi H Q ->
  ∃T id,typeLookup (.type T) "__getitem__"=pure (some (.builtin id))/\s.TypeIs v T/\wpAny (model X.prog X.w) X.A (getItem v (.ref sl)) (EP X pins σ Q) X.xe s
def tSl(r:V->Option Int->Option Int->Hp->VK->Prop)(te:TE)(tl th:TO):TE:=fun σ H Q=>te σ H λx H1=>tl σ H1 λl H2=>th σ H2 λu H3=>r x l u H3 Q
theorem fM{r:V->Option Int->Option Int->Hp->VK->Prop}(hr:SlR X r)(he:PE X e te)(hl:PO X lo tl)(hu:PO X hi th):PE X (.Subscript e (.Slice lo hi none p2) pos) (tSl r te tl th):=by
 intro pins s σ H Q I h
 refine Subscript_ (thn (he pins s σ H _ I h) λv s1 ⟨x,H1,I1,r1,q1⟩=>?_)
 refine wpAny_Slice (thn (hl pins s1 σ H1 _ I1 q1) λvl s2 ⟨l,H2,I2,pl,q2⟩=>thn (hu pins s2 σ H2 _ I2 q2) λvu s3 ⟨u,H3,I3,pu,q3⟩=>?_)
 rw [evalPart_none]
 refine π ?_
 have I4:Inv X pins σ H3 {s3 with heap:=s3.heap.push {cls:=.type "slice",data:=.fields #[vl,vu,.none]}}:=I3.kept (t':=s3.toks) λb ob q=>ρ _ q
 obtain ⟨T,id,hT,ht,hg⟩:=hr pins {s3 with heap:=s3.heap.push {cls:=.type "slice",data:=.fields #[vl,vu,.none]}} σ H3 x v vl vu l u s3.heap.objs.size Q I4 r1 (Heap.IsSliceOf.new ..) pl pu q3
 show wpAny (model X.prog X.w) X.A (subscriptTail e (.Slice lo hi none p2) v (.ref s3.heap.objs.size)) (EP X pins σ Q) X.xe {s3 with heap:=s3.heap.push {cls:=.type "slice",data:=.fields #[vl,vu,.none]}}
 exact tail_any (ops:=[.ref s3.heap.objs.size,v]) ht hT hg (by with_unfolding_all rfl)
def g8(xs:List V)(lo hi:Option Int):List V:=(xs.drop (HT.sIx xs.length 0 lo)).take (HT.sIx xs.length xs.length hi-HT.sIx xs.length 0 lo)
theorem ou(xs:List V)(lo hi:Option Int):(g8 xs lo hi).length<=xs.length:=by
 unfold g8
 rw [List.length_take,List.length_drop]
 omega
def xt(K:Frag):R2:=λx y H Q=>∃a b xs ys,x=.ref a/\y=.ref b/\SqT K H a xs/\SqT K H b ys/\xs≠[]/\xs.length+ys.length<=sizeLine /\
 (ys=[]->Q (.ref a) H)/\(ys≠[]->∀p,H p=none->Q (.ref p) (upd H p (.tup (xs++ys))))
theorem Vals.nil_iff{xs:List V}{us:List Value}(r:Vals xs us):us=[]↔xs=[]:=by
 cases r with
 | nil=>simp
 | cons _ _=>simp
theorem wq:OpR X (binaryOp .Add) (xt X.K):=by
 intro pins s σ H x y v u Q I rx ry h
 obtain ⟨a,b,xs,ys,rfl,rfl,ha,hb,hx,hz,q1,q2⟩:=h
 cases rx
 cases ry
 obtain ⟨its,r1,p1,_⟩:=I.tuple ha
 obtain ⟨its2,r2,p2,_⟩:=I.tuple hb
 refine HT.w9 p1 p2 (λz=>hx (r1.nil_iff.mp z)) (λz=>⟨.ref a,H,I,rfl,q1 (r2.nil_iff.mp z)⟩) (λz=>?_) (by rw [← r1.length,← r2.length];exact hz)
 refine ⟨.ref s.heap.objs.size,_,I.laid (t':=s.toks) (o:=.tup (xs++ys)) (λb ob q=>ρ _ q) (ι _) ?_,rfl,q2 (λw=>z (r2.nil_iff.mpr w)) _ (I.hok.fresh (ι _))⟩
 exact ⟨by rw [List.length_append];exact hz,_,r1.append r2,IsTup.new _ _⟩
end
end L2
namespace L2
open PySem PySem.Spec PyProof.Rows
def ixN(n:Nat)(i:Int):Option Nat:=if 0<=i then (if i<n then some i.toNat else none) else if -(n:Int)<=i then some (i+n).toNat else none
def atI{α:Type}(xs:List α)(i:Int):Option α:=(ixN xs.length i).bind λj=>xs[j]?
theorem wV{n:Nat}{i:Int}{j:Nat}(h:ixN n i=some j):seqIndex? i n=some j/\j<n/\-(n:Int)<=i/\i<n:=by
 unfold ixN at h
 by_cases h0:0<=i
 ·rw [if_pos h0] at h
  by_cases h1:i<n
  ·rw [if_pos h1] at h
   have e:i.toNat=j:=Δ h
   exact ⟨by rw [seqIndex_of h0 h1,e],ω,ω,h1⟩
  ·rw [if_neg h1] at h;cases h
 ·rw [if_neg h0] at h
  by_cases h1:-(n:Int)<=i
  ·rw [if_pos h1] at h
   have e:(i+n).toNat=j:=Δ h
   exact ⟨by rw [seqIndex_neg ω h1,e],ω,h1,ω⟩
  ·rw [if_neg h1] at h;cases h
theorem mI{α:Type}{xs:List α}{i:Int}{v:α}(h:atI xs i=some v):∃j,seqIndex? i xs.length=some j/\xs[j]?=some v/\j<xs.length/\-(xs.length:Int)<=i/\i<xs.length:=by
 unfold atI at h
 cases e:ixN xs.length i with
 | none=>rw [e] at h;cases h
 | some j =>
  rw [e] at h
  obtain ⟨h1,h2,h3,h4⟩:=wV e
  exact ⟨j,h1,h,h2,h3,h4⟩
theorem aU{α:Type}{xs:List α}{j:Nat}{v:α}(h:xs[j]?=some v):atI xs (j:Int)=some v:=by
 have hj:j<xs.length:=(List.getElem?_eq_some_iff.mp h).1
 have e:ixN xs.length (j:Int)=some j:=by
  unfold ixN
  rw [if_pos ω,if_pos ω];simp
 unfold atI;rw [e];exact h
theorem iz{α:Type}(xs:List α)(v:α):atI (xs++[v]) (-1)=some v:=by
 have hl:(xs++[v]).length=xs.length+1:=by simp
 have e:ixN (xs++[v]).length (-1)=some xs.length:=by
  unfold ixN
  rw [hl,if_neg ζ,if_pos ω]
  congr 1
  omega
 unfold atI
 rw [e]
 show (xs++[v])[xs.length]?=some v
 simp
def qI(b:Expr):Prop:=∀o i,subscripted b false o i=operate [o,i] (getItem o i)
def IxR(X:Cx)(r:R2):Prop :=
 ∀(value slice:Expr) (pins:List (Addr×Obj)) (s:Shared) (σ:St) (H:Hp) (x y:V) (v u:Value) (Q:VK),Inv X pins σ H s->RelV x v->RelV y u->r x y H Q ->
  subscripted slice false v u=operate [v,u] (getItem v u)->wpAny (model X.prog X.w) X.A (subscriptTail value slice v u) (EP X pins σ Q) X.xe s
def MtR(X:Cx)(id:String)(r:V->List V->Hp->VK->Prop):Prop :=
 ∀(pins:List (Addr×Obj)) (s:Shared) (σ:St) (H:Hp) (x:V) (xs:List V) (v:Value) (us:List Value) (Q:VK),Inv X pins σ H s->RelV x v->Vals xs us->r x xs H Q ->
  wpAny (model X.prog X.w) X.A (call (.builtin id) (v::us)) (EP X pins σ Q) X.xe s
section
variable {X:Cx}{a b:Expr}{ta tb:TE}{pos:Pos}
theorem aG{r:R2}(hr:IxR X r)(ha:PE X a ta)(hb:PE X b tb)(hs:qI b):PE X (.Subscript a b pos) (tOp r ta tb):=by
 intro pins s σ H Q I h
 exact Subscript_ (zv ha hb I h λv u s2 x y H2 I2 rx ry q=>hr a b pins s2 σ H2 x y v u Q I2 rx ry q (hs _ _))
def ce(K:Frag):R2:=λx y H Q=>∃p xs i v,x=.ref p/\y=.int i/\SqL K H p xs/\atI xs i=some v/\Q v H
def cb(K:Frag):R2:=λx y H Q=>∃p xs i v,x=.ref p/\y=.int i/\SqT K H p xs/\atI xs i=some v/\Q v H
def z9:R2:=λx y H Q=>∃z i c,x=.str z/\y=.int i/\z.length<=sizeLine/\atI z.cps.toList i=some c/\Q (.str ⟨#[c]⟩) H
theorem aJ:IxR X (ce X.K):=by
 intro value slice pins s σ H x y v u Q I rx ry h hs
 obtain ⟨p,xs,i,z,rfl,rfl,hq,he,q⟩:=h
 cases rx
 obtain ⟨t,rfl⟩:=ry
 obtain ⟨its,r,pl,hz⟩:=I.list hq
 obtain ⟨j,h1,h2,h3,h4,h5⟩:=mI he
 obtain ⟨w,ew,rw'⟩:=r.get h2
 have hl:=r.length
 have hn:=iR
 have fin:EP X pins σ Q w s:=⟨z,H,I,rw',q⟩
 by_cases h0:0<=i
 ·have hj:i.toNat=j:=by
   rw [seqIndex_of h0 h5] at h1
   exact Δ h1
  exact item_listR pl.isList h0 ω (by rw [hj];simpa using ew) fin hs
 ·have hj:(i+(its.toArray.size:Int)).toNat=j:=by
   rw [seqIndex_neg ω h4] at h1
   rw [List.size_toArray,← hl]
   exact Δ h1
  exact subscriptTail_builtinR (x:=w) pl.isList.typeIs slot_list_getitem.lookup
   (wpAny_getItem_list_neg (Q:=λr s'=>r=w/\EP X pins σ Q r s') pl.isList ω (by rw [List.size_toArray]<;>omega) ω (by rw [hj];simpa using ew) ⟨rfl,fin⟩) hs
theorem aN:IxR X (cb X.K):=by
 intro value slice pins s σ H x y v u Q I rx ry h hs
 obtain ⟨p,xs,i,z,rfl,rfl,hq,he,q⟩:=h
 cases rx
 obtain ⟨t,rfl⟩:=ry
 obtain ⟨its,r,pl,hz⟩:=I.tuple hq
 obtain ⟨j,h1,h2,h3,h4,h5⟩:=mI he
 obtain ⟨w,ew,rw'⟩:=r.get h2
 have hl:=r.length
 have hn:=iR
 have fin:EP X pins σ Q w s:=⟨z,H,I,rw',q⟩
 exact subscriptTail_builtinR (x:=w) pl.typeIs slot_tuple_getitem.lookup
  (getItem_tuple (j:=j) (Q:=λr s'=>r=w/\EP X pins σ Q r s') pl ω ω (by rw [List.size_toArray,← hl];exact h1) (by simpa using ew) ⟨rfl,fin⟩) hs
theorem uT:IxR X z9:=by
 intro value slice pins s σ H x y v u Q I rx ry h hs
 obtain ⟨z,i,c,rfl,rfl,hz,he,q⟩:=h
 obtain ⟨t,rfl⟩:=rx
 obtain ⟨t',rfl⟩:=ry
 obtain ⟨j,h1,h2,h3,h4,h5⟩:=mI he
 have hl:z.cps.toList.length=z.length:=by simp [Str.length]
 rw [hl] at h1 h4 h5
 have hn:=iR
 exact tail_any (typeIs_str s z t) slot_str_getitem.lookup (getItem_str (c:=c) (by
  have e1:decide (i < -(2 ^ 63:Int))=false:=Γ ω
  have e2:decide (i≥2 ^ 63)=false:=Γ ω
  rw [e1,e2,Bool.or_false]) (by rw [h1];simpa using h2) ⟨.str ⟨#[c]⟩,H,I.tok _,⟨_,rfl⟩,q⟩) hs
theorem lV(lo hi:Option Int)(n:Nat):(sliceBounds lo hi none n).1=((HT.sIx n 0 lo:Nat):Int)/\(sliceBounds lo hi none n).2.1=((HT.sIx n n hi:Nat):Int)/\(sliceBounds lo hi none n).2.2=1:=by
 refine ⟨?_,?_,rfl⟩
 ·cases lo with
  | none=>simp [sliceBounds,HT.sIx]
  | some i =>
   simp only [sliceBounds,HT.sIx,Option.getD_none,show (1:Int)>0 by decide,if_true]
   by_cases h:i<0
   ·simp only [h,if_true]<;>omega
   ·simp only [h,if_false]<;>omega
 ·cases hi with
  | none=>simp [sliceBounds,HT.sIx]
  | some i =>
   simp only [sliceBounds,HT.sIx,Option.getD_none,show (1:Int)>0 by decide,if_true]
   by_cases h:i<0
   ·simp only [h,if_true]<;>omega
   ·simp only [h,if_false]<;>omega
theorem kn(its:List Value)(lo hi:Option Int):slicePick its.toArray lo hi none=((its.drop (HT.sIx its.length 0 lo)).take (HT.sIx its.length its.length hi-HT.sIx its.length 0 lo)).toArray:=by
 obtain ⟨h1,h2,h3⟩:=lV lo hi its.toArray.size
 unfold slicePick
 rw [h1,h2,h3]
 simp only [sliceRange_one,pick_run,List.size_toArray]<;>rfl
def AR(K:Frag):V->Option Int->Option Int->Hp->VK->Prop:=λx lo hi H Q=>∃a xs,x=.ref a/\SqL K H a xs/\∀p,H p=none->Q (.ref p) (upd H p (.lst (g8 xs lo hi)))
theorem lW:SlR X (AR X.K):=by
 intro pins s σ H x v vl vu lo hi sl Q I rx hs pl pu h
 obtain ⟨a,xs,rfl,hx,q⟩:=h
 cases rx
 obtain ⟨its,r,ht,hz⟩:=I.list hx
 have hlen:=r.length
 refine ⟨"list",_,slot_list_getitem.lookup,ht.isList.typeIs,?_⟩
 refine wpAny_getItem_list_slice ht.isList hs pl pu .none (by simp) ?_ (by rw [List.size_toArray]<;>omega)
 rw [kn,← hlen]
 refine ⟨.ref s.heap.objs.size,_,I.laid (t':=s.toks) (o:=.lst (g8 xs lo hi)) (λb ob q=>ρ _ q) (ι _) ?_,rfl,q _ (I.hok.fresh (ι _))⟩
 exact ⟨Λ (ou xs lo hi) hz,_,0,(r.drop (HT.sIx xs.length 0 lo)).take (HT.sIx xs.length xs.length hi-HT.sIx xs.length 0 lo),ψ _ rfl⟩
theorem aA:dY X (.builtin "len") (λxs H Q=>∃p ys,xs=[.ref p]/\(SqL X.K H p ys\/SqT X.K H p ys)/\Q (.int ys.length) H):=by
 intro pins s σ H xs us Q I r h
 obtain ⟨p,ys,rfl,hq,q⟩:=h
 obtain ⟨u,rfl,rx⟩:=cR r
 cases rx
 have hn:=iR
 rcases hq with hq | hq
 ·obtain ⟨its,r',pl,hz⟩:=I.list hq
  have hlen:=r'.length
  exact Calls.call_len_list pl.isList (by simp only [List.size_toArray]<;>omega) ⟨.int ys.length,H,I.tok _,⟨s.toks+1,by rw [List.size_toArray,hlen]⟩,q⟩
 ·obtain ⟨its,r',pl,hz⟩:=I.tuple hq
  have hlen:=r'.length
  exact len_tuple pl (by simp only [List.size_toArray]<;>omega) ⟨.int ys.length,H,I.tok _,⟨s.toks+1,by rw [List.size_toArray,hlen]⟩,q⟩
theorem bo:dY X (.builtin "len") (λxs H Q=>∃z,xs=[.str z]/\z.length<=sizeLine/\Q (.int z.length) H):=by
 intro pins s σ H xs us Q I r h
 obtain ⟨z,rfl,hz,q⟩:=h
 obtain ⟨u,rfl,t,rfl⟩:=cR r
 have hn:=iR
 exact len_str ω ⟨.int z.length,H,I.tok _,⟨_,rfl⟩,q⟩
theorem fi:dY X (.type "list") (λxs H Q=>∃p ys,xs=[.ref p]/\(SqL X.K H p ys\/SqT X.K H p ys)/\∀l,H l=none->Q (.ref l) (upd H l (.lst ys))):=by
 intro pins s σ H xs us Q I r h
 obtain ⟨p,ys,rfl,hq,q⟩:=h
 obtain ⟨u,rfl,rx⟩:=cR r
 cases rx
 have fin:∀(its:List Value),Vals ys its->ys.length<=sizeLine->∀(h':Heap) (c':Nat),(∀b o',s.heap.get? b=some o'->h'.get? b=some o') ->
   h'.get? s.heap.objs.size=some {cls:=.type "list",dict:=none,data:=.seq its.toArray c',slots:=#[]}->EP X pins σ Q (.ref s.heap.objs.size) {s with heap:=h'}:=λits r' hz h' c' kp e =>
  ⟨.ref s.heap.objs.size,_,I.laid (t':=s.toks) kp (ι _) (show ObjOk X.prog X.w _ h' _ (.lst ys) from ⟨hz,its,c',r',e⟩),rfl,q _ (I.hok.fresh (ι _))⟩
 rcases hq with hq | hq
 ·obtain ⟨its,r',pl,hz⟩:=I.list hq
  have hlen:=r'.length
  obtain ⟨o,ho,hc,n,hd⟩:=pl.isList
  exact call_list_seq p (.inl rfl) ho hc hd (λh' c' kp e=>fin its r' hz h' c' kp e) (by simp only [List.size_toArray]<;>omega)
 ·obtain ⟨its,r',pl,hz⟩:=I.tuple hq
  have hlen:=r'.length
  obtain ⟨o,ho,hc,n,hd⟩:=pl
  exact call_list_seq p (.inr rfl) ho hc hd (λh' c' kp e=>fin its r' hz h' c' kp e) (by simp only [List.size_toArray]<;>omega)
theorem eE:dY X (.type "tuple") (λxs H Q=>∃p ys,xs=[.ref p]/\((SqL X.K H p ys/\∀l,H l=none->Q (.ref l) (upd H l (.tup ys)))\/(SqT X.K H p ys/\Q (.ref p) H))):=by
 intro pins s σ H xs us Q I r h
 obtain ⟨p,ys,rfl,h⟩:=h
 obtain ⟨u,rfl,rx⟩:=cR r
 cases rx
 rcases h with ⟨hq,q⟩ | ⟨hq,q⟩
 ·obtain ⟨its,r',pl,hz⟩:=I.list hq
  have hlen:=r'.length
  refine call_tuple_list pl.isList (λh' kp=>?_) (by simp only [List.size_toArray]<;>omega)
  have I1:Inv X pins σ H {s with heap:=h'}:=I.kept (t':=s.toks) kp
  have I2:Inv X pins σ (upd H h'.objs.size (.tup ys)) {s with heap:=h'.push {cls:=.type "tuple",data:=.seq its.toArray}} :=
   I1.laid (t':=s.toks) (λb o e=>ρ _ e) (ι _) (show ObjOk X.prog X.w _ _ _ (.tup ys) from ⟨hz,its,r',IsTup.new _ _⟩)
  exact ⟨.ref h'.objs.size,_,I2,rfl,q _ (I1.hok.fresh (ι _))⟩
 ·obtain ⟨its,r',pl,hz⟩:=I.tuple hq
  exact call_tuple_same pl ⟨.ref p,H,I,rfl,q⟩
def tyV(K:Frag)(T:String)(x:V)(H:Hp):Prop:=match x with
 | .str _=>T="str"
 | .int _=>T="int"
 | .ref p=>(T="list"/\∃xs,SqL K H p xs)\/(T="tuple"/\∃o,K.lookup p=some o/\o.cls=.type "tuple"/\o.dict=none) \/
   (T="dict"/\((∃kvs,H p=some (.dK kvs))\/∃kvs,H p=some (.dT kvs)))\/(T="set"/\∃S n,H p=some (.set S n))
 | _=>False
theorem oF{pins:List (Addr×Obj)}{σ:St}{H:Hp}{s:Shared}{T:String}{x:V}{v:Value}(I:Inv X pins σ H s)(r:RelV x v)(ty:tyV X.K T x H) :
  s.TypeIs v T/\∀a,v=.ref a->∃ob,s.heap.get? a=some ob/\ob.dict=none:=by
 cases x with
 | str z =>
  obtain ⟨t,rfl⟩:=r
  cases (show T="str" from ty)
  exact ⟨typeIs_str s z t,λ_ e=>nomatch e⟩
 | int i =>
  obtain ⟨t,rfl⟩:=r
  cases (show T="int" from ty)
  exact ⟨typeIs_int s i t,λ_ e=>nomatch e⟩
 | ref p =>
  cases r
  rcases ty with ⟨rfl,xs,hq⟩ | ⟨rfl,o,hk,hc,hd⟩ | ⟨rfl,hk⟩ | ⟨rfl,S,n,hk⟩
  ·obtain ⟨its,_,pl,_⟩:=I.list hq
   refine ⟨pl.isList.typeIs,λa e=>?_⟩
   cases e
   obtain ⟨o,n,e,c,hd,_⟩:=pl
   exact ⟨o,e,hd⟩
  ·refine ⟨⟨o,I.kIn p o hk,hc⟩,λa e=>?_⟩
   cases e
   exact ⟨o,I.kIn _ o hk,hd⟩
  ·have z:∃o,s.heap.get? p=some o/\o.ExactDict:=by
    rcases hk with ⟨kvs,hk⟩ | ⟨kvs,hk⟩
    ·obtain ⟨_,_,_,_,o,_,_,e,ex,_⟩:=I.hok p _ hk
     exact ⟨o,e,ex⟩
    ·obtain ⟨_,_,_,_,o,_,_,e,ex,_⟩:=I.hok p _ hk
     exact ⟨o,e,ex⟩
   obtain ⟨o,e,ex⟩:=z
   refine ⟨⟨o,e,ex.1⟩,λa e2=>?_⟩
   cases e2
   exact ⟨o,e,ex.2.1⟩
  ·obtain ⟨o,_,_,_,e,ex,_⟩:=I.hok p _ hk
   refine ⟨⟨o,e,ex.1⟩,λa e2=>?_⟩
   cases e2
   exact ⟨o,e,ex.2.1⟩
 | _=>exact False.elim ty
def zM(K:Frag)(T:String)(r:V->List V->Hp->VK->Prop)(to:TE):TE:=fun σ H Q=>to σ H λx H1=>tyV K T x H1/\r x [] H1 Q
def tBM(K:Frag)(T:String)(r:V->List V->Hp->VK->Prop)(to:TE)(t:TA):TE:=fun σ H Q=>to σ H λx H1=>tyV K T x H1/\t σ H1 λxs H2=>r x xs H2 Q
variable {o e:Expr}{es:List Expr}{to:TE}{t:TA}{name:Str}{apos cpos:Pos}{T id:String}{r:V->List V->Hp->VK->Prop}
theorem t6(pa:PlainAttrs T)(slot:Slot T name id)(hty:typeOf (.builtin id)=pure (.type "method_descriptor"))(hm:MtR X id r)(ho:PE X o to)
  (hbase:attributeBase o name X.env (eval o X.env)=eval o X.env:=by rfl)(hline:(apos.endLine==cpos.line)=true:=by rfl):PE X (.Call (.Attribute o name apos) [] [] cpos) (zM X.K T r to):=by
 intro pins s σ H Q I h
 refine wpAny_Call_method0_late hbase hline (thn (ho pins s σ H _ I h) λv s1 ⟨x,H1,I1,r1,ty,q1⟩=>?_)
 obtain ⟨h1,h2⟩:=oF I1 r1 ty
 exact ⟨T,id,pa,slot,hty,h1,h2,Calls.callWith_builtin rfl (PySem.evalArgs_none (hm pins s1 σ H1 x [] v [] Q I1 r1 .nil q1))⟩
theorem dj(pa:PlainAttrs T)(slot:Slot T name id)(hty:typeOf (.builtin id)=pure (.type "method_descriptor"))(hm:MtR X id r)(ho:PE X o to)(ha:PA X (e::es) t)
  (hbase:attributeBase o name X.env (eval o X.env)=eval o X.env:=by rfl)
  (hfew:((backTo cpos (starEach (e::es) X.env)).all (λx=>!x.1)&&(backToKw cpos (keywordEach [] X.env)).all (λx=>x.1.isSome)
   && decide ((e::es).length+([]:List Keyword).length+(if ([]:List Keyword).isEmpty then 0 else 1)<30))=true:=by rfl)
  (hline:(apos.endLine==cpos.line)=true:=by rfl) (hs:starEach (e::es) X.env=(false,eval e X.env)::starEach es X.env:=by rfl) (hplain:(backTo cpos (starEach es X.env)).any (·.1)=false:=by rfl) :
  PE X (.Call (.Attribute o name apos) (e::es) [] cpos) (tBM X.K T r to t):=by
 intro pins s σ H Q I h
 refine wpAny_Call_method_late hbase hfew hline rfl (thn (ho pins s σ H _ I h) λv s1 ⟨x,H1,I1,r1,ty,q1⟩=>?_)
 obtain ⟨h1,h2⟩:=oF I1 r1 ty
 refine ⟨T,id,pa,slot,hty,h1,h2,?_⟩
 have hA:=ha cpos pins s1 σ H1 _ I1 q1
 rw [hs] at hA ⊢
 refine Calls.callWith_builtin (by show (false||(backTo cpos (starEach es X.env)).any (·.1))=false;rw [hplain]<;>rfl) (Calls.evalArgs_plain ?_)
 exact thn hA λus s2 ⟨vs,H2,I2,r2,q2⟩=>hm pins s2 σ H2 x vs v us Q I2 r1 r2 q2
end
end L2
namespace L2
open PySem PySem.Spec PyProof.Rows
def MtM(X:Cx)(id:String)(r:V->List V->Hp->VK->Prop):Prop :=
 ∀(pins:List (Addr×Obj)) (s:Shared) (σ:St) (H:Hp) (x:V) (xs:List V) (v:Value) (us:List Value) (Q:VK),Inv X pins σ H s->RelV x v->Vals xs us->r x xs H Q ->
  wpAny (model X.prog X.w) X.A (call (.builtin id) (v::us)) (EP X pins σ Q) X.xe s
theorem Vals.one:∀{x:V} {us:List Value},Vals [x] us->∃u,us=[u]/\RelV x u
 | _,_,.cons r .nil=>⟨_,rfl,r⟩
theorem Vals.zero:∀{us:List Value},Vals [] us->us=[]
 | _,.nil=>rfl
theorem Vals.dropLast{xs:List V}{us:List Value}(h:Vals xs us):Vals xs.dropLast us.dropLast:=by
 induction h with
 | nil=>exact .nil
 | cons r t ih =>
  cases t with
  | nil=>exact .nil
  | cons q t'=>exact .cons r ih
theorem pO{α:Type}(l:List α):l.eraseIdx (l.length-1)=l.dropLast:=by
 induction l with
 | nil=>rfl
 | cons a r ih =>
  cases r with
  | nil=>rfl
  | cons b r =>
   have e:(a::b::r).length-1=((b::r).length-1)+1:=by
    have h1:(a::b::r).length=r.length+2:=rfl
    have h2:(b::r).length=r.length+1:=rfl
    omega
   rw [e,List.eraseIdx_cons_succ,ih]
   all_goals rfl
section
variable {X:Cx}{pins:List (Addr×Obj)}{σ:St}{H:Hp}{s:Shared}{l b:Addr}{xs ys zs:List V}
theorem Inv.lset{its its':List Value}{n:Nat}{f:Array Value->Array Value}{t':Nat}(I:Inv X pins σ H s)(hH:H l=some (.lst xs))
  (e:s.heap.get? l=some {cls:=.type "list",data:=.seq its.toArray n})(hf:f its.toArray=its'.toArray)(hv:Vals ys its')(hz:ys.length<=sizeLine) :
  Inv X pins σ (upd H l (.lst ys)) {s with heap:=s.heap.update l (Obj.mapSeq f),toks:=t'}:=by
 have q:=PySem.IsL.update e f
 rw [hf] at q
 refine I.write (x:=l) (e:=l) (by rw [hH];exact trivial) (.inl rfl) (λb' u hb hu=>(Heap.get?_update_other s.heap (Obj.mapSeq f) (Ne.symm hb)).trans hu) ⟨_,q⟩ ?_
 exact ⟨hz,its',_,hv,q⟩
theorem Inv.lnew{its:List Value}{t':Nat}(I:Inv X pins σ H s)(hv:Vals ys its)(hz:ys.length<=sizeLine) :
  Inv X pins σ (upd H s.heap.objs.size (.lst ys)) {s with heap:=s.heap.push {cls:=.type "list",data:=.seq its.toArray},toks:=t'} :=
 I.laid (λ_ _ q=>ρ _ q) (ι _) ⟨hz,its,0,hv,ψ _ rfl⟩
theorem Inv.fresh(I:Inv X pins σ H s):H s.heap.objs.size=none:=I.hok.fresh (ι _)
theorem Inv.lstM(I:Inv X pins σ H s)(hH:H l=some (.lst xs)):xs.length<=sizeLine/\∃(its:List Value) (n:Nat),Vals xs its/\xs.length=its.length/\s.heap.get? l=some {cls:=.type "list",data:=.seq its.toArray n}:=by
 obtain ⟨z,its,n,r,e⟩:=I.hok l _ hH
 exact ⟨z,its,n,r,r.length,e⟩
end
section
variable {X:Cx}
def wc:V->List V->Hp->VK->Prop:=λx vs H Q=>∃l xs y,x=.ref l/\vs=[y]/\H l=some (.lst xs)/\xs.length<sizeLine/\Q .non (upd H l (.lst (xs++[y])))
theorem cp:MtM X "list.append" wc:=by
 intro pins s σ H x vs v us Q I rx rv h
 obtain ⟨l,xs,y,rfl,rfl,hH,hz,q⟩:=h
 cases rx
 obtain ⟨u,rfl,ru⟩:=rv.one
 obtain ⟨z,its,n,r,hl,e⟩:=I.lstM hH
 refine call_meets F.slot_list_append ⟨_,e,rfl⟩ F.entry_list_append (F.args_list_append_2 _ _) (PySem.list_append l its.toArray n u (by rw [List.size_toArray];omega)) ⟨e,?_⟩
 refine ⟨.non,_,I.lset (its':=its++[u]) hH e (by simp) (r.append (.cons ru .nil)) ?_,rfl,q⟩
 rw [List.length_append,List.length_singleton]
 omega
def AS:V->List V->Hp->VK->Prop:=λx vs H Q=>∃l xs y,x=.ref l/\vs=[]/\H l=some (.lst xs)/\xs[xs.length-1]?=some y/\Q y (upd H l (.lst xs.dropLast))
theorem yR:MtM X "list.pop" AS:=by
 intro pins s σ H x vs v us Q I rx rv h
 obtain ⟨l,xs,y,rfl,rfl,hH,hy,q⟩:=h
 cases rx
 have hus:=rv.zero
 subst hus
 obtain ⟨z,its,n,r,hl,e⟩:=I.lstM hH
 obtain ⟨u,hu,ru⟩:=r.get hy
 have hy':its.toArray[its.toArray.size-1]?=some u:=by
  show its.toArray[its.length-1]?=some u
  rw [← Array.getElem?_toList,← hl]
  exact hu
 refine call_meets F.slot_list_pop ⟨_,e,rfl⟩ F.entry_list_pop (F.args_list_pop_1 _) (MeetsSeq.list_pop_last l its.toArray n u hy' (by rw [List.size_toArray];omega)) ⟨e,?_⟩
 refine ⟨y,_,I.lset (its':=its.dropLast) hH e ?_ r.dropLast ?_,ru,q⟩
 ·show its.toArray.eraseIdxIfInBounds (its.toArray.size-1)=its.dropLast.toArray
  rw [List.size_toArray,List.eraseIdxIfInBounds_toArray,pO]
 ·rw [List.length_dropLast]
  omega
def AT:R2:=λx y H Q=>∃l b xs zs,x=.ref l/\y=.ref b/\H l=some (.lst xs)/\H b=some (.lst zs)/\xs.length+zs.length<=sizeLine/\∀p,H p=none->Q (.ref p) (upd H p (.lst (xs++zs)))
theorem t9:OpR X (binaryOp .Add) AT:=by
 intro pins s σ H x y v u Q I rx ry h
 obtain ⟨l,b,xs,zs,rfl,rfl,hH,hB,hz,q⟩:=h
 cases rx
 cases ry
 obtain ⟨z,its,n,r,hl,e⟩:=I.lstM hH
 obtain ⟨z2,its2,n2,r2,hl2,e2⟩:=I.lstM hB
 refine PySem.P.add_list e e2 ?_ (by rw [List.size_toArray,List.size_toArray];omega)
 have ea:its.toArray++its2.toArray=(its++its2).toArray:=by simp
 rw [ea]
 exact ⟨.ref _,_,I.lnew (t':=s.toks) (r.append r2) (by rw [List.length_append];omega),rfl,q _ I.fresh⟩
end
end L2
namespace Att
open PySem PySem.W PySem.Calls PyProof.Rows
theorem jh{P:Params}{h:Heap}:∀(ns:List Int) (vs:List Value),WellAll P h vs (ns.map WData.int)->IntsAre vs ns:=by
 intro ns
 induction ns with
 | nil =>
  intro vs w
  rw [List.map_nil] at w
  cases w
  exact .nil
 | cons n ns ih =>
  intro vs w
  rw [List.map_cons] at w
  cases w with
  | cons a b =>
   cases a
   exact .cons _ _ (ih _ b)
theorem qY{l:OpenLaw}{n:Nat}(hn:l.most=some n){P:Params}{h:Heap}{args:List WData}{vals:List Value}
  (hpre:l.row.toRowW.claim.pre args=true)(hwl:WellAll P h vals args) :
  ∃a vs ns,vals=[Value.ref a]/\args=[WData.list (ns.map WData.int)]/\h.get? a=some {cls:=.type "list",data:=.seq vs.toArray}/\IntsAre vs ns/\ns.length<=n:=by
 have hsh:WShape.hasAll [] args [.list .int]=true:=(pre_splitW hpre).1
 have hc:l.pre.holds [] {args:=args}=true:=(pre_splitW hpre).2
 obtain ⟨d,r,rfl,h1,h2⟩:=hasAllW_cons hsh
 obtain rfl:=hasAllW_nil h2
 obtain ⟨xs,rfl,h3⟩:=hasW_list h1
 obtain ⟨ns,rfl⟩:=items_int h3
 have hlen:ns.length<=n:=by
  unfold OpenLaw.pre at hc
  have h4:(WTm.not (.lt (.lit (.int (n:Int))) (.len (.arg 0)))).holds [] {args:=[.list (ns.map .int)]}=true:=by
   have h4:=(holds_andW hc).1
   rw [hn] at h4
   exact h4
  have h5:=condW_of h4 (w_not (w_lt w_lit (w_len_list (w_arg rfl))))
  rw [List.length_map] at h5
  refine Nat.le_of_not_lt λq=>?_
  have q':(n:Int)<((ns.length:Nat):Int):=by omega
  first
   | (rw [τ q'] at h5;exact absurd h5 ζ)
   | (simp at h5;omega)
 cases hwl with
 | cons w1 w2 =>
  cases w2
  cases w1 with
  | list ho hall=>exact ⟨_,_,ns,rfl,rfl,ho,jh ns _ hall,hlen⟩
theorem rg(l:OpenLaw)(args:List WData):l.row.toRowW.claim.post args (.bool true) args=true :=
 postW_of (r:=l.row.toRowW) (X:=(true==true))
  (show WShape.has [] (.bool true) .bool=true by first | rfl | decide | simp [WShape.has,WShape.arms,WShape.armsAll])
  (show (WTm.eq .res (.lit (.bool true))).value [] {args:=args,res:=some (.bool true),after:=args}=some (.bool (true==true)) from w_eq_bool (w_res rfl) w_lit) rfl
theorem oy{l:OpenLaw}{n:Nat}{q:Program}{loose:List Str}{XP:(Str->Option Value)->Heap->Prop}{YP:World->Heap->Prop}{d:DefRec}
  (hn:l.most=some n)(hdf:d.params.defaults=[])
  (call:∀(w:World) (s₀ s₁:Shared) (mg mb:Str->Option Value) (fa:Addr) (o:Obj) (pm cd doc:Value) (a:Addr) (vs:List Value) (ns:List Int),
   Ground q loose [] XP w s₀ mg mb s₁.heap->YP w s₁.heap ->
   s₁.heap.get? fa=some o->o.data=.func (docDef d.name d.params d.body d.scope pm cd doc)->s₁.heap.CodeRec cd d.name->mg d.name=some (.ref fa) ->
   s₁.heap.get? a=some {cls:=.type "list",data:=.seq vs.toArray}->IntsAre vs ns->ns.length<=n->s₁.gens=#[] ->
   codeAny (model l.prog w) callerA (.call (.ref fa) ⟨[.ref a],[]⟩) (λr s'=>r=.ok (.ret (.bool true))/\OldK s₁.heap s'.heap/\s'.os=s₁.os/\AllBare s'.gens) s₁) :
  WalkO q loose XP YP l.row.toRowW d [] (λf vs=>PySem.call f vs):=by
 intro w s₀ s₁ mg mb G Y fa o pm cd doc dV kV ho hd hcd hD hmg hg args vals as hpre hlay hrd hwl hlo
 obtain rfl:dV=.none:=Dflts.none hD hdf
 obtain rfl:kV=.none:=Dflts.noKw hD
 obtain ⟨a,vs,ns,rfl,rfl,hobj,hints,hlen⟩:=qY hn hpre hwl
 refine enter_call (codeAny_mono (call w s₀ s₁ mg mb fa o pm cd doc a vs ns G Y ho (fd_plain hd) hcd hmg hobj hints hlen hg) λr s' hq=>?_)
 obtain ⟨rfl,h2,h3,h4⟩:=hq
 exact ⟨.inl ⟨.bool true,.bool true,[],rfl,λ_=>rfl,.bool true,rg l _,λ_=>⟨List.Pairwise.nil,λ_ hm=>(nomatch hm)⟩⟩,h2,h3,h4⟩
section
variable {prog:Program}{w:World}{A:Around}{E:Value->Shared->Prop}{s:Shared}{K:Frag}
end
end Att
namespace L2
open PySem PySem.Spec PyProof.Rows
theorem gk:∀{vs:List Value} {ns:List Int},IntsAre vs ns->Vals (ns.map V.int) vs
 | _,_,.nil=>.nil
 | _,_,.cons n t h=>.cons ⟨t,rfl⟩ (gk h)
def zw(H:Hp):Prop:=∀b,H b=none\/∃o xs,H b=some (.frz o (.lst xs))
theorem uR{P:Program}{w:World}{K:Frag}{mg mb:Str->Option Value}{CX:CXT}{k:Nat}{fa a:Addr}{fd:FuncData}{x:Str}{sp:Sp}{s₁:Shared}{vs:List Value}{ns:List Int}
  (KX:K.In s₁.heap)(hns:s₁.heap.Ns mainGlobals mg)(hb:s₁.heap.Ns builtinsNs mb)(hbb:∀x:Str,x≠"__name__"->mb x=bootBuiltins x)(hlim:s₁.heap.NoLimit)(hg:s₁.gens=#[])
  (ha:s₁.heap.get? a=some {cls:=.type "list",data:=.seq vs.toArray})(hi:IntsAre vs ns)(hl:ns.length<=sizeLine)(hr:Room k callerA)
  (F:∀base:Heap,K.In base->base.Ns mainGlobals mg->FnOk P w K mg base CX k fa fd [x] sp)(hbind:∀(s:Shared) (u:Value),BindsTo s fd ⟨[u],[]⟩ [(x,u)])
  (hsp:∀H:Hp,zw H->SqL K H a (ns.map V.int)->sp [.ref a] H (λv _=>v=.bl true) λ_ _ _=>False)
  (hCX:∀H e s',CX [] H s₁ (λ_ _ _=>False) e s'->False) :
  codeAny (model P w) callerA (.call (.ref fa) ⟨[.ref a],[]⟩) (λr s'=>r=.ok (.ret (.bool true))/\OldK s₁.heap s'.heap/\s'.os=s₁.os/\AllBare s'.gens) s₁:=by
 have rv:=gk hi
 have lenV:=hi.length
 have core:∀H:Hp,zw H->SqL K H a (ns.map V.int)->HOk P w H s₁.heap->(∀b,H b≠none->b=a)->(H a≠none->K.lookup a=none) ->
   codeAny (model P w) callerA (.call (.ref fa) ⟨[.ref a],[]⟩) (λr s'=>r=.ok (.ret (.bool true))/\OldK s₁.heap s'.heap/\s'.os=s₁.os/\AllBare s'.gens) s₁:=by
  intro H hO hS hok hA hK
  have base_of:∀{b:Addr} {o:Obj},s₁.heap.get? b=some o->H b=none->(mw s₁.heap H).get? b=some o:=λe n=>uV e n
  have noA:∀{b:Addr} {o:Obj} {es:Array DictEntry} {ep:Nat},s₁.heap.get? b=some o->o.data=.dict es ep->H b=none:=λ{b o es ep} e d=>by
   cases q:H b with
   | none=>rfl
   | some u =>
    have e':b=a:=hA b (by rw [q];simp)
    subst e'
    rw [ha] at e;cases e
    have d':Data.seq vs.toArray _=Data.dict es ep:=d
    cases d'
  have nsK:∀{b:Addr} {m:Str->Option Value},s₁.heap.Ns b m->(mw s₁.heap H).Ns b m:=λ{b m} ⟨o,es,ep,e,d,r⟩=>⟨o,es,ep,base_of e (noA e d),d,r⟩
  have hKb:K.In (mw s₁.heap H):=λb o e=>base_of (KX b o e) (by
   cases q:H b with
   | none=>rfl
   | some u =>
    have e':b=a:=hA b (by rw [q];simp)
    subst e'
    rw [hK (by rw [q];simp)] at e;cases e)
  have hM:Mod K mg (mw s₁.heap H):=⟨hKb,nsK hns,⟨mb,nsK hb,hbb⟩,let ⟨mc,h1,h2⟩:=hlim;⟨mc,nsK h1,h2⟩⟩
  have e0:Env0 P w K mg (mw s₁.heap H) callerA [] s₁ H:=⟨rfl,hM,λb o e=>wM e,Nat.le_of_eq (rN _ _),trivial,λb hb=>absurd (show b∈([]:List Addr) from hb) (by simp),hok,.of_eq hg⟩
  refine codeAny_mono ((F _ hKb (nsK hns)).run callerA [] s₁ H ⟨[.ref a],[]⟩ [.ref a] [.ref a] _ _ hr e0 (hbind s₁ (.ref a)) (.cons rfl .nil) (hsp H hO hS)) λr s' h=>?_
  cases r with
  | error e=>exact (hCX H e s' h).elim
  | ok fl =>
   cases fl with
   | next=>exact False.elim h
   | brk=>exact False.elim h
   | cont=>exact False.elim h
   | ret u =>
    obtain ⟨v,H',os,bare,un,hok',r',q⟩:=h
    have q':v=.bl true:=q
    subst q'
    obtain rfl:u=Value.bool true:=r'
    refine ⟨rfl,OldK.of_keep λb o e=>?_,os,bare⟩
    cases q:H b with
    | none=>exact un.keep b o e q (by intro z;exact absurd (show b∈([]:List Addr) from z) (by simp)) (by simp)
    | some u =>
     rcases hO b with z | ⟨ob,xs,z⟩
     ·rw [q] at z;cases z
     ·have z2:=un.frzs b ob _ z
      obtain ⟨e1,_⟩:=hok b _ z
      obtain ⟨e2,_⟩:=hok' b _ z2
      rw [e] at e1;cases e1
      exact e2
 cases hk:K.lookup a with
 | some o =>
  have e:=KX a o hk
  rw [ha] at e
  cases e
  refine core (λ_=>none) (λ_=>.inl rfl) (.inr ⟨_,vs.toArray,_,hk,rfl,rfl,rfl,by rw [List.size_toArray,lenV];exact hl,by simpa using rv⟩) (λb u z=>by have z':(none:Option HO)=some u:=z;cases z') (λb z=>absurd rfl z) λz=>absurd rfl z
 | none =>
  refine core (λb=>if b=a then some (.frz {cls:=.type "list",data:=.seq vs.toArray} (.lst (ns.map V.int))) else none) (λb=>?_) (.inl (.inr ⟨{cls:=.type "list",data:=.seq vs.toArray},if_pos rfl⟩)) (λb u z=>?_) (λb z=>?_) λ_=>hk
  ·by_cases hb:b=a
   ·exact .inr ⟨_,_,if_pos hb⟩
   ·exact .inl (if_neg hb)
  ·by_cases hb:b=a
   ·have z':=(if_pos hb).symm.trans z
    cases z'
    subst hb
    exact ⟨ha,by rw [List.length_map];exact hl,vs,_,rv,ha⟩
   ·have z':=(if_neg hb).symm.trans z
    cases z'
  ·by_cases hb:b=a
   ·exact hb
   ·exact absurd (if_neg hb) z
end L2
namespace L2
open PySem PySem.Spec PyProof.Rows
theorem vz{l:PySem.W.OpenLaw}{n k:Nat}{q:Program}{loose:List Str}{XP:(Str->Option Value)->Heap->Prop}{YP:World->Heap->Prop}{d:DefRec}{K:Params->Frag}{CX:World->CXT}{sp:World->Sp}{x:Str}
  (hn:l.most=some n)(hn2:n<=sizeLine)(hdf:d.params.defaults=[])(hr:Room k callerA)
  (hY:∀(w:World) (h:Heap),YP w h->(K w.params).In h)
  (F:∀(w:World) (mg:Str->Option Value) (fa:Addr) (h:Heap),(K w.params).In h->h.Ns mainGlobals mg->mg d.name=some (.ref fa) ->
   ∃fd:FuncData,(∀(s:Shared) (u:Value),BindsTo s fd ⟨[u],[]⟩ [(x,u)]) /\
    ∀base:Heap,(K w.params).In base->base.Ns mainGlobals mg->FnOk l.prog w (K w.params) mg base (CX w) k fa fd [x] (sp w))
  (hsp:∀(w:World) (H:Hp) (a:Addr) (ns:List Int),ns.length<=n->zw H->SqL (K w.params) H a (ns.map V.int)->sp w [.ref a] H (λv _=>v=.bl true) λ_ _ _=>False)
  (hCX:∀(w:World) (H:Hp) (s:Shared) (e:Value) (s':Shared),CX w [] H s (λ_ _ _=>False) e s'->False) :
  PySem.W.WalkO q loose XP YP l.row.toRowW d [] (λf vs=>PySem.call f vs):=by
 refine Att.oy hn hdf λw s₀ s₁ mg mb fa o pm cd doc a vs ns G Y ho hd hcd hmg hobj hints hlen hg=>?_
 have KX:=hY w _ Y
 obtain ⟨fd,hb,hF⟩:=F w mg fa _ KX G.T.g hmg
 exact uR KX G.T.g G.T.b G.T.builtins G.T.nolimit hg hobj hints (Λ hlen hn2) hr hF hb (λH hO hS=>hsp w H a ns hlen hO hS) λH e s'=>hCX w H s₁ e s'
end L2
namespace L2
open PySem PySem.Spec PyProof.Rows
def inClass(s:Stmt)(j:Nat):Stmt:=match s with
 | .ClassDef _ _ _ body _ _ _ _ _ _ _=>body.getD j (.Pass ⟨0,0,0,0⟩)
 | _=>.Pass ⟨0,0,0,0⟩
def defArgs(s:Stmt):Arguments:=match s with
 | .FunctionDef _ a _ _ _ _ _ _ _ _=>a
 | _=>{posonlyargs:=[],args:=[],vararg:=none,kwonlyargs:=[],kw_defaults:=[],kwarg:=none,defaults:=[]}
def defBody(s:Stmt):List Stmt:=match s with
 | .FunctionDef _ _ b _ _ _ _ _ _ _=>b
 | _=>[]
def defScope(s:Stmt):Scope:=match s with
 | .FunctionDef _ _ _ _ _ _ sc _ _ _=>sc
 | _=>{kind:=.function,names:=[],isGenerator:=false,isCoroutine:=false}
abbrev CX0:CXT:=λ_ _ _ _ _ _=>False
abbrev E0:XK:=λ_ _ _=>False
theorem bJ{X:Cx}:dM CX0 X E0:=λ_ _ _ _ _ _ _ h=>h.elim
structure Fun(K:Frag)(x qual:Str)(st:Stmt)(f:Addr)(fd:FuncData):Prop where
 ex:∃(oc:Value) (od:Option Addr) (kV doc pm:Value) (an:Option Addr) (cdv ct:Value) (osl:Array (Option Value)),
  fd=PySem.W.fnOf x qual (defArgs st) (defBody st) (defScope st) .none kV doc pm an cdv ct/\K.lookup f=some ⟨oc,od,.func fd,osl⟩/\PySem.W.codeIn K cdv qual=true
 kp:PySem.W.keepIn K (.ref f)=true
section
variable {P:Program}{w:World}{K:Frag}{mg:Str->Option Value}{base:Heap}
theorem Fun.ok{x qual:Str}{st:Stmt}{f:Addr}{fd:FuncData}{N ps:List Str}{k:Nat}{sp:Sp}(F:Fun K x qual st f fd)(S:al N ps (defScope st))(len:∀vs H Q E,sp vs H Q E->vs.length=ps.length)
  (hbody:∀(cdv:Value) (A:Around) (outer:List Env) (s:Shared) (H:Hp) (vs:List V) (Q:VK) (E:XK),Room k (A.deeper (envOfC qual (defScope st) s.heap.objs.size f cdv))->sp vs H Q E ->
   ∃t,PSs (oq CX0 P w K mg base N qual (defScope st) f cdv A outer s H E).nox (defBody st) t/\t {nx:=λ_ H'=>Q .non H',rt:=Q} (start N vs) H):FnOk P w K mg base CX0 (k+1) f fd ps sp:=by
 obtain ⟨oc,od,kV,doc,pm,an,cdv,ct,osl,rfl,lk,hcd⟩:=F.ex
 refine xG lk hcd S len λA outer s H vs Q E hr hsp=>?_
 obtain ⟨t,h,q⟩:=hbody cdv A outer s H vs Q E hr hsp
 exact ⟨t,h.nox,q⟩
theorem Fun.binds{x qual:Str}{st:Stmt}{f:Addr}{fd:FuncData}{ps:List Str}(F:Fun K x qual st f fd)
  (h:∀(kV doc pm:Value) (an:Option Addr) (cdv ct:Value) (us:List Value),us.length=ps.length->bindArgs (PySem.W.fnOf x qual (defArgs st) (defBody st) (defScope st) .none kV doc pm an cdv ct) ⟨us,[]⟩=pure (ps.zip us)):Binds K fd ps []:=by
 obtain ⟨oc,od,kV,doc,pm,an,cdv,ct,osl,rfl,lk,hcd⟩:=F.ex
 exact .all (h kV doc pm an cdv ct)
theorem zq{x qual:Str}{st:Stmt}{f:Addr}{oc:Value}{od an:Option Addr}{osl:Array (Option Value)}{kV doc pm cdv ct:Value}(l:K.lookup f=some ⟨oc,od,.func (PySem.W.fnOf x qual (defArgs st) (defBody st) (defScope st) .none kV doc pm an cdv ct),osl⟩)
  (c:PySem.W.codeIn K cdv qual=true)(k:PySem.W.keepIn K (.ref f)=true):Fun K x qual st f (PySem.W.fnOf x qual (defArgs st) (defBody st) (defScope st) .none kV doc pm an cdv ct):=⟨⟨oc,od,kV,doc,pm,an,cdv,ct,osl,rfl,l,c⟩,k⟩
end
theorem bw{n:Nat}(h:n<=1000):n<sizeLine:=Nat.lt_of_le_of_lt h ζ
section
variable {X:Cx}
theorem pv(i:Nat){x:Str}{pos:Pos}(hN:X.N[i]?=some x:=by rfl)(hv:Vis X.env.scope x:=by first | exact Or.inl rfl | exact Or.inr (Or.inl rfl) | exact Or.inr (Or.inr rfl))(hd:(x==("__debug__":Str))=false:=by decide)
  (hcd:(x==("__classdict__":Str))=false:=by decide):PE X (.Name x pos) (oK i):=tU hN hv hd hcd
end
theorem aI{A B:Prop}(h:B):if false=true then A else B:=by
 rw [if_neg Bool.false_ne_true]
 exact h
theorem aW{A B:Prop}(h:A):if true=true then A else B:=by
 rw [if_pos rfl]
 exact h
theorem bv{c A B:Prop} [Decidable c](h1:c->A)(h2:¬c->B):if c then A else B:=by
 by_cases h:c
 ·rw [if_pos h]
  exact h1 h
 ·rw [if_neg h]
  exact h2 h
theorem xC{c A B:Prop} [Decidable c](hc:c)(h:B):if (!decide c)=true then A else B:=by
 rw [τ hc]
 exact aI h
def Same(H H':Hp):Prop:=∀b o,H b=some o->H' b=some o
theorem Same.refl(H:Hp):Same H H:=λ_ _ h=>h
theorem Same.trans{H H1 H2:Hp}(a:Same H H1)(b:Same H1 H2):Same H H2:=λc o h=>b c o (a c o h)
theorem Same.seq{K:Frag}{H H':Hp}{a:Addr}{xs:List V}(e:Same H H')(h:SqL K H a xs):SqL K H' a xs:=by
 rcases h with (h | ⟨o,h⟩) | h
 ·exact .inl (.inl (e _ _ h))
 ·exact .inl (.inr ⟨o,e _ _ h⟩)
 ·exact .inr h
end L2
section
set_option maxHeartbeats 0
open PySem PySem.W PyProof.Rows
lay_quick PySem.Challenge.pw_pactroom_k45_undone_from_the_last
namespace Q
noncomputable section
noncomputable abbrev vT:Value:=Value.bool true
noncomputable abbrev vF:Value:=Value.bool false
noncomputable abbrev A{α:Type}(l:List α):Array α:=Array.mk l
noncomputable abbrev E{α:Type}:Array α:=Array.mk []
noncomputable abbrev vn:Value:=Value.none
noncomputable abbrev vr(n:Nat):Value:=Value.ref n
noncomputable abbrev sr(n:Nat):Option Value:=some (Value.ref n)
noncomputable abbrev vi(a:Int)(n:Nat):Value:=Value.int a n
noncomputable abbrev vs(q:Str)(n:Nat):Value:=Value.str q n
noncomputable abbrev de(P:Params)(q:Str)(n:Nat)(v:Value):DictEntry:=DictEntry.mk (PyData.keyHash P q) (Value.str q n) v
noncomputable abbrev nd(o:Obj)(a b:BT):BT:=.node o a b
noncomputable abbrev l1(o:Obj):BT:=.node o .nil .nil
noncomputable abbrev S(l:List Nat):Str:=@Str.mk (Array.mk l)
abbrev q0:=S [60,109,111,100,117,108,101,62]
abbrev q1:=S [47,99,108,97,105,109,47,99,117,116,46,112,121]
abbrev q2:=S [95,95,109,97,105,110,95,95]
abbrev q3:=S [95,95,110,97,109,101,95,95]
abbrev q4:=S [112,97,99,116,114,111,111,109,46,108,101,97,100,115]
abbrev q5:=S [95,95,100,111,99,95,95]
abbrev q6:=S [95,95,112,97,99,107,97,103,101,95,95]
abbrev q7:=S [95,95,108,111,97,100,101,114,95,95]
abbrev q8:=S [95,95,115,112,101,99,95,95]
abbrev q9:=S [95,95,97,110,110,111,116,97,116,105,111,110,115,95,95]
abbrev q10:=S [95,95,98,117,105,108,116,105,110,115,95,95]
abbrev q11:=S [95,95,102,105,108,101,95,95]
abbrev q12:=S [95,95,99,97,99,104,101,100,95,95]
abbrev q13:=S [95,119,97,108,108]
abbrev q14:=S [80,97,99,116,69,114,114,111,114]
abbrev q15:=S [78,111,84,104,105,110,103]
abbrev q16:=S [78,111,78,101,101,100]
abbrev q17:=S [78,111,84,101,120,116]
abbrev q18:=S [77,79,83,84,95,70,73,71,85,82,69,83,95,116,104,105,110,103,115]
abbrev q19:=S [77,79,83,84,95,83,73,71,78,83]
abbrev q20:=S [77,79,83,84,95,80,65,82,84,83]
abbrev q21:=S [77,79,83,84,95,68,69,69,80]
abbrev q22:=S [76,79,78,71,69,83,84]
abbrev q23:=S [66,76,65,78,75]
abbrev q24:=S [80,69,82,67,69,78,84]
abbrev q25:=S [84,73,76,68,69]
abbrev q26:=S [105,115,95,119,104,111,108,101]
abbrev q27:=S [115,104,111,119,110]
abbrev q28:=S [114,101,97,100,95,116,104,105,110,103]
abbrev q29:=S [105,115,95,115,105,103,110]
abbrev q30:=S [82,101,97,100,101,114]
abbrev q31:=S [77,79,83,84,95,70,73,71,85,82,69,83,95,115,116,101,112,115]
abbrev q32:=S [83,72,65,80,69,83]
abbrev q33:=S [83,116,101,112]
abbrev q34:=S [67,101,108,108,83,116,101,112]
abbrev q35:=S [84,97,107,101,83,116,101,112]
abbrev q36:=S [77,101,97,110,83,116,101,112]
abbrev q37:=S [83,117,109,83,116,101,112]
abbrev q38:=S [71,105,118,101,83,116,101,112]
abbrev q39:=S [65,100,100,83,116,101,112]
abbrev q40:=S [80,108,117,115,83,116,101,112]
abbrev q41:=S [78,101,101,100,83,116,101,112]
abbrev q42:=S [115,112,101,108,108]
abbrev q43:=S [114,101,97,100,95,115,116,101,112]
abbrev q44:=S [114,101,97,100,95,110,117,109,98,101,114]
abbrev q45:=S [109,97,100,101,95,115,116,101,112]
abbrev q46:=S [109,97,100,101,95,115,117,109]
abbrev q47:=S [77,65,78,78,69,82,83]
abbrev q48:=S [77,79,83,84,95,83,84,69,80,83]
abbrev q49:=S [80,97,99,116]
abbrev q50:=S [114,101,97,100,95,112,97,99,116]
abbrev q51:=S [114,101,97,100,95,112,97,114,116]
abbrev q52:=S [104,111,117,115,101,115,95,111,102]
abbrev q53:=S [116,117,114,110,105,110,103]
abbrev q54:=S [80,65,84,73,69,78,67,69]
abbrev q55:=S [76,101,97,100]
abbrev q56:=S [107]
abbrev q57:=S [95,95,109,111,100,117,108,101,95,95]
abbrev q58:=S [112,97,99,116,114,111,111,109,46,101,114,114,111,114,115]
abbrev q59:=S [95,95,113,117,97,108,110,97,109,101,95,95]
abbrev q60:=S [95,95,102,105,114,115,116,108,105,110,101,110,111,95,95]
abbrev q61:=S [95,95,115,116,97,116,105,99,95,97,116,116,114,105,98,117,116,101,115,95,95]
abbrev q62:=S [95,95,119,101,97,107,114,101,102,95,95]
abbrev q63:=S [95,95,105,110,105,116,95,95]
abbrev q64:=S [115,101,108,102]
abbrev q65:=S [97,116]
abbrev q66:=S [78,111,84,101,120,116,46,95,95,105,110,105,116,95,95]
abbrev q67:=S [116,104,105,110,103]
abbrev q68:=S [112,97,99,116,114,111,111,109,46,116,104,105,110,103,115]
abbrev q69:=S [115,105,103,110]
abbrev q70:=S [110,117,109,98,101,114]
abbrev q71:=S [112,97,115,115,101,115]
abbrev q72:=S [114,101,97,100,95,97,110,121]
abbrev q73:=S [114,101,97,100,95,112,97,114,116,115]
abbrev q74:=S [114,101,97,100,95,98,101,108,111,119]
abbrev q75:=S [114,101,97,100,95,115,105,103,110,115]
abbrev q76:=S [116,101,120,116]
abbrev q77:=S [82,101,97,100,101,114,46,95,95,105,110,105,116,95,95]
abbrev q78:=S [82,101,97,100,101,114,46,112,97,115,115,101,115]
abbrev q79:=S [100,101,101,112]
abbrev q80:=S [82,101,97,100,101,114,46,114,101,97,100,95,97,110,121]
abbrev q81:=S [112,97,114,116,115]
abbrev q82:=S [82,101,97,100,101,114,46,114,101,97,100,95,112,97,114,116,115]
abbrev q83:=S [82,101,97,100,101,114,46,114,101,97,100,95,98,101,108,111,119]
abbrev q84:=S [115,116,97,114,116]
abbrev q85:=S [102,105,103,117,114,101,115]
abbrev q86:=S [82,101,97,100,101,114,46,114,101,97,100,95,110,117,109,98,101,114]
abbrev q87:=S [109,97,110,121]
abbrev q88:=S [98,101,104,105,110,100]
abbrev q89:=S [115,105,103,110,115]
abbrev q90:=S [82,101,97,100,101,114,46,114,101,97,100,95,115,105,103,110,115]
abbrev q91:=S [112,108,97,99,101]
abbrev q92:=S [95,95,100,105,99,116,95,95]
abbrev q93:=S [116,97,107,101]
abbrev q94:=S [72,67]
abbrev q95:=S [109,101,97,110]
abbrev q96:=S [115,117,109]
abbrev q97:=S [72,65,66]
abbrev q98:=S [103,105,118,101]
abbrev q99:=S [97,100,100]
abbrev q100:=S [72,67,86]
abbrev q101:=S [112,108,117,115]
abbrev q102:=S [86]
abbrev q103:=S [110,101,101,100]
abbrev q104:=S [112,97,99,116,114,111,111,109,46,115,116,101,112,115]
abbrev q105:=S [104,111,117,115,101]
abbrev q106:=S [108,111,99,107]
abbrev q107:=S [115,116,101,112,95,100,111,110,101]
abbrev q108:=S [98,97,99,107]
abbrev q109:=S [115,117,114,101]
abbrev q110:=S [115,112,101,108,108,101,100]
abbrev q111:=S [83,116,101,112,46,104,111,117,115,101]
abbrev q112:=S [83,116,101,112,46,108,111,99,107]
abbrev q113:=S [104,97,110,100]
abbrev q114:=S [118,97,108,117,101,95,111,102]
abbrev q115:=S [83,116,101,112,46,115,116,101,112,95,100,111,110,101]
abbrev q116:=S [83,116,101,112,46,98,97,99,107]
abbrev q117:=S [83,116,101,112,46,115,117,114,101]
abbrev q118:=S [83,116,101,112,46,115,112,101,108,108,101,100]
abbrev q119:=S [119,104,101,114,101]
abbrev q120:=S [99,101,108,108]
abbrev q121:=S [67,101,108,108,83,116,101,112,46,95,95,105,110,105,116,95,95]
abbrev q122:=S [67,101,108,108,83,116,101,112,46,104,111,117,115,101]
abbrev q123:=S [84,97,107,101,83,116,101,112,46,108,111,99,107]
abbrev q124:=S [84,97,107,101,83,116,101,112,46,115,116,101,112,95,100,111,110,101]
abbrev q125:=S [84,97,107,101,83,116,101,112,46,115,112,101,108,108,101,100]
abbrev q126:=S [77,101,97,110,83,116,101,112,46,108,111,99,107]
abbrev q127:=S [77,101,97,110,83,116,101,112,46,115,116,101,112,95,100,111,110,101]
abbrev q128:=S [77,101,97,110,83,116,101,112,46,115,112,101,108,108,101,100]
abbrev q129:=S [108,111,119]
abbrev q130:=S [104,105,103,104]
abbrev q131:=S [83,117,109,83,116,101,112,46,95,95,105,110,105,116,95,95]
abbrev q132:=S [83,117,109,83,116,101,112,46,104,111,117,115,101]
abbrev q133:=S [83,117,109,83,116,101,112,46,108,111,99,107]
abbrev q134:=S [83,117,109,83,116,101,112,46,115,116,101,112,95,100,111,110,101]
abbrev q135:=S [83,117,109,83,116,101,112,46,115,112,101,108,108,101,100]
abbrev q136:=S [71,105,118,101,83,116,101,112,46,108,111,99,107]
abbrev q137:=S [71,105,118,101,83,116,101,112,46,115,116,101,112,95,100,111,110,101]
abbrev q138:=S [71,105,118,101,83,116,101,112,46,115,117,114,101]
abbrev q139:=S [71,105,118,101,83,116,101,112,46,115,112,101,108,108,101,100]
abbrev q140:=S [97,109,111,117,110,116]
abbrev q141:=S [65,100,100,83,116,101,112,46,95,95,105,110,105,116,95,95]
abbrev q142:=S [65,100,100,83,116,101,112,46,108,111,99,107]
abbrev q143:=S [65,100,100,83,116,101,112,46,115,116,101,112,95,100,111,110,101]
abbrev q144:=S [65,100,100,83,116,101,112,46,98,97,99,107]
abbrev q145:=S [65,100,100,83,116,101,112,46,115,112,101,108,108,101,100]
abbrev q146:=S [80,108,117,115,83,116,101,112,46,95,95,105,110,105,116,95,95]
abbrev q147:=S [80,108,117,115,83,116,101,112,46,115,116,101,112,95,100,111,110,101]
abbrev q148:=S [80,108,117,115,83,116,101,112,46,115,112,101,108,108,101,100]
abbrev q149:=S [78,101,101,100,83,116,101,112,46,95,95,105,110,105,116,95,95]
abbrev q150:=S [78,101,101,100,83,116,101,112,46,115,116,101,112,95,100,111,110,101]
abbrev q151:=S [78,101,101,100,83,116,101,112,46,115,112,101,108,108,101,100]
abbrev q152:=S [119,111,114,100]
abbrev q153:=S [108,101,116,116,101,114]
abbrev q154:=S [110,117,109,98,101,114,115]
abbrev q155:=S [104,101,108,100]
abbrev q156:=S [119,97,108,107,101,100]
abbrev q157:=S [112,97,99,116,114,111,111,109,46,112,97,99,116,115]
abbrev q158:=S [109,97,110,110,101,114]
abbrev q159:=S [115,116,101,112,115]
abbrev q160:=S [80,97,99,116,46,95,95,105,110,105,116,95,95]
abbrev q161:=S [80,97,99,116,46,115,112,101,108,108,101,100]
abbrev q162:=S [112,97,99,116]
abbrev q163:=S [103,111]
abbrev q164:=S [116,117,114,110]
abbrev q165:=S [101,110,100]
abbrev q166:=S [99,97,109,101]
abbrev q167:=S [103,111,95,97,104,101,97,100]
abbrev q168:=S [103,111,95,102,114,111,109,95,101,110,100]
abbrev q169:=S [103,111,95,98,101,104,105,110,100]
abbrev q170:=S [110,97,109,105,110,103]
abbrev q171:=S [111,119,110,95,115,116,101,112,115,95,100,111,110,101]
abbrev q172:=S [110,101,120,116,95,104,111,117,115,101]
abbrev q173:=S [112,114,101,115,101,110,116,95,104,97,110,100]
abbrev q174:=S [115,101,110,100,95,115,116,101,112]
abbrev q175:=S [105,115,95,97,110,115,119,101,114]
abbrev q176:=S [110,97,109,101]
abbrev q177:=S [76,101,97,100,46,95,95,105,110,105,116,95,95]
abbrev q178:=S [115,104,101,101,116]
abbrev q179:=S [76,101,97,100,46,103,111]
abbrev q180:=S [76,101,97,100,46,116,117,114,110]
abbrev q181:=S [111,117,116,99,111,109,101]
abbrev q182:=S [76,101,97,100,46,101,110,100]
abbrev q183:=S [115,101,110,100,101,114]
abbrev q184:=S [109,111,114,101]
abbrev q185:=S [76,101,97,100,46,99,97,109,101]
abbrev q186:=S [76,101,97,100,46,103,111,95,97,104,101,97,100]
abbrev q187:=S [76,101,97,100,46,103,111,95,102,114,111,109,95,101,110,100]
abbrev q188:=S [76,101,97,100,46,103,111,95,98,101,104,105,110,100]
abbrev q189:=S [76,101,97,100,46,110,97,109,105,110,103]
abbrev q190:=S [115,116,101,112]
abbrev q191:=S [76,101,97,100,46,111,119,110,95,115,116,101,112,115,95,100,111,110,101]
abbrev q192:=S [76,101,97,100,46,110,101,120,116,95,104,111,117,115,101]
abbrev q193:=S [76,101,97,100,46,112,114,101,115,101,110,116,95,104,97,110,100]
abbrev q194:=S [76,101,97,100,46,115,101,110,100,95,115,116,101,112]
abbrev q195:=S [76,101,97,100,46,105,115,95,97,110,115,119,101,114]
abbrev q196:=S [99,108,111,115,101,100]
abbrev q197:=S [104,97,110,100,115]
abbrev q198:=S [104,111,117,115,101,115]
abbrev q199:=S [110,97,109,101,100]
abbrev q200:=S [116,117,114,110,115]
abbrev q201:=S [108,97,119,95,112,97,99,116,114,111,111,109,95,107,52,53,95,117,110,100,111,110,101,95,102,114,111,109,95,116,104,101,95,108,97,115,116]
abbrev q202:=S [87,97,108,107,101,100,76,101,97,100]
abbrev q203:=S [110,111,95,118,97,108,117,101]
abbrev q204:=S [83,104,101,101,116]
abbrev q205:=S [83,116,97,110,100]
abbrev q206:=S [95,108,97,119,95,99,101,108,108,95,97,116]
abbrev q207:=S [95,108,97,119,95,97,109,111,117,110,116]
abbrev q208:=S [95,108,97,119,95,115,116,101,112]
abbrev q209:=S [95,108,97,119,95,115,116,101,112,115]
abbrev q210:=S [95,108,97,119,95,108,97,115,116]
abbrev q211:=S [95,108,97,119,95,112,108,97,105,110]
abbrev q212:=S [95,108,97,119,95,119,97,121]
abbrev q213:=S [95,108,97,119,95,98,97,99,107]
abbrev q214:=S [95,108,97,119,95,100,117,101]
abbrev q215:=S [95,108,97,119,95,99,97,109,101]
abbrev q216:=S [108,97,119]
abbrev q217:=S [105,115,95,119,97,108,107,105,110,103]
abbrev q218:=S [105,115,95,117,110,100,111,105,110,103]
abbrev q219:=S [99,111,109,101,95,117,112]
abbrev q220:=S [119,97,108,107,95,114,101,115,116]
abbrev q221:=S [117,110,100,111,95,114,101,115,116]
abbrev q222:=S [87,97,108,107,101,100,76,101,97,100,46,95,95,105,110,105,116,95,95]
abbrev q223:=S [87,97,108,107,101,100,76,101,97,100,46,103,111,95,97,104,101,97,100]
abbrev q224:=S [87,97,108,107,101,100,76,101,97,100,46,99,97,109,101]
abbrev q225:=S [87,97,108,107,101,100,76,101,97,100,46,105,115,95,119,97,108,107,105,110,103]
abbrev q226:=S [87,97,108,107,101,100,76,101,97,100,46,105,115,95,117,110,100,111,105,110,103]
abbrev q227:=S [87,97,108,107,101,100,76,101,97,100,46,103,111,95,102,114,111,109,95,101,110,100]
abbrev q228:=S [105,115,95,108,101,102,116]
abbrev q229:=S [87,97,108,107,101,100,76,101,97,100,46,103,111,95,98,101,104,105,110,100]
abbrev q230:=S [87,97,108,107,101,100,76,101,97,100,46,99,111,109,101,95,117,112]
abbrev q231:=S [87,97,108,107,101,100,76,101,97,100,46,119,97,108,107,95,114,101,115,116]
abbrev q232:=S [87,97,108,107,101,100,76,101,97,100,46,117,110,100,111,95,114,101,115,116]
abbrev q233:=S [98,101,110,100]
abbrev q234:=S [115,105,103,110,101,100]
abbrev q235:=S [117,110,100,111,105,110,103]
abbrev q236:=S [112,97,99,116,114,111,111,109,46,115,104,101,101,116,115]
abbrev q237:=S [114,111,119]
abbrev q238:=S [115,101,110,100]
abbrev q239:=S [114,111,119,115,95,116,111,108,100]
abbrev q240:=S [108,101,116,116,101,114,115,95,116,111,108,100]
abbrev q241:=S [115,116,97,110,100]
abbrev q242:=S [83,104,101,101,116,46,95,95,105,110,105,116,95,95]
abbrev q243:=S [83,104,101,101,116,46,114,111,119]
abbrev q244:=S [116,111]
abbrev q245:=S [112]
abbrev q246:=S [83,104,101,101,116,46,115,101,110,100]
abbrev q247:=S [83,104,101,101,116,46,114,111,119,115,95,116,111,108,100]
abbrev q248:=S [83,104,101,101,116,46,108,101,116,116,101,114,115,95,116,111,108,100]
abbrev q249:=S [108,97,116,101,115,116]
abbrev q250:=S [114,111,119,115]
abbrev q251:=S [115,101,110,116]
abbrev q252:=S [112,97,99,116,114,111,111,109,46,115,116,97,110,100,115]
abbrev q253:=S [107,101,101,112]
abbrev q254:=S [99,104,97,110,103,101,115,95,111,102]
abbrev q255:=S [99,101,108,108,95,97,116]
abbrev q256:=S [99,101,108,108,115,95,116,111,108,100]
abbrev q257:=S [110,101,119,115]
abbrev q258:=S [98,111,117,110,100]
abbrev q259:=S [108,111,115,116]
abbrev q260:=S [98,101,103,117,110]
abbrev q261:=S [119,97,108,107,101,100,95,97,116]
abbrev q262:=S [105,115,95,111,118,101,114]
abbrev q263:=S [99,101,108,108,115]
abbrev q264:=S [83,116,97,110,100,46,95,95,105,110,105,116,95,95]
abbrev q265:=S [99,104,97,110,103,101]
abbrev q266:=S [83,116,97,110,100,46,107,101,101,112]
abbrev q267:=S [83,116,97,110,100,46,99,104,97,110,103,101,115,95,111,102]
abbrev q268:=S [83,116,97,110,100,46,99,101,108,108,95,97,116]
abbrev q269:=S [83,116,97,110,100,46,99,101,108,108,115,95,116,111,108,100]
abbrev q270:=S [83,116,97,110,100,46,111,117,116,99,111,109,101]
abbrev q271:=S [83,116,97,110,100,46,110,101,119,115]
abbrev q272:=S [83,116,97,110,100,46,98,111,117,110,100]
abbrev q273:=S [83,116,97,110,100,46,108,111,115,116]
abbrev q274:=S [83,116,97,110,100,46,98,101,103,117,110]
abbrev q275:=S [105]
abbrev q276:=S [83,116,97,110,100,46,119,97,108,107,101,100,95,97,116]
abbrev q277:=S [83,116,97,110,100,46,105,115,95,111,118,101,114]
abbrev q278:=S [98,101,103,105,110,115]
abbrev q279:=S [101,110,100,115]
abbrev q280:=S [111,118,101,114,115]
abbrev q281:=S [114,101,97,100,105,101,115]
abbrev q282:=S [119,97,108,107,115]
abbrev q283:=S [119,111,114,107,101,100]
abbrev q284:=S [95,108,97,119,95,115,99,114,105,112,116]
abbrev q285:=S [95,108,97,119,95,107]
abbrev q286:=S [95,108,97,119,95,110,117,109,98,101,114]
abbrev q287:=S [95,108,97,119,95,103,105,118,101,110]
abbrev q288:=S [95,108,97,119,95,110,111,110,101]
abbrev q289:=S [95,108,97,119,95,104,111,117,115,101]
abbrev q290:=S [95,108,97,119,95,99,101,108,108]
abbrev q291:=S [95,108,97,119,95,97,109,111,117,110,116,95,104,101,114,101]
abbrev q292:=S [95,108,97,119,95,119,97,121,95,104,101,114,101]
abbrev q293:=S [95,108,97,119,95,104,101,97,100]
abbrev q294:=S [95,108,97,119,95,116,101,120,116]
abbrev q295:=S [95,108,97,119,95,115,116,101,112,115,95,104,101,114,101]
abbrev q296:=S [95,108,97,119,95,115,116,101,112,95,104,101,114,101]
abbrev q297:=S [95,108,97,119,95,104,97,110,100,115]
abbrev q298:=S [95,108,97,119,95,119,111,114,100]
abbrev q299:=S [95,108,97,119,95,102,111,117,110,100]
abbrev q300:=S [95,108,97,119,95,110,97,109,101]
abbrev q301:=S [95,108,97,119,95,98,97,99,107,95,104,101,114,101]
abbrev q302:=S [95,108,97,119,95,108,101,97,100]
abbrev q303:=S [95,108,97,119,95,115,104,101,101,116]
abbrev q304:=S [95,108,97,119,95,111,116,104,101,114]
noncomputable abbrev y0:Value:=(@Value.type SL.s2766695959194262286x5)
noncomputable abbrev y1:Value:=(@Value.type SL.s5856160107412720595x4)
noncomputable abbrev y2:Value:=(@Value.type SL.s658472552662922059x5)
noncomputable abbrev y3:Value:=(@Value.type SL.s14018661285674007319x4)
noncomputable abbrev y4:Value:=(@Value.builtin SL.s7097527257260152453x26)
noncomputable abbrev y5:Value:=(@Value.type SL.s7174869446012820540x8)
noncomputable abbrev y6:Value:=(@Value.type SL.s6070975301684473832x10)
noncomputable abbrev y7:Value:=(@Value.type SL.s11030030927630378310x26)
noncomputable abbrev y8:Value:=(@Value.builtin SL.s10062305145149207511x16)
noncomputable abbrev y9:Value:=(@Value.type SL.s17162191345867700912x4)
noncomputable abbrev y10:Value:=(@Value.type SL.s5946037652744460706x9)
noncomputable abbrev y11:Value:=(@Value.type SL.s4278001404047624695x13)
noncomputable abbrev y12:Value:=(@Value.type SL.s2742458400755230247x6)
noncomputable abbrev y13:Value:=(@Value.builtin SL.s4209523147560561109x18)
noncomputable abbrev y14:Value:=(@Value.type SL.s14755015743595814543x17)
noncomputable abbrev y15:Value:=(@Value.builtin SL.s10220274742760427390x26)
noncomputable abbrev y16:Value:=(@Value.type SL.s4290257624100764138x5)
noncomputable abbrev y17:Value:=(@Value.builtin SL.s4860613602091757760x24)
noncomputable abbrev y18:Value:=(@Value.builtin SL.s11443829558043349243x14)
noncomputable abbrev y19:Value:=(@Value.builtin SL.s6511155373996960695x17)
noncomputable abbrev y20:Value:=(@Value.builtin SL.s12411053484034534018x21)
noncomputable abbrev p0:Program:=PySem.Challenge.pw_pactroom_k45_undone_from_the_last
noncomputable abbrev pq:Program:=PySem.W.Fast.tw1444726352287162396
theorem pe:p0=pq:=PySem.W.Fast.te1444726352287162396
noncomputable def B(i:Nat):Stmt:=pq.main.body.getD i (.Pass ⟨0,0,0,0⟩)
noncomputable def T(i:Nat):Stmt:=p0.main.body.getD i (.Pass ⟨0,0,0,0⟩)
noncomputable def M(k j:Nat):Stmt:=L2.inClass (B k) j
noncomputable def N(k j:Nat):Stmt:=L2.inClass (T k) j
noncomputable abbrev fk(a b:Str)(s:Stmt):=FuncData.mk a b (L2.defArgs s) (.stmts (L2.defBody s)) (L2.defScope s)
section
variable (P:Params)
def a11:=Obj.mk y0 none (Data.seq E 0) E
def a12:=Obj.mk vn none (Data.fields E) E
def m0(x0:Str)(x1:Nat)(x2:Nat)(x3:Nat)(x4:Int)(x5:Nat)(x6:Nat)(x7:Int)(x8:Nat):=Obj.mk y1 none (Data.fields (A [vs x0 x1,vs x0 x2,vs q1 x3,vi x4 0,vi 0 0,vi 0 0,vi 0 0,vi 0 0,vr x5,vF,vi 181 0,vr x6,vn,vn,vn,vn,vi x7 0,vi x4 0,vs q1 x8])) E
def a13:=m0 q0 182 183 184 1 11 12 185 186
def m1(x0:Nat)(x1:Nat)(x2:Str)(x3:Nat):=Obj.mk y2 none Data.plain (A [sr x0,sr 3,sr x1,none,some (vs x2 x3),none,sr 0])
def a14:=m1 13 3 q2 164
def u0:=nd (boot_o_0 P) (nd (boot_o_1 P) (nd (boot_o_3 P) (l1 (boot_o_7 P)) (l1 a11)) (nd (boot_o_5 P) (l1 (boot_o_9 P)) (l1 a13))) (nd (boot_o_2 P) (nd (boot_o_4 P) (l1 (boot_o_8 P)) (l1 a12)) (nd (boot_o_6 P) (l1 (boot_o_10 P)) (l1 a14)))
def ta:=u0 P
def tb:=u0 P
def c0_3:=Obj.mk y3 none (Data.dict (A [de P q3 165 (vs q4 955),de P q5 166 vn,de P q6 167 vn,de P q7 168 y4,de P q8 169 vn,de P q9 170 (vr 6),de P q10 171 (vr 4),de P q11 173 (vs q1 172),de P q12 174 vn,de P q13 193 (vr 21),de P q14 213 (vr 31),de P q15 229 (vr 44),de P q16 245 (vr 56),de P q17 270 (vr 75),de P q18 274 (vi 400 273),de P q19 276 (vi 2000 275),de P q20 278 (vi 2000 277),de P q21 280 (vi 8 279),de P q22 282 (vi 100000 281),de P q23 284 (vi 32 283),de P q24 286 (vi 37 285),de P q25 288 (vi 126 287),de P q26 295 (vr 84),de P q27 301 (vr 89),de P q28 307 (vr 94),de P q29 315 (vr 101),de P q30 398 (vr 160),de P q31 402 (vi 40 401),de P q32 424 (vr 165),de P q33 489 (vr 217),de P q34 523 (vr 245),de P q35 562 (vr 278),de P q36 601 (vr 311),de P q37 657 (vr 356),de P q38 703 (vr 396),de P q39 761 (vr 443),de P q40 802 (vr 476),de P q41 843 (vr 509),de P q42 849 (vr 516),de P q43 855 (vr 521),de P q44 864 (vr 528),de P q45 872 (vr 535),de P q46 881 (vr 542),de P q47 886 (vr 543),de P q48 888 (vi 12 887),de P q49 926 (vr 565),de P q50 932 (vr 574),de P q51 940 (vr 581),de P q52 946 (vr 586),de P q53 954 (vr 593),de P q54 958 (vi 4 957),de P q55 1103 (vr 701)]) 52) E
def c0_12:=Obj.mk vn none (Data.fields (A [vi 1 0,vi 0 0,vr 20,vi 5 0,vi 0 0,vr 27,vi 7 0,vi 0 0,vr 40,vi 9 0,vi 0 0,vr 52,vi 11 0,vi 0 0,vr 64,vi 24 0,vi 0 0,vr 83,vi 26 0,vi 0 0,vr 88,vi 32 0,vi 0 0,vr 93,vi 42 0,vi 0 0,vr 100,vi 45 0,vi 0 0,vr 107,vi 112 0,vi 0 0,vr 171,vi 131 0,vi 0 0,vr 227,vi 139 0,vi 0 0,vr 253,vi 149 0,vi 0 0,vr 286,vi 159 0,vi 0 0,vr 319,vi 177 0,vi 0 0,vr 364,vi 190 0,vi 0 0,vr 404,vi 207 0,vi 0 0,vr 451,vi 217 0,vi 0 0,vr 484,vi 229 0,vi 0 0,vr 515,vi 231 0,vi 0 0,vr 520,vi 237 0,vi 0 0,vr 527,vi 247 0,vi 0 0,vr 534,vi 261 0,vi 0 0,vr 541,vi 268 0,vi 0 0,vr 549,vi 277 0,vi 0 0,vr 573,vi 285 0,vi 0 0,vr 580,vi 290 0,vi 0 0,vr 585,vi 292 0,vi 0 0,vr 592,vi 299 0,vi 0 0,vr 599])) E
def m2(x0:Str)(x1:Nat):=Obj.mk y0 none (Data.seq (A [vs x0 x1]) 0) E
def c0_17:=m2 q56 190
def m3(x0:Str)(x1:Str)(x2:Stmt):=Obj.mk vn none (Data.func (fk x0 x1 x2 0 [] vn vn vn vn none vn vn 0)) E
def c0_19:=m3 q13 q13 (B 0)
def m4(x0:Str)(x1:Nat)(x2:Str)(x3:Nat)(x4:Nat)(x5:Int)(x6:Int)(x7:Nat)(x8:Nat)(x9:Nat)(x10:Nat)(x11:Nat)(x12:Int)(x13:Nat):=Obj.mk y1 none (Data.fields (A [vs x0 x1,vs x2 x3,vs q1 x4,vi x5 0,vi x6 0,vi 0 0,vi 0 0,vi 3 0,vr x7,vT,vi 181 0,vr x8,vn,vr x9,vr x10,vr x11,vi x12 0,vi x5 0,vs q1 x13])) E
def c0_20:=m4 q13 187 q13 188 189 1 1 15 16 17 18 19 191 192
def m5(x0:Str)(x1:Str)(x2:Stmt)(x3:Str)(x4:Nat)(x5:Nat):=Obj.mk y5 none (Data.func (fk x0 x1 x2 3 [] vn vn vn (vs x3 x4) none (vr x5) vn 0)) E
def c0_21:=m5 q13 q13 (B 0) q2 164 20
def c0_22:=Obj.mk y0 none (Data.seq (A [y6]) 0) E
def c0_23:=Obj.mk y7 none (Data.fields (A [y8,y9])) E
def m6(x0:Nat)(x1:Nat)(x2:Str)(x3:Nat)(x4:Nat)(x5:Int)(x6:Nat)(x7:Nat)(x8:Nat):=Obj.mk y3 none (Data.dict (A [de P q57 x0 (vs q58 194),de P q59 x1 (vs x2 x3),de P q60 x4 (vi x5 x6),de P q61 x7 (vr x8)]) 4) E
def c0_24:=m6 P 203 205 q14 204 207 5 206 208 29
def c0_27:=m0 q14 198 199 200 5 25 26 201 202
def c0_28:=m1 27 24 q58 194
def c0_30:=Obj.mk y3 none (Data.dict (A [de P q57 203 (vs q58 194),de P q60 207 (vi 5 206),de P q61 208 (vr 29),de P q62 210 (vr 32),de P q5 211 vn]) 3) E
def c0_31:=Obj.mk y9 none (Data.cls (ClassData.mk q14 [y6] [vr 31,y6,y10,y11,y12] 30 q14 true [] [vr 44,vr 56,vr 75] false none false)) (A [sr 22,none,some (vs q14 196),some (vs q14 204),some y13,some vT])
def m7(x0:Nat)(x1:Nat):=Obj.mk y14 none (Data.fields (A [vs q62 x0,vr x1,y15,vn])) E
def c0_32:=m7 209 31
def m8(x0:Nat):=Obj.mk y16 none (Data.fields (A [vr x0,vr x0,vr x0])) E
def c0_33:=m8 31
def m9(x0:Nat):=Obj.mk y7 none (Data.fields (A [y17,vr x0])) E
def c0_34:=m9 31
def m10(x0:Nat):=Obj.mk y0 none (Data.seq (A [vr x0]) 0) E
def c0_35:=m10 31
def c0_37:=m6 P 221 223 q15 222 225 7 224 226 42
def c0_40:=m0 q15 216 217 218 7 38 39 219 220
def c0_41:=m1 40 37 q58 194
def c0_43:=Obj.mk y3 none (Data.dict (A [de P q57 221 (vs q58 194),de P q60 225 (vi 7 224),de P q61 226 (vr 42),de P q5 227 vn]) 2) E
def c0_44:=Obj.mk y9 none (Data.cls (ClassData.mk q15 [vr 31] [vr 44,vr 31,y6,y10,y11,y12] 43 q15 true [] [] false none false)) (A [sr 35,none,some (vs q15 214),some (vs q15 222),some y13,some vT])
def c0_45:=m8 44
def c0_46:=m9 44
def c0_49:=m6 P 237 239 q16 238 241 9 240 242 54
def c0_52:=m0 q16 232 233 234 9 50 51 235 236
def c0_53:=m1 52 49 q58 194
def c0_55:=Obj.mk y3 none (Data.dict (A [de P q57 237 (vs q58 194),de P q60 241 (vi 9 240),de P q61 242 (vr 54),de P q5 243 vn]) 2) E
def c0_56:=Obj.mk y9 none (Data.cls (ClassData.mk q16 [vr 31] [vr 56,vr 31,y6,y10,y11,y12] 55 q16 true [] [] false none false)) (A [sr 47,none,some (vs q16 230),some (vs q16 238),some y13,some vT])
def c0_57:=m8 56
def c0_58:=m9 56
def c0_61:=Obj.mk y3 none (Data.dict (A [de P q57 253 (vs q58 194),de P q59 255 (vs q17 254),de P q60 257 (vi 11 256),de P q63 265 (vr 72),de P q61 267 (vr 73)]) 5) E
def c0_63:=Obj.mk vn none (Data.fields (A [vi 13 0,vi 4 0,vr 71])) E
def c0_64:=m0 q17 248 249 250 11 62 63 251 252
def c0_65:=m1 64 61 q58 194
def m11(x0:Str)(x1:Nat)(x2:Str)(x3:Nat):=Obj.mk y0 none (Data.seq (A [vs x0 x1,vs x2 x3]) 0) E
def c0_68:=m11 q64 261 q65 262
def c0_70:=m3 q63 q66 (M 5 0)
def c0_71:=m4 q63 258 q66 259 260 13 2 66 67 68 69 70 263 264
def c0_72:=m5 q63 q66 (M 5 0) q58 194 71
def c0_73:=m2 q65 266
def c0_74:=Obj.mk y3 none (Data.dict (A [de P q57 253 (vs q58 194),de P q60 257 (vi 11 256),de P q63 265 (vr 72),de P q61 267 (vr 73),de P q5 268 vn]) 2) E
def c0_75:=Obj.mk y9 none (Data.cls (ClassData.mk q17 [vr 31] [vr 75,vr 31,y6,y10,y11,y12] 74 q17 true [] [] false none false)) (A [sr 59,none,some (vs q17 246),some (vs q17 254),some y13,some vT])
def c0_76:=m8 75
def c0_77:=m9 75
def c0_80:=m2 q67 292
def c0_82:=m3 q26 q26 (B 15)
def c0_83:=m4 q26 289 q26 290 291 24 1 78 79 80 81 82 293 294
def c0_84:=m5 q26 q26 (B 15) q68 271 83
def c0_87:=m3 q27 q27 (B 16)
def m12(x0:Str)(x1:Nat)(x2:Str)(x3:Nat)(x4:Nat)(x5:Int)(x6:Int)(x7:Nat)(x8:Nat)(x9:Nat)(x10:Int)(x11:Nat):=Obj.mk y1 none (Data.fields (A [vs x0 x1,vs x2 x3,vs q1 x4,vi x5 0,vi x6 0,vi 0 0,vi 0 0,vi 3 0,vr x7,vT,vi 181 0,vr x8,vn,vn,vn,vr x9,vi x10 0,vi x5 0,vs q1 x11])) E
def c0_88:=m12 q27 296 q27 297 298 26 1 85 86 87 299 300
def c0_89:=m5 q27 q27 (B 16) q68 271 88
def c0_92:=m3 q28 q28 (B 17)
def c0_93:=m12 q28 302 q28 303 304 32 1 90 91 92 305 306
def c0_94:=m5 q28 q28 (B 17) q68 271 93
def c0_97:=m11 q69 311 q70 312
def c0_99:=m3 q29 q29 (B 18)
def c0_100:=m4 q29 308 q29 309 310 42 1 95 96 97 98 99 313 314
def c0_101:=m5 q29 q29 (B 18) q68 271 100
def c0_104:=Obj.mk y3 none (Data.dict (A [de P q57 323 (vs q68 271),de P q59 325 (vs q30 324),de P q60 327 (vi 45 326),de P q63 335 (vr 115),de P q71 343 (vr 122),de P q72 352 (vr 129),de P q73 361 (vr 136),de P q74 369 (vr 143),de P q44 378 (vr 150),de P q75 388 (vr 157),de P q61 391 (vr 158)]) 11) E
def c0_106:=Obj.mk vn none (Data.fields (A [vi 47 0,vi 4 0,vr 114,vi 51 0,vi 4 0,vr 121,vi 57 0,vi 4 0,vr 128,vi 67 0,vi 4 0,vr 135,vi 81 0,vi 4 0,vr 142,vi 87 0,vi 4 0,vr 149,vi 100 0,vi 4 0,vr 156])) E
def c0_107:=m0 q30 318 319 320 45 105 106 321 322
def c0_108:=m1 107 104 q68 271
def c0_111:=m11 q64 331 q76 332
def c0_113:=m3 q63 q77 (M 19 0)
def c0_114:=m4 q63 328 q77 329 330 47 2 109 110 111 112 113 333 334
def c0_115:=m5 q63 q77 (M 19 0) q68 271 114
def c0_118:=m11 q64 339 q69 340
def c0_120:=m3 q71 q78 (M 19 1)
def c0_121:=m4 q71 336 q78 337 338 51 2 116 117 118 119 120 341 342
def c0_122:=m5 q71 q78 (M 19 1) q68 271 121
def m13(x0:Str)(x1:Nat)(x2:Str)(x3:Nat)(x4:Str)(x5:Nat):=Obj.mk y0 none (Data.seq (A [vs x0 x1,vs x2 x3,vs x4 x5]) 0) E
def c0_125:=m13 q64 347 q79 348 q70 349
def c0_127:=m3 q72 q80 (M 19 2)
def c0_128:=m4 q72 344 q80 345 346 57 2 123 124 125 126 127 350 351
def c0_129:=m5 q72 q80 (M 19 2) q68 271 128
def c0_132:=m13 q64 356 q79 357 q81 358
def c0_134:=m3 q73 q82 (M 19 3)
def c0_135:=m4 q73 353 q82 354 355 67 2 130 131 132 133 134 359 360
def c0_136:=m5 q73 q82 (M 19 3) q68 271 135
def c0_139:=m11 q64 365 q70 366
def c0_141:=m3 q74 q83 (M 19 4)
def c0_142:=m4 q74 362 q83 363 364 81 1 137 138 139 140 141 367 368
def c0_143:=m5 q74 q83 (M 19 4) q68 271 142
def c0_146:=m13 q64 373 q84 374 q85 375
def c0_148:=m3 q44 q86 (M 19 5)
def c0_149:=m4 q44 370 q86 371 372 87 1 144 145 146 147 148 376 377
def c0_150:=m5 q44 q86 (M 19 5) q68 271 149
def m14(x0:Str)(x1:Nat)(x2:Str)(x3:Nat)(x4:Str)(x5:Nat)(x6:Str)(x7:Nat):=Obj.mk y0 none (Data.seq (A [vs x0 x1,vs x2 x3,vs x4 x5,vs x6 x7]) 0) E
def c0_153:=m14 q64 382 q87 383 q88 384 q89 385
def c0_155:=m3 q75 q90 (M 19 6)
def c0_156:=m4 q75 379 q90 380 381 100 2 151 152 153 154 155 386 387
def c0_157:=m5 q75 q90 (M 19 6) q68 271 156
def c0_158:=m11 q91 389 q76 390
def c0_159:=Obj.mk y3 none (Data.dict (A [de P q57 323 (vs q68 271),de P q60 327 (vi 45 326),de P q63 335 (vr 115),de P q71 343 (vr 122),de P q72 352 (vr 129),de P q73 361 (vr 136),de P q74 369 (vr 143),de P q44 378 (vr 150),de P q75 388 (vr 157),de P q61 391 (vr 158),de P q92 393 (vr 161),de P q62 395 (vr 162),de P q5 396 vn]) 4) E
def c0_160:=Obj.mk y9 none (Data.cls (ClassData.mk q30 [y12] [vr 160,y12] 159 q30 true [] [] false none false)) (A [none,none,some (vs q30 316),some (vs q30 324),some y18,some vT])
def m15(x0:Nat)(x1:Nat):=Obj.mk y14 none (Data.fields (A [vs q92 x0,vr x1,y19,y20])) E
def c0_161:=m15 392 160
def c0_162:=m7 394 160
def c0_163:=m8 160
def c0_164:=m9 160
def c0_165:=Obj.mk y3 none (Data.dict (A [de P q93 403 (vs q94 404),de P q95 405 (vs q94 406),de P q96 407 (vs q97 408),de P q98 409 (vs q94 410),de P q99 411 (vs q100 412),de P q101 413 (vs q102 414),de P q103 415 (vs q102 416)]) 7) E
def c0_168:=Obj.mk y3 none (Data.dict (A [de P q57 432 (vs q104 399),de P q59 434 (vs q33 433),de P q60 436 (vi 112 435),de P q105 443 (vr 179),de P q106 450 (vr 186),de P q107 459 (vr 193),de P q108 467 (vr 200),de P q109 474 (vr 207),de P q110 481 (vr 214),de P q61 482 (vr 215)]) 10) E
def c0_170:=Obj.mk vn none (Data.fields (A [vi 114 0,vi 4 0,vr 178,vi 117 0,vi 4 0,vr 185,vi 120 0,vi 4 0,vr 192,vi 123 0,vi 4 0,vr 199,vi 126 0,vi 4 0,vr 206,vi 129 0,vi 4 0,vr 213])) E
def c0_171:=m0 q33 427 428 429 112 169 170 430 431
def c0_172:=m1 171 168 q104 399
def c0_175:=m2 q64 440
def c0_177:=m3 q105 q111 (M 23 0)
def c0_178:=m4 q105 437 q111 438 439 114 1 173 174 175 176 177 441 442
def c0_179:=m5 q105 q111 (M 23 0) q104 399 178
def c0_182:=m2 q64 447
def c0_184:=m3 q106 q112 (M 23 1)
def c0_185:=m4 q106 444 q112 445 446 117 1 180 181 182 183 184 448 449
def c0_186:=m5 q106 q112 (M 23 1) q104 399 185
def c0_189:=m13 q64 454 q113 455 q114 456
def c0_191:=m3 q107 q115 (M 23 2)
def c0_192:=m4 q107 451 q115 452 453 120 3 187 188 189 190 191 457 458
def c0_193:=m5 q107 q115 (M 23 2) q104 399 192
def c0_196:=m11 q64 463 q114 464
def c0_198:=m3 q108 q116 (M 23 3)
def c0_199:=m4 q108 460 q116 461 462 123 2 194 195 196 197 198 465 466
def c0_200:=m5 q108 q116 (M 23 3) q104 399 199
def c0_203:=m2 q64 471
def c0_205:=m3 q109 q117 (M 23 4)
def c0_206:=m4 q109 468 q117 469 470 126 1 201 202 203 204 205 472 473
def c0_207:=m5 q109 q117 (M 23 4) q104 399 206
def c0_210:=m2 q64 478
def c0_212:=m3 q110 q118 (M 23 5)
def c0_213:=m4 q110 475 q118 476 477 129 1 208 209 210 211 212 479 480
def c0_214:=m5 q110 q118 (M 23 5) q104 399 213
def c0_216:=Obj.mk y3 none (Data.dict (A [de P q57 432 (vs q104 399),de P q60 436 (vi 112 435),de P q105 443 (vr 179),de P q106 450 (vr 186),de P q107 459 (vr 193),de P q108 467 (vr 200),de P q109 474 (vr 207),de P q110 481 (vr 214),de P q61 482 (vr 215),de P q92 484 (vr 218),de P q62 486 (vr 219),de P q5 487 vn]) 4) E
def c0_217:=Obj.mk y9 none (Data.cls (ClassData.mk q33 [y12] [vr 217,y12] 216 q33 true [] [vr 245,vr 356,vr 476,vr 509] false none false)) (A [none,none,some (vs q33 425),some (vs q33 433),some y18,some vT])
def c0_218:=m15 483 217
def c0_219:=m7 485 217
def c0_220:=m8 217
def c0_221:=m9 217
def c0_222:=m10 217
def c0_224:=Obj.mk y3 none (Data.dict (A [de P q57 497 (vs q104 399),de P q59 499 (vs q34 498),de P q60 501 (vi 131 500),de P q63 510 (vr 235),de P q105 517 (vr 242),de P q61 520 (vr 243)]) 6) E
def c0_226:=Obj.mk vn none (Data.fields (A [vi 133 0,vi 4 0,vr 234,vi 137 0,vi 4 0,vr 241])) E
def c0_227:=m0 q34 492 493 494 131 225 226 495 496
def c0_228:=m1 227 224 q104 399
def c0_231:=m13 q64 505 q119 506 q120 507
def c0_233:=m3 q63 q121 (M 24 0)
def c0_234:=m4 q63 502 q121 503 504 133 3 229 230 231 232 233 508 509
def c0_235:=m5 q63 q121 (M 24 0) q104 399 234
def c0_238:=m2 q64 514
def c0_240:=m3 q105 q122 (M 24 1)
def c0_241:=m4 q105 511 q122 512 513 137 1 236 237 238 239 240 515 516
def c0_242:=m5 q105 q122 (M 24 1) q104 399 241
def c0_243:=m11 q120 518 q119 519
def c0_244:=Obj.mk y3 none (Data.dict (A [de P q57 497 (vs q104 399),de P q60 501 (vi 131 500),de P q63 510 (vr 235),de P q105 517 (vr 242),de P q61 520 (vr 243),de P q5 521 vn]) 2) E
def c0_245:=Obj.mk y9 none (Data.cls (ClassData.mk q34 [vr 217] [vr 245,vr 217,y12] 244 q34 true [] [vr 278,vr 311,vr 396,vr 443] false none false)) (A [sr 222,none,some (vs q34 490),some (vs q34 498),some y18,some vT])
def c0_246:=m8 245
def c0_247:=m9 245
def c0_248:=m10 245
def m16(x0:Nat)(x1:Nat)(x2:Str)(x3:Nat)(x4:Nat)(x5:Int)(x6:Nat)(x7:Str)(x8:Nat)(x9:Nat)(x10:Nat)(x11:Nat)(x12:Nat)(x13:Nat)(x14:Nat)(x15:Nat):=Obj.mk y3 none (Data.dict (A [de P q57 x0 (vs q104 399),de P q59 x1 (vs x2 x3),de P q60 x4 (vi x5 x6),de P x7 x8 (vr x9),de P q107 x10 (vr x11),de P q110 x12 (vr x13),de P q61 x14 (vr x15)]) 7) E
def c0_250:=m16 P 531 533 q35 532 535 139 534 q106 542 261 551 268 558 275 559 276
def m17(x0:Int)(x1:Nat)(x2:Int)(x3:Nat)(x4:Int)(x5:Nat):=Obj.mk vn none (Data.fields (A [vi x0 0,vi 4 0,vr x1,vi x2 0,vi 4 0,vr x3,vi x4 0,vi 4 0,vr x5])) E
def c0_252:=m17 141 260 144 267 147 274
def c0_253:=m0 q35 526 527 528 139 251 252 529 530
def c0_254:=m1 253 250 q104 399
def c0_257:=m2 q64 539
def c0_259:=m3 q106 q123 (M 25 0)
def c0_260:=m4 q106 536 q123 537 538 141 1 255 256 257 258 259 540 541
def c0_261:=m5 q106 q123 (M 25 0) q104 399 260
def c0_264:=m13 q64 546 q113 547 q114 548
def c0_266:=m3 q107 q124 (M 25 1)
def c0_267:=m4 q107 543 q124 544 545 144 3 262 263 264 265 266 549 550
def c0_268:=m5 q107 q124 (M 25 1) q104 399 267
def c0_271:=m2 q64 555
def c0_273:=m3 q110 q125 (M 25 2)
def c0_274:=m4 q110 552 q125 553 554 147 1 269 270 271 272 273 556 557
def c0_275:=m5 q110 q125 (M 25 2) q104 399 274
def m18(x0:Nat)(x1:Nat)(x2:Int)(x3:Nat)(x4:Str)(x5:Nat)(x6:Nat)(x7:Nat)(x8:Nat)(x9:Nat)(x10:Nat)(x11:Nat)(x12:Nat)(x13:Nat):=Obj.mk y3 none (Data.dict (A [de P q57 x0 (vs q104 399),de P q60 x1 (vi x2 x3),de P x4 x5 (vr x6),de P q107 x7 (vr x8),de P q110 x9 (vr x10),de P q61 x11 (vr x12),de P q5 x13 vn]) 2) E
def c0_277:=m18 P 531 535 139 534 q106 542 261 551 268 558 275 559 276 560
def c0_278:=Obj.mk y9 none (Data.cls (ClassData.mk q35 [vr 245] [vr 278,vr 245,vr 217,y12] 277 q35 true [] [] false none false)) (A [sr 248,none,some (vs q35 524),some (vs q35 532),some y18,some vT])
def c0_279:=m8 278
def c0_280:=m9 278
def c0_283:=m16 P 570 572 q36 571 574 149 573 q106 581 294 590 301 597 308 598 309
def c0_285:=m17 151 293 154 300 157 307
def c0_286:=m0 q36 565 566 567 149 284 285 568 569
def c0_287:=m1 286 283 q104 399
def c0_290:=m2 q64 578
def c0_292:=m3 q106 q126 (M 26 0)
def c0_293:=m4 q106 575 q126 576 577 151 1 288 289 290 291 292 579 580
def c0_294:=m5 q106 q126 (M 26 0) q104 399 293
def c0_297:=m13 q64 585 q113 586 q114 587
def c0_299:=m3 q107 q127 (M 26 1)
def c0_300:=m4 q107 582 q127 583 584 154 3 295 296 297 298 299 588 589
def c0_301:=m5 q107 q127 (M 26 1) q104 399 300
def c0_304:=m2 q64 594
def c0_306:=m3 q110 q128 (M 26 2)
def c0_307:=m4 q110 591 q128 592 593 157 1 302 303 304 305 306 595 596
def c0_308:=m5 q110 q128 (M 26 2) q104 399 307
def c0_310:=m18 P 570 574 149 573 q106 581 294 590 301 597 308 598 309 599
def c0_311:=Obj.mk y9 none (Data.cls (ClassData.mk q36 [vr 245] [vr 311,vr 245,vr 217,y12] 310 q36 true [] [] false none false)) (A [sr 281,none,some (vs q36 563),some (vs q36 571),some y18,some vT])
def c0_312:=m8 311
def c0_313:=m9 311
def c0_316:=Obj.mk y3 none (Data.dict (A [de P q57 609 (vs q104 399),de P q59 611 (vs q37 610),de P q60 613 (vi 159 612),de P q63 623 (vr 327),de P q105 630 (vr 334),de P q106 637 (vr 341),de P q107 643 (vr 346),de P q110 650 (vr 353),de P q61 654 (vr 354)]) 9) E
def m19(x0:Int)(x1:Nat)(x2:Int)(x3:Nat)(x4:Int)(x5:Nat)(x6:Int)(x7:Nat)(x8:Int)(x9:Nat):=Obj.mk vn none (Data.fields (A [vi x0 0,vi 4 0,vr x1,vi x2 0,vi 4 0,vr x3,vi x4 0,vi 4 0,vr x5,vi x6 0,vi 4 0,vr x7,vi x8 0,vi 4 0,vr x9])) E
def c0_318:=m19 161 326 166 333 169 340 172 345 175 352
def c0_319:=m0 q37 604 605 606 159 317 318 607 608
def c0_320:=m1 319 316 q104 399
def c0_323:=m14 q64 617 q119 618 q129 619 q130 620
def c0_325:=m3 q63 q131 (M 27 0)
def c0_326:=m4 q63 614 q131 615 616 161 4 321 322 323 324 325 621 622
def c0_327:=m5 q63 q131 (M 27 0) q104 399 326
def c0_330:=m2 q64 627
def c0_332:=m3 q105 q132 (M 27 1)
def c0_333:=m4 q105 624 q132 625 626 166 1 328 329 330 331 332 628 629
def c0_334:=m5 q105 q132 (M 27 1) q104 399 333
def c0_337:=m2 q64 634
def c0_339:=m3 q106 q133 (M 27 2)
def c0_340:=m4 q106 631 q133 632 633 169 1 335 336 337 338 339 635 636
def c0_341:=m5 q106 q133 (M 27 2) q104 399 340
def c0_344:=m3 q107 q134 (M 27 3)
def c0_345:=m12 q107 638 q134 639 640 172 3 342 343 344 641 642
def c0_346:=m5 q107 q134 (M 27 3) q104 399 345
def c0_349:=m2 q64 647
def c0_351:=m3 q110 q135 (M 27 4)
def c0_352:=m4 q110 644 q135 645 646 175 1 347 348 349 350 351 648 649
def c0_353:=m5 q110 q135 (M 27 4) q104 399 352
def c0_354:=m13 q130 651 q129 652 q119 653
def c0_355:=Obj.mk y3 none (Data.dict (A [de P q57 609 (vs q104 399),de P q60 613 (vi 159 612),de P q63 623 (vr 327),de P q105 630 (vr 334),de P q106 637 (vr 341),de P q107 643 (vr 346),de P q110 650 (vr 353),de P q61 654 (vr 354),de P q5 655 vn]) 2) E
def c0_356:=Obj.mk y9 none (Data.cls (ClassData.mk q37 [vr 217] [vr 356,vr 217,y12] 355 q37 true [] [] false none false)) (A [sr 314,none,some (vs q37 602),some (vs q37 610),some y18,some vT])
def c0_357:=m8 356
def c0_358:=m9 356
def c0_361:=Obj.mk y3 none (Data.dict (A [de P q57 665 (vs q104 399),de P q59 667 (vs q38 666),de P q60 669 (vi 177 668),de P q106 676 (vr 372),de P q107 685 (vr 379),de P q109 692 (vr 386),de P q110 699 (vr 393),de P q61 700 (vr 394)]) 8) E
def c0_363:=Obj.mk vn none (Data.fields (A [vi 179 0,vi 4 0,vr 371,vi 182 0,vi 4 0,vr 378,vi 185 0,vi 4 0,vr 385,vi 188 0,vi 4 0,vr 392])) E
def c0_364:=m0 q38 660 661 662 177 362 363 663 664
def c0_365:=m1 364 361 q104 399
def c0_368:=m2 q64 673
def c0_370:=m3 q106 q136 (M 28 0)
def c0_371:=m4 q106 670 q136 671 672 179 1 366 367 368 369 370 674 675
def c0_372:=m5 q106 q136 (M 28 0) q104 399 371
def c0_375:=m13 q64 680 q113 681 q114 682
def c0_377:=m3 q107 q137 (M 28 1)
def c0_378:=m4 q107 677 q137 678 679 182 3 373 374 375 376 377 683 684
def c0_379:=m5 q107 q137 (M 28 1) q104 399 378
def c0_382:=m2 q64 689
def c0_384:=m3 q109 q138 (M 28 2)
def c0_385:=m4 q109 686 q138 687 688 185 1 380 381 382 383 384 690 691
def c0_386:=m5 q109 q138 (M 28 2) q104 399 385
def c0_389:=m2 q64 696
def c0_391:=m3 q110 q139 (M 28 3)
def c0_392:=m4 q110 693 q139 694 695 188 1 387 388 389 390 391 697 698
def c0_393:=m5 q110 q139 (M 28 3) q104 399 392
def c0_395:=Obj.mk y3 none (Data.dict (A [de P q57 665 (vs q104 399),de P q60 669 (vi 177 668),de P q106 676 (vr 372),de P q107 685 (vr 379),de P q109 692 (vr 386),de P q110 699 (vr 393),de P q61 700 (vr 394),de P q5 701 vn]) 2) E
def c0_396:=Obj.mk y9 none (Data.cls (ClassData.mk q38 [vr 245] [vr 396,vr 245,vr 217,y12] 395 q38 true [] [] false none false)) (A [sr 359,none,some (vs q38 658),some (vs q38 666),some y18,some vT])
def c0_397:=m8 396
def c0_398:=m9 396
def c0_401:=Obj.mk y3 none (Data.dict (A [de P q57 711 (vs q104 399),de P q59 713 (vs q39 712),de P q60 715 (vi 190 714),de P q63 725 (vr 412),de P q106 732 (vr 419),de P q107 741 (vr 426),de P q108 749 (vr 433),de P q110 756 (vr 440),de P q61 758 (vr 441)]) 9) E
def c0_403:=m19 192 411 196 418 199 425 202 432 205 439
def c0_404:=m0 q39 706 707 708 190 402 403 709 710
def c0_405:=m1 404 401 q104 399
def c0_408:=m14 q64 719 q119 720 q120 721 q140 722
def c0_410:=m3 q63 q141 (M 29 0)
def c0_411:=m4 q63 716 q141 717 718 192 4 406 407 408 409 410 723 724
def c0_412:=m5 q63 q141 (M 29 0) q104 399 411
def c0_415:=m2 q64 729
def c0_417:=m3 q106 q142 (M 29 1)
def c0_418:=m4 q106 726 q142 727 728 196 1 413 414 415 416 417 730 731
def c0_419:=m5 q106 q142 (M 29 1) q104 399 418
def c0_422:=m13 q64 736 q113 737 q114 738
def c0_424:=m3 q107 q143 (M 29 2)
def c0_425:=m4 q107 733 q143 734 735 199 3 420 421 422 423 424 739 740
def c0_426:=m5 q107 q143 (M 29 2) q104 399 425
def c0_429:=m11 q64 745 q114 746
def c0_431:=m3 q108 q144 (M 29 3)
def c0_432:=m4 q108 742 q144 743 744 202 2 427 428 429 430 431 747 748
def c0_433:=m5 q108 q144 (M 29 3) q104 399 432
def c0_436:=m2 q64 753
def c0_438:=m3 q110 q145 (M 29 4)
def c0_439:=m4 q110 750 q145 751 752 205 1 434 435 436 437 438 754 755
def c0_440:=m5 q110 q145 (M 29 4) q104 399 439
def c0_441:=m2 q140 757
def c0_442:=Obj.mk y3 none (Data.dict (A [de P q57 711 (vs q104 399),de P q60 715 (vi 190 714),de P q63 725 (vr 412),de P q106 732 (vr 419),de P q107 741 (vr 426),de P q108 749 (vr 433),de P q110 756 (vr 440),de P q61 758 (vr 441),de P q5 759 vn]) 2) E
def c0_443:=Obj.mk y9 none (Data.cls (ClassData.mk q39 [vr 245] [vr 443,vr 245,vr 217,y12] 442 q39 true [] [] false none false)) (A [sr 399,none,some (vs q39 704),some (vs q39 712),some y18,some vT])
def c0_444:=m8 443
def c0_445:=m9 443
def c0_448:=m16 P 769 771 q40 770 773 207 772 q63 781 459 790 466 797 473 799 474
def c0_450:=m17 209 458 212 465 215 472
def c0_451:=m0 q40 764 765 766 207 449 450 767 768
def c0_452:=m1 451 448 q104 399
def c0_455:=m11 q64 777 q140 778
def c0_457:=m3 q63 q146 (M 30 0)
def c0_458:=m4 q63 774 q146 775 776 209 2 453 454 455 456 457 779 780
def c0_459:=m5 q63 q146 (M 30 0) q104 399 458
def c0_462:=m13 q64 785 q113 786 q114 787
def c0_464:=m3 q107 q147 (M 30 1)
def c0_465:=m4 q107 782 q147 783 784 212 3 460 461 462 463 464 788 789
def c0_466:=m5 q107 q147 (M 30 1) q104 399 465
def c0_469:=m2 q64 794
def c0_471:=m3 q110 q148 (M 30 2)
def c0_472:=m4 q110 791 q148 792 793 215 1 467 468 469 470 471 795 796
def c0_473:=m5 q110 q148 (M 30 2) q104 399 472
def c0_474:=m2 q140 798
def c0_475:=m18 P 769 773 207 772 q63 781 459 790 466 797 473 799 474 800
def c0_476:=Obj.mk y9 none (Data.cls (ClassData.mk q40 [vr 217] [vr 476,vr 217,y12] 475 q40 true [] [] false none false)) (A [sr 446,none,some (vs q40 762),some (vs q40 770),some y18,some vT])
def c0_477:=m8 476
def c0_478:=m9 476
def c0_481:=m16 P 810 812 q41 811 814 217 813 q63 822 492 831 499 838 506 840 507
def c0_483:=m17 219 491 222 498 227 505
def c0_484:=m0 q41 805 806 807 217 482 483 808 809
def c0_485:=m1 484 481 q104 399
def c0_488:=m11 q64 818 q140 819
def c0_490:=m3 q63 q149 (M 31 0)
def c0_491:=m4 q63 815 q149 816 817 219 2 486 487 488 489 490 820 821
def c0_492:=m5 q63 q149 (M 31 0) q104 399 491
def c0_495:=m13 q64 826 q113 827 q114 828
def c0_497:=m3 q107 q150 (M 31 1)
def c0_498:=m4 q107 823 q150 824 825 222 3 493 494 495 496 497 829 830
def c0_499:=m5 q107 q150 (M 31 1) q104 399 498
def c0_502:=m2 q64 835
def c0_504:=m3 q110 q151 (M 31 2)
def c0_505:=m4 q110 832 q151 833 834 227 1 500 501 502 503 504 836 837
def c0_506:=m5 q110 q151 (M 31 2) q104 399 505
def c0_507:=m2 q140 839
def c0_508:=m18 P 810 814 217 813 q63 822 492 831 499 838 506 840 507 841
def c0_509:=Obj.mk y9 none (Data.cls (ClassData.mk q41 [vr 217] [vr 509,vr 217,y12] 508 q41 true [] [] false none false)) (A [sr 479,none,some (vs q41 803),some (vs q41 811),some y18,some vT])
def c0_510:=m8 509
def c0_511:=m9 509
def c0_514:=m3 q42 q42 (B 32)
def c0_515:=m12 q42 844 q42 845 846 229 2 512 513 514 847 848
def c0_516:=m5 q42 q42 (B 32) q104 399 515
def c0_519:=m3 q43 q43 (B 33)
def c0_520:=m12 q43 850 q43 851 852 231 1 517 518 519 853 854
def c0_521:=m5 q43 q43 (B 33) q104 399 520
def c0_524:=m13 q152 859 q153 860 q70 861
def c0_526:=m3 q44 q44 (B 34)
def c0_527:=m4 q44 856 q44 857 858 237 2 522 523 524 525 526 862 863
def c0_528:=m5 q44 q44 (B 34) q104 399 527
def c0_531:=m11 q152 868 q154 869
def c0_533:=m3 q45 q45 (B 35)
def c0_534:=m4 q45 865 q45 866 867 247 2 529 530 531 532 533 870 871
def c0_535:=m5 q45 q45 (B 35) q104 399 534
def c0_538:=m13 q119 876 q129 877 q130 878
def c0_540:=m3 q46 q46 (B 36)
def c0_541:=m4 q46 873 q46 874 875 261 3 536 537 538 539 540 879 880
def c0_542:=m5 q46 q46 (B 36) q104 399 541
def c0_543:=m11 q155 884 q156 885
def c0_546:=Obj.mk y3 none (Data.dict (A [de P q57 896 (vs q157 882),de P q59 898 (vs q49 897),de P q60 900 (vi 268 899),de P q63 909 (vr 557),de P q110 915 (vr 562),de P q61 919 (vr 563)]) 6) E
def c0_548:=Obj.mk vn none (Data.fields (A [vi 270 0,vi 4 0,vr 556,vi 275 0,vi 4 0,vr 561])) E
def c0_549:=m0 q49 891 892 893 268 547 548 894 895
def c0_550:=m1 549 546 q157 882
def c0_553:=m13 q64 904 q158 905 q159 906
def c0_555:=m3 q63 q160 (M 40 0)
def c0_556:=m4 q63 901 q160 902 903 270 3 551 552 553 554 555 907 908
def c0_557:=m5 q63 q160 (M 40 0) q157 882 556
def c0_560:=m3 q110 q161 (M 40 1)
def c0_561:=m12 q110 910 q161 911 912 275 1 558 559 560 913 914
def c0_562:=m5 q110 q161 (M 40 1) q157 882 561
def c0_563:=m13 q158 916 q81 917 q159 918
def c0_564:=Obj.mk y3 none (Data.dict (A [de P q57 896 (vs q157 882),de P q60 900 (vi 268 899),de P q63 909 (vr 557),de P q110 915 (vr 562),de P q61 919 (vr 563),de P q92 921 (vr 566),de P q62 923 (vr 567),de P q5 924 vn]) 4) E
def c0_565:=Obj.mk y9 none (Data.cls (ClassData.mk q49 [y12] [vr 565,y12] 564 q49 true [] [] false none false)) (A [none,none,some (vs q49 889),some (vs q49 897),some y18,some vT])
def c0_566:=m15 920 565
def c0_567:=m7 922 565
def c0_568:=m8 565
def c0_569:=m9 565
def c0_572:=m3 q50 q50 (B 41)
def c0_573:=m12 q50 927 q50 928 929 277 1 570 571 572 930 931
def c0_574:=m5 q50 q50 (B 41) q157 882 573
def c0_577:=m11 q76 936 q70 937
def c0_579:=m3 q51 q51 (B 42)
def c0_580:=m4 q51 933 q51 934 935 285 2 575 576 577 578 579 938 939
def c0_581:=m5 q51 q51 (B 42) q157 882 580
def c0_584:=m3 q52 q52 (B 43)
def c0_585:=m12 q52 941 q52 942 943 290 1 582 583 584 944 945
def c0_586:=m5 q52 q52 (B 43) q157 882 585
def c0_589:=m11 q162 950 q56 951
def c0_591:=m3 q53 q53 (B 44)
def c0_592:=m4 q53 947 q53 948 949 292 1 587 588 589 590 591 952 953
def c0_593:=m5 q53 q53 (B 44) q157 882 592
def c0_596:=Obj.mk y3 none (Data.dict (A [de P q57 966 (vs q4 955),de P q59 968 (vs q55 967),de P q60 970 (vi 299 969),de P q63 979 (vr 607),de P q163 987 (vr 614),de P q164 995 (vr 621),de P q165 1004 (vr 628),de P q166 1015 (vr 635),de P q167 1023 (vr 642),de P q168 1031 (vr 649),de P q169 1039 (vr 656),de P q170 1047 (vr 663),de P q171 1055 (vr 670),de P q172 1062 (vr 677),de P q173 1069 (vr 684),de P q174 1080 (vr 691),de P q175 1088 (vr 698),de P q61 1096 (vr 699)]) 18) E
def c0_598:=Obj.mk vn none (Data.fields (A [vi 301 0,vi 4 0,vr 606,vi 310 0,vi 4 0,vr 613,vi 320 0,vi 4 0,vr 620,vi 327 0,vi 4 0,vr 627,vi 334 0,vi 4 0,vr 634,vi 337 0,vi 4 0,vr 641,vi 340 0,vi 4 0,vr 648,vi 343 0,vi 4 0,vr 655,vi 346 0,vi 4 0,vr 662,vi 350 0,vi 4 0,vr 669,vi 359 0,vi 4 0,vr 676,vi 364 0,vi 4 0,vr 683,vi 367 0,vi 4 0,vr 690,vi 372 0,vi 4 0,vr 697])) E
def c0_599:=m0 q55 961 962 963 299 597 598 964 965
def c0_600:=m1 599 596 q4 955
def c0_603:=m13 q64 974 q176 975 q162 976
def c0_605:=m3 q63 q177 (M 47 0)
def c0_606:=m4 q63 971 q177 972 973 301 3 601 602 603 604 605 977 978
def c0_607:=m5 q63 q177 (M 47 0) q4 955 606
def c0_610:=m11 q64 983 q178 984
def c0_612:=m3 q163 q179 (M 47 1)
def c0_613:=m4 q163 980 q179 981 982 310 2 608 609 610 611 612 985 986
def c0_614:=m5 q163 q179 (M 47 1) q4 955 613
def c0_617:=m11 q64 991 q178 992
def c0_619:=m3 q164 q180 (M 47 2)
def c0_620:=m4 q164 988 q180 989 990 320 2 615 616 617 618 619 993 994
def c0_621:=m5 q164 q180 (M 47 2) q4 955 620
def c0_624:=m13 q64 999 q178 1000 q181 1001
def c0_626:=m3 q165 q182 (M 47 3)
def c0_627:=m4 q165 996 q182 997 998 327 3 622 623 624 625 626 1002 1003
def c0_628:=m5 q165 q182 (M 47 3) q4 955 627
def m20(x0:Nat)(x1:Str)(x2:Nat)(x3:Nat)(x4:Str)(x5:Nat)(x6:Str)(x7:Nat):=Obj.mk y0 none (Data.seq (A [vs q64 x0,vs x1 x2,vs q152 x3,vs x4 x5,vs x6 x7]) 0) E
def c0_631:=m20 1008 q178 1009 1010 q183 1011 q184 1012
def c0_633:=m3 q166 q185 (M 47 4)
def c0_634:=m4 q166 1005 q185 1006 1007 334 5 629 630 631 632 633 1013 1014
def c0_635:=m5 q166 q185 (M 47 4) q4 955 634
def c0_638:=m11 q64 1019 q178 1020
def c0_640:=m3 q167 q186 (M 47 5)
def c0_641:=m4 q167 1016 q186 1017 1018 337 2 636 637 638 639 640 1021 1022
def c0_642:=m5 q167 q186 (M 47 5) q4 955 641
def c0_645:=m11 q64 1027 q178 1028
def c0_647:=m3 q168 q187 (M 47 6)
def c0_648:=m4 q168 1024 q187 1025 1026 340 2 643 644 645 646 647 1029 1030
def c0_649:=m5 q168 q187 (M 47 6) q4 955 648
def c0_652:=m11 q64 1035 q178 1036
def c0_654:=m3 q169 q188 (M 47 7)
def c0_655:=m4 q169 1032 q188 1033 1034 343 2 650 651 652 653 654 1037 1038
def c0_656:=m5 q169 q188 (M 47 7) q4 955 655
def c0_659:=m11 q64 1043 q181 1044
def c0_661:=m3 q170 q189 (M 47 8)
def c0_662:=m4 q170 1040 q189 1041 1042 346 2 657 658 659 660 661 1045 1046
def c0_663:=m5 q170 q189 (M 47 8) q4 955 662
def c0_666:=m11 q64 1051 q190 1052
def c0_668:=m3 q171 q191 (M 47 9)
def c0_669:=m4 q171 1048 q191 1049 1050 350 1 664 665 666 667 668 1053 1054
def c0_670:=m5 q171 q191 (M 47 9) q4 955 669
def c0_673:=m2 q64 1059
def c0_675:=m3 q172 q192 (M 47 10)
def c0_676:=m4 q172 1056 q192 1057 1058 359 1 671 672 673 674 675 1060 1061
def c0_677:=m5 q172 q192 (M 47 10) q4 955 676
def c0_680:=m2 q64 1066
def c0_682:=m3 q173 q193 (M 47 11)
def c0_683:=m4 q173 1063 q193 1064 1065 364 1 678 679 680 681 682 1067 1068
def c0_684:=m5 q173 q193 (M 47 11) q4 955 683
def c0_687:=m20 1073 q178 1074 1075 q70 1076 q76 1077
def c0_689:=m3 q174 q194 (M 47 12)
def c0_690:=m4 q174 1070 q194 1071 1072 367 3 685 686 687 688 689 1078 1079
def c0_691:=m5 q174 q194 (M 47 12) q4 955 690
def c0_694:=m11 q64 1084 q184 1085
def c0_696:=m3 q175 q195 (M 47 13)
def c0_697:=m4 q175 1081 q195 1082 1083 372 2 692 693 694 695 696 1086 1087
def c0_698:=m5 q175 q195 (M 47 13) q4 955 697
def c0_699:=Obj.mk y0 none (Data.seq (A [vs q196 1089,vs q197 1090,vs q198 1091,vs q176 1092,vs q199 1093,vs q159 1094,vs q200 1095]) 0) E
def c0_700:=Obj.mk y3 none (Data.dict (A [de P q57 966 (vs q4 955),de P q60 970 (vi 299 969),de P q63 979 (vr 607),de P q163 987 (vr 614),de P q164 995 (vr 621),de P q165 1004 (vr 628),de P q166 1015 (vr 635),de P q167 1023 (vr 642),de P q168 1031 (vr 649),de P q169 1039 (vr 656),de P q170 1047 (vr 663),de P q171 1055 (vr 670),de P q172 1062 (vr 677),de P q173 1069 (vr 684),de P q174 1080 (vr 691),de P q175 1088 (vr 698),de P q61 1096 (vr 699),de P q92 1098 (vr 702),de P q62 1100 (vr 703),de P q5 1101 vn]) 4) E
def c0_701:=Obj.mk y9 none (Data.cls (ClassData.mk q55 [y12] [vr 701,y12] 700 q55 true [] [] false none false)) (A [none,none,some (vs q55 959),some (vs q55 967),some y18,some vT])
def c0_702:=m15 1097 701
def c0_703:=m7 1099 701
def c0_704:=m8 701
def c0_705:=m9 701
def tc0_:=nd (boot_o_0 P) (nd (boot_o_1 P) (nd (c0_3 P) (nd (boot_o_7 P) (nd a11 (nd c0_31 (nd c0_63 (nd c0_127 (nd a11 (l1 c0_511) .nil) (nd a11 (l1 a11) .nil)) (nd c0_191 (nd c0_319 (l1 a11) .nil) (nd c0_23 (l1 c0_703) .nil))) (nd a11 (nd (c0_159 P) (nd c0_287 (l1 c0_543) .nil) (nd c0_415 (l1 a11) .nil)) (nd c0_23 (nd c0_351 (l1 c0_607) .nil) (l1 c0_222)))) (nd c0_35 (nd a12 (nd c0_143 (nd c0_271 (l1 c0_527) .nil) (nd c0_248 (l1 c0_655) .nil)) (nd c0_207 (nd a11 (l1 c0_591) .nil) (l1 a11))) (nd c0_111 (nd c0_175 (nd a12 (l1 a12) .nil) (nd c0_431 (l1 c0_687) .nil)) (nd a11 (nd a12 (l1 a12) .nil) (l1 c0_495))))) (nd c0_23 (nd a12 (nd c0_71 (nd c0_135 (nd a12 (l1 c0_519) .nil) (nd c0_391 (l1 c0_647) .nil)) (nd c0_199 (nd c0_327 (l1 a12) .nil) (l1 c0_455))) (nd c0_23 (nd c0_23 (nd a11 (l1 a11) .nil) (nd a11 (l1 a12) .nil)) (nd c0_231 (nd c0_248 (l1 a11) .nil) (l1 a12)))) (nd (c0_55 P) (nd c0_87 (nd a11 (nd c0_279 (l1 c0_535) .nil) (nd a12 (l1 c0_663) .nil)) (nd a11 (nd a12 (l1 c0_599) .nil) (l1 c0_471))) (nd a11 (nd a11 (nd c0_311 (l1 c0_567) .nil) (nd c0_439 (l1 a11) .nil)) (nd c0_247 (nd c0_375 (l1 c0_631) .nil) (l1 a11)))))) (nd a11 (nd c0_19 (nd c0_35 (nd a12 (nd a12 (nd c0_259 (l1 c0_515) .nil) (nd a11 (l1 a11) .nil)) (nd a12 (nd c0_323 (l1 c0_579) .nil) (l1 c0_451))) (nd c0_99 (nd c0_163 (nd a11 (l1 a11) .nil) (nd c0_419 (l1 c0_675) .nil)) (nd c0_227 (nd (c0_355 P) (l1 a11) .nil) (l1 c0_483)))) (nd a12 (nd c0_83 (nd a11 (nd c0_275 (l1 c0_531) .nil) (nd c0_403 (l1 c0_659) .nil)) (nd a11 (nd c0_339 (l1 c0_23) .nil) (l1 a11))) (nd c0_115 (nd c0_179 (nd c0_307 (l1 c0_563) .nil) (nd a12 (l1 c0_691) .nil)) (nd c0_243 (nd c0_371 (l1 c0_627) .nil) (l1 c0_499))))) (nd c0_27 (nd (c0_43 P) (nd c0_75 (nd c0_139 (nd c0_267 (l1 a12) .nil) (nd (c0_395 P) (l1 a12) .nil)) (nd c0_203 (nd a11 (l1 a11) .nil) (l1 c0_459))) (nd c0_107 (nd c0_171 (nd c0_299 (l1 c0_555) .nil) (nd a11 (l1 c0_683) .nil)) (nd c0_235 (nd c0_363 (l1 c0_619) .nil) (l1 c0_491)))) (nd c0_35 (nd a12 (nd c0_155 (nd (c0_283 P) (l1 a11) .nil) (nd c0_411 (l1 a11) .nil)) (nd c0_219 (nd a11 (l1 c0_603) .nil) (l1 (c0_475 P)))) (nd a11 (nd a11 (nd c0_23 (l1 a12) .nil) (nd c0_443 (l1 c0_699) .nil)) (nd a11 (nd c0_379 (l1 c0_635) .nil) (l1 c0_507))))))) (nd (boot_o_5 P) (nd (boot_o_9 P) (nd c0_17 (nd c0_33 (nd c0_65 (nd c0_129 (nd c0_257 (l1 a12) .nil) (nd c0_385 (l1 c0_641) .nil)) (nd c0_193 (nd a11 (l1 c0_577) .nil) (nd a11 (l1 c0_705) .nil))) (nd c0_97 (nd c0_161 (nd a12 (l1 c0_23) .nil) (nd c0_417 (l1 c0_673) .nil)) (nd a11 (nd c0_353 (l1 a12) .nil) (l1 (c0_481 P))))) (nd (c0_49 P) (nd a11 (nd a12 (nd c0_273 (l1 a11) .nil) (nd (c0_401 P) (l1 a11) .nil)) (nd a12 (nd c0_337 (l1 c0_593) .nil) (l1 c0_465))) (nd c0_113 (nd c0_177 (nd a11 (l1 c0_561) .nil) (nd c0_433 (l1 c0_689) .nil)) (nd c0_241 (nd a11 (l1 a11) .nil) (l1 c0_497))))) (nd a11 (nd c0_41 (nd c0_73 (nd a11 (nd a11 (l1 c0_521) .nil) (nd c0_393 (l1 c0_649) .nil)) (nd a11 (nd a12 (l1 c0_585) .nil) (l1 c0_457))) (nd a11 (nd a11 (nd c0_297 (l1 c0_553) .nil) (nd c0_425 (l1 a11) .nil)) (nd c0_233 (nd (c0_361 P) (l1 c0_617) .nil) (l1 a11)))) (nd c0_57 (nd c0_89 (nd c0_153 (nd c0_248 (l1 a12) .nil) (nd a11 (l1 a12) .nil)) (nd c0_217 (nd c0_345 (l1 a11) .nil) (l1 c0_473))) (nd c0_121 (nd c0_185 (nd c0_313 (l1 c0_569) .nil) (nd c0_441 (l1 c0_697) .nil)) (nd c0_23 (nd c0_377 (l1 c0_633) .nil) (l1 c0_505)))))) (nd a13 (nd c0_21 (nd (c0_37 P) (nd a11 (nd a11 (nd c0_261 (l1 a11) .nil) (nd c0_389 (l1 c0_645) .nil)) (nd a11 (nd c0_325 (l1 c0_581) .nil) (l1 a11))) (nd c0_101 (nd (c0_165 P) (nd c0_293 (l1 c0_549) .nil) (nd a12 (l1 c0_677) .nil)) (nd a11 (nd c0_357 (l1 c0_613) .nil) (l1 c0_485)))) (nd c0_53 (nd a11 (nd c0_149 (nd (c0_277 P) (l1 c0_533) .nil) (nd c0_405 (l1 c0_661) .nil)) (nd c0_213 (nd c0_341 (l1 a11) .nil) (l1 c0_469))) (nd a12 (nd a12 (nd a11 (l1 c0_565) .nil) (nd a11 (l1 a12) .nil)) (nd c0_245 (nd a11 (l1 a11) .nil) (l1 a12))))) (nd a11 (nd c0_45 (nd c0_77 (nd c0_141 (nd a11 (l1 a11) .nil) (nd c0_397 (l1 a11) .nil)) (nd c0_205 (nd c0_333 (l1 c0_589) .nil) (l1 a12))) (nd a11 (nd a11 (nd c0_301 (l1 c0_557) .nil) (nd c0_429 (l1 a11) .nil)) (nd a12 (nd c0_365 (l1 c0_621) .nil) (l1 a11)))) (nd (c0_61 P) (nd c0_93 (nd c0_157 (nd c0_285 (l1 c0_541) .nil) (nd a11 (l1 c0_669) .nil)) (nd c0_221 (nd c0_349 (l1 c0_605) .nil) (l1 c0_477))) (nd c0_125 (nd c0_189 (nd a11 (l1 c0_573) .nil) (nd c0_445 (l1 c0_701) .nil)) (nd c0_253 (nd a12 (l1 a12) .nil) (l1 c0_509)))))))) (nd (boot_o_2 P) (nd (boot_o_4 P) (nd (boot_o_8 P) (nd a12 (nd c0_32 (nd c0_64 (nd c0_128 (nd a12 (l1 a11) .nil) (nd c0_384 (l1 c0_640) .nil)) (nd c0_192 (nd c0_320 (l1 a12) .nil) (nd (c0_448 P) (l1 c0_704) .nil))) (nd a12 (nd c0_160 (nd a11 (l1 a11) .nil) (nd a11 (l1 a12) .nil)) (nd (c0_224 P) (nd c0_352 (l1 a11) .nil) (l1 c0_23)))) (nd c0_23 (nd c0_80 (nd a11 (nd a11 (l1 c0_528) .nil) (nd c0_23 (l1 c0_656) .nil)) (nd a11 (nd a12 (l1 c0_592) .nil) (l1 c0_464))) (nd a11 (nd a11 (nd c0_304 (l1 c0_560) .nil) (nd c0_432 (l1 a11) .nil)) (nd c0_240 (nd c0_368 (l1 c0_624) .nil) (l1 a11))))) (nd (c0_24 P) (nd c0_40 (nd c0_72 (nd c0_136 (nd c0_264 (l1 c0_520) .nil) (nd c0_392 (l1 c0_648) .nil)) (nd c0_200 (nd a11 (l1 c0_584) .nil) (l1 a11))) (nd (c0_104 P) (nd (c0_168 P) (nd a12 (l1 a12) .nil) (nd c0_424 (l1 c0_680) .nil)) (nd a11 (nd c0_23 (l1 a12) .nil) (l1 c0_488)))) (nd c0_56 (nd c0_88 (nd a12 (nd c0_280 (l1 a11) .nil) (nd c0_408 (l1 a11) .nil)) (nd (c0_216 P) (nd c0_344 (l1 c0_600) .nil) (l1 c0_472))) (nd c0_120 (nd c0_184 (nd c0_312 (l1 c0_568) .nil) (nd c0_440 (l1 c0_696) .nil)) (nd c0_248 (nd a11 (l1 a11) .nil) (l1 c0_504)))))) (nd c0_12 (nd c0_20 (nd c0_23 (nd c0_68 (nd c0_132 (nd c0_260 (l1 c0_516) .nil) (nd a12 (l1 a12) .nil)) (nd c0_196 (nd a11 (l1 c0_580) .nil) (l1 c0_452))) (nd c0_100 (nd c0_164 (nd c0_292 (l1 c0_548) .nil) (nd a11 (l1 c0_676) .nil)) (nd c0_228 (nd c0_356 (l1 c0_612) .nil) (l1 c0_484)))) (nd c0_52 (nd c0_84 (nd c0_148 (nd a11 (l1 a11) .nil) (nd c0_404 (l1 a11) .nil)) (nd c0_212 (nd c0_340 (l1 (c0_596 P)) .nil) (l1 a12))) (nd a11 (nd a11 (nd c0_308 (l1 (c0_564 P)) .nil) (nd c0_436 (l1 a11) .nil)) (nd (c0_244 P) (nd c0_372 (l1 c0_628) .nil) (l1 a11))))) (nd c0_28 (nd c0_44 (nd c0_76 (nd a11 (nd c0_268 (l1 c0_524) .nil) (nd c0_396 (l1 c0_652) .nil)) (nd a11 (nd c0_332 (l1 a12) .nil) (l1 a11))) (nd c0_108 (nd c0_172 (nd c0_300 (l1 c0_556) .nil) (nd a12 (l1 c0_684) .nil)) (nd a11 (nd c0_364 (l1 c0_620) .nil) (l1 c0_492)))) (nd c0_23 (nd c0_92 (nd c0_156 (nd a11 (l1 c0_540) .nil) (nd c0_412 (l1 c0_668) .nil)) (nd c0_220 (nd a12 (l1 a11) .nil) (l1 c0_476))) (nd a12 (nd a12 (nd (c0_316 P) (l1 c0_572) .nil) (nd c0_444 (l1 (c0_700 P)) .nil)) (nd c0_252 (nd a11 (l1 a11) .nil) (l1 (c0_508 P)))))))) (nd (boot_o_6 P) (nd (boot_o_10 P) (nd a11 (nd c0_34 (nd a11 (nd a11 (nd a11 (l1 c0_514) .nil) (nd c0_386 (l1 c0_642) .nil)) (nd a11 (nd a12 (l1 a11) .nil) (l1 c0_450))) (nd a11 (nd c0_162 (nd c0_290 (l1 (c0_546 P)) .nil) (nd c0_418 (l1 a11) .nil)) (nd c0_226 (nd c0_354 (l1 c0_610) .nil) (l1 a11)))) (nd a11 (nd c0_82 (nd c0_146 (nd c0_274 (l1 a12) .nil) (nd a11 (l1 a12) .nil)) (nd c0_210 (nd a11 (l1 a11) .nil) (l1 c0_466))) (nd c0_114 (nd c0_178 (nd c0_306 (l1 c0_562) .nil) (nd a11 (l1 c0_690) .nil)) (nd c0_242 (nd c0_370 (l1 c0_626) .nil) (l1 c0_498))))) (nd a12 (nd a11 (nd (c0_74 P) (nd a12 (nd c0_266 (l1 a11) .nil) (nd a11 (l1 a11) .nil)) (nd a12 (nd c0_330 (l1 c0_586) .nil) (l1 c0_458))) (nd c0_106 (nd c0_170 (nd a11 (l1 a11) .nil) (nd c0_426 (l1 c0_682) .nil)) (nd c0_234 (nd a11 (l1 a11) .nil) (l1 c0_490)))) (nd c0_58 (nd a11 (nd a11 (nd c0_23 (l1 c0_538) .nil) (nd c0_410 (l1 c0_666) .nil)) (nd c0_218 (nd c0_346 (l1 a12) .nil) (l1 c0_474))) (nd c0_122 (nd c0_186 (nd c0_222 (l1 a11) .nil) (nd (c0_442 P) (l1 c0_698) .nil)) (nd (c0_250 P) (nd c0_378 (l1 c0_634) .nil) (l1 c0_506)))))) (nd a14 (nd c0_22 (nd a11 (nd c0_70 (nd c0_134 (nd a11 (l1 a12) .nil) (nd a11 (l1 a11) .nil)) (nd c0_198 (nd c0_326 (l1 a11) .nil) (l1 a12))) (nd a11 (nd a11 (nd c0_294 (l1 c0_550) .nil) (nd c0_422 (l1 a11) .nil)) (nd a12 (nd c0_358 (l1 c0_614) .nil) (l1 a11)))) (nd a11 (nd a12 (nd c0_150 (nd c0_278 (l1 c0_534) .nil) (nd a11 (l1 c0_662) .nil)) (nd c0_214 (nd a11 (l1 c0_598) .nil) (l1 a11))) (nd c0_118 (nd c0_182 (nd (c0_310 P) (l1 c0_566) .nil) (nd c0_438 (l1 c0_694) .nil)) (nd c0_246 (nd a12 (l1 a12) .nil) (l1 c0_502))))) (nd (c0_30 P) (nd c0_46 (nd a11 (nd c0_142 (nd a12 (l1 c0_526) .nil) (nd c0_398 (l1 c0_654) .nil)) (nd c0_206 (nd c0_334 (l1 a11) .nil) (l1 c0_462))) (nd a12 (nd a12 (nd a11 (l1 a11) .nil) (nd a11 (l1 a12) .nil)) (nd c0_238 (nd a11 (l1 a11) .nil) (l1 a12)))) (nd a11 (nd c0_94 (nd c0_158 (nd c0_286 (l1 c0_542) .nil) (nd a12 (l1 c0_670) .nil)) (nd c0_222 (nd a11 (l1 c0_606) .nil) (l1 c0_478))) (nd a11 (nd a11 (nd c0_318 (l1 c0_574) .nil) (nd c0_222 (l1 c0_702) .nil)) (nd c0_254 (nd c0_382 (l1 c0_638) .nil) (l1 c0_510))))))))
def c1_3:=Obj.mk y3 none (Data.dict (A [de P q3 165 (vs q201 1402),de P q5 166 vn,de P q6 167 vn,de P q7 168 y4,de P q8 169 vn,de P q9 170 (vr 6),de P q10 171 (vr 4),de P q11 173 (vs q1 172),de P q12 174 vn,de P q13 193 (vr 21),de P q14 213 (vr 31),de P q15 229 (vr 44),de P q16 245 (vr 56),de P q17 270 (vr 75),de P q18 274 (vi 400 273),de P q19 276 (vi 2000 275),de P q20 278 (vi 2000 277),de P q21 280 (vi 8 279),de P q22 282 (vi 100000 281),de P q23 284 (vi 32 283),de P q24 286 (vi 37 285),de P q25 288 (vi 126 287),de P q26 295 (vr 84),de P q27 301 (vr 89),de P q28 307 (vr 94),de P q29 315 (vr 101),de P q30 398 (vr 160),de P q31 402 (vi 40 401),de P q32 424 (vr 165),de P q33 489 (vr 217),de P q34 523 (vr 245),de P q35 562 (vr 278),de P q36 601 (vr 311),de P q37 657 (vr 356),de P q38 703 (vr 396),de P q39 761 (vr 443),de P q40 802 (vr 476),de P q41 843 (vr 509),de P q42 849 (vr 516),de P q43 855 (vr 521),de P q44 864 (vr 528),de P q45 872 (vr 535),de P q46 881 (vr 542),de P q47 886 (vr 543),de P q48 888 (vi 12 887),de P q49 926 (vr 565),de P q50 932 (vr 574),de P q51 940 (vr 581),de P q52 946 (vr 586),de P q53 954 (vr 593),de P q54 958 (vi 4 957),de P q55 1103 (vr 701),de P q202 1205 (vr 783),de P q203 1212 (vr 792),de P q204 1278 (vr 835),de P q205 1401 (vr 933),de P q206 1411 (vr 944),de P q207 1418 (vr 951),de P q208 1433 (vr 958),de P q209 1445 (vr 965),de P q210 1452 (vr 972),de P q211 1464 (vr 979),de P q212 1470 (vr 984),de P q213 1480 (vr 991),de P q214 1490 (vr 998),de P q215 1502 (vr 1005),de P q216 1508 (vr 1010)]) 67) E
def c1_12:=Obj.mk vn none (Data.fields (A [vi 1 0,vi 0 0,vr 20,vi 5 0,vi 0 0,vr 27,vi 7 0,vi 0 0,vr 40,vi 9 0,vi 0 0,vr 52,vi 11 0,vi 0 0,vr 64,vi 24 0,vi 0 0,vr 83,vi 26 0,vi 0 0,vr 88,vi 32 0,vi 0 0,vr 93,vi 42 0,vi 0 0,vr 100,vi 45 0,vi 0 0,vr 107,vi 112 0,vi 0 0,vr 171,vi 131 0,vi 0 0,vr 227,vi 139 0,vi 0 0,vr 253,vi 149 0,vi 0 0,vr 286,vi 159 0,vi 0 0,vr 319,vi 177 0,vi 0 0,vr 364,vi 190 0,vi 0 0,vr 404,vi 207 0,vi 0 0,vr 451,vi 217 0,vi 0 0,vr 484,vi 229 0,vi 0 0,vr 515,vi 231 0,vi 0 0,vr 520,vi 237 0,vi 0 0,vr 527,vi 247 0,vi 0 0,vr 534,vi 261 0,vi 0 0,vr 541,vi 268 0,vi 0 0,vr 549,vi 277 0,vi 0 0,vr 573,vi 285 0,vi 0 0,vr 580,vi 290 0,vi 0 0,vr 585,vi 292 0,vi 0 0,vr 592,vi 299 0,vi 0 0,vr 599,vi 374 0,vi 0 0,vr 711,vi 429 0,vi 0 0,vr 791,vi 432 0,vi 0 0,vr 798,vi 455 0,vi 0 0,vr 845,vi 517 0,vi 0 0,vr 943,vi 521 0,vi 0 0,vr 950,vi 523 0,vi 0 0,vr 957,vi 543 0,vi 0 0,vr 964,vi 552 0,vi 0 0,vr 971,vi 556 0,vi 0 0,vr 978,vi 566 0,vi 0 0,vr 983,vi 585 0,vi 0 0,vr 990,vi 593 0,vi 0 0,vr 997,vi 598 0,vi 0 0,vr 1004,vi 607 0,vi 0 0,vr 1009])) E
def c1_701:=Obj.mk y9 none (Data.cls (ClassData.mk q55 [y12] [vr 701,y12] 700 q55 true [] [vr 783] false none false)) (A [none,none,some (vs q55 959),some (vs q55 967),some y18,some vT])
def c1_706:=m10 701
def c1_708:=Obj.mk y3 none (Data.dict (A [de P q57 1111 (vs q4 955),de P q59 1113 (vs q202 1112),de P q60 1115 (vi 374 1114),de P q63 1121 (vr 717),de P q167 1129 (vr 724),de P q166 1140 (vr 731),de P q217 1147 (vr 738),de P q218 1154 (vr 745),de P q168 1162 (vr 752),de P q169 1171 (vr 759),de P q219 1180 (vr 766),de P q220 1188 (vr 773),de P q221 1198 (vr 780),de P q61 1202 (vr 781)]) 14) E
def c1_710:=Obj.mk vn none (Data.fields (A [vi 376 0,vi 4 0,vr 716,vi 382 0,vi 4 0,vr 723,vi 388 0,vi 4 0,vr 730,vi 397 0,vi 4 0,vr 737,vi 400 0,vi 4 0,vr 744,vi 403 0,vi 4 0,vr 751,vi 406 0,vi 4 0,vr 758,vi 412 0,vi 4 0,vr 765,vi 415 0,vi 4 0,vr 772,vi 422 0,vi 4 0,vr 779])) E
def c1_711:=m0 q202 1106 1107 1108 374 709 710 1109 1110
def c1_712:=m1 711 708 q4 955
def c1_715:=m3 q63 q222 (M 48 0)
def c1_716:=m12 q63 1116 q222 1117 1118 376 3 713 714 715 1119 1120
def c1_717:=m5 q63 q222 (M 48 0) q4 955 716
def c1_720:=m11 q64 1125 q178 1126
def c1_722:=m3 q167 q223 (M 48 1)
def c1_723:=m4 q167 1122 q223 1123 1124 382 2 718 719 720 721 722 1127 1128
def c1_724:=m5 q167 q223 (M 48 1) q4 955 723
def c1_727:=m20 1133 q178 1134 1135 q183 1136 q184 1137
def c1_729:=m3 q166 q224 (M 48 2)
def c1_730:=m4 q166 1130 q224 1131 1132 388 5 725 726 727 728 729 1138 1139
def c1_731:=m5 q166 q224 (M 48 2) q4 955 730
def c1_734:=m2 q64 1144
def c1_736:=m3 q217 q225 (M 48 3)
def c1_737:=m4 q217 1141 q225 1142 1143 397 1 732 733 734 735 736 1145 1146
def c1_738:=m5 q217 q225 (M 48 3) q4 955 737
def c1_741:=m2 q64 1151
def c1_743:=m3 q218 q226 (M 48 4)
def c1_744:=m4 q218 1148 q226 1149 1150 400 1 739 740 741 742 743 1152 1153
def c1_745:=m5 q218 q226 (M 48 4) q4 955 744
def c1_748:=m11 q64 1158 q178 1159
def c1_750:=m3 q168 q227 (M 48 5)
def c1_751:=m4 q168 1155 q227 1156 1157 403 2 746 747 748 749 750 1160 1161
def c1_752:=m5 q168 q227 (M 48 5) q4 955 751
def c1_755:=m13 q64 1166 q178 1167 q228 1168
def c1_757:=m3 q169 q229 (M 48 6)
def c1_758:=m4 q169 1163 q229 1164 1165 406 2 753 754 755 756 757 1169 1170
def c1_759:=m5 q169 q229 (M 48 6) q4 955 758
def c1_762:=m13 q64 1175 q181 1176 q197 1177
def c1_764:=m3 q219 q230 (M 48 7)
def c1_765:=m4 q219 1172 q230 1173 1174 412 3 760 761 762 763 764 1178 1179
def c1_766:=m5 q219 q230 (M 48 7) q4 955 765
def c1_769:=m11 q64 1184 q178 1185
def c1_771:=m3 q220 q231 (M 48 8)
def c1_772:=m4 q220 1181 q231 1182 1183 415 2 767 768 769 770 771 1186 1187
def c1_773:=m5 q220 q231 (M 48 8) q4 955 772
def c1_776:=m14 q64 1192 q178 1193 q70 1194 q190 1195
def c1_778:=m3 q221 q232 (M 48 9)
def c1_779:=m4 q221 1189 q232 1190 1191 422 2 774 775 776 777 778 1196 1197
def c1_780:=m5 q221 q232 (M 48 9) q4 955 779
def c1_781:=m13 q233 1199 q234 1200 q235 1201
def c1_782:=Obj.mk y3 none (Data.dict (A [de P q57 1111 (vs q4 955),de P q60 1115 (vi 374 1114),de P q63 1121 (vr 717),de P q167 1129 (vr 724),de P q166 1140 (vr 731),de P q217 1147 (vr 738),de P q218 1154 (vr 745),de P q168 1162 (vr 752),de P q169 1171 (vr 759),de P q219 1180 (vr 766),de P q220 1188 (vr 773),de P q221 1198 (vr 780),de P q61 1202 (vr 781),de P q5 1203 vn]) 2) E
def c1_783:=Obj.mk y9 none (Data.cls (ClassData.mk q202 [vr 701] [vr 783,vr 701,y12] 782 q202 true [] [] false none false)) (A [sr 706,none,some (vs q202 1104),some (vs q202 1112),some y18,some vT])
def c1_784:=m8 783
def c1_785:=m9 783
def c1_788:=m2 q120 1209
def c1_790:=m3 q203 q203 (B 49)
def c1_791:=m4 q203 1206 q203 1207 1208 429 1 786 787 788 789 790 1210 1211
def c1_792:=m5 q203 q203 (B 49) q4 955 791
def c1_795:=Obj.mk y3 none (Data.dict (A [de P q57 1222 (vs q236 1213),de P q59 1224 (vs q204 1223),de P q60 1226 (vi 432 1225),de P q63 1234 (vr 806),de P q237 1242 (vr 813),de P q238 1253 (vr 820),de P q239 1260 (vr 827),de P q240 1266 (vr 832),de P q61 1271 (vr 833)]) 9) E
def c1_797:=m19 434 805 440 812 445 819 448 826 451 831
def c1_798:=m0 q204 1217 1218 1219 432 796 797 1220 1221
def c1_799:=m1 798 795 q236 1213
def c1_802:=m11 q64 1230 q241 1231
def c1_804:=m3 q63 q242 (M 51 0)
def c1_805:=m4 q63 1227 q242 1228 1229 434 2 800 801 802 803 804 1232 1233
def c1_806:=m5 q63 q242 (M 51 0) q236 1213 805
def c1_809:=m11 q64 1238 q237 1239
def c1_811:=m3 q237 q243 (M 51 1)
def c1_812:=m4 q237 1235 q243 1236 1237 440 2 807 808 809 810 811 1240 1241
def c1_813:=m5 q237 q243 (M 51 1) q236 1213 812
def c1_816:=m20 1246 q244 1247 1248 q245 1249 q184 1250
def c1_818:=m3 q238 q246 (M 51 2)
def c1_819:=m4 q238 1243 q246 1244 1245 445 5 814 815 816 817 818 1251 1252
def c1_820:=m5 q238 q246 (M 51 2) q236 1213 819
def c1_823:=m2 q64 1257
def c1_825:=m3 q239 q247 (M 51 3)
def c1_826:=m4 q239 1254 q247 1255 1256 448 1 821 822 823 824 825 1258 1259
def c1_827:=m5 q239 q247 (M 51 3) q236 1213 826
def c1_830:=m3 q240 q248 (M 51 4)
def c1_831:=m12 q240 1261 q248 1262 1263 451 1 828 829 830 1264 1265
def c1_832:=m5 q240 q248 (M 51 4) q236 1213 831
def c1_833:=m14 q249 1267 q250 1268 q251 1269 q241 1270
def c1_834:=Obj.mk y3 none (Data.dict (A [de P q57 1222 (vs q236 1213),de P q60 1226 (vi 432 1225),de P q63 1234 (vr 806),de P q237 1242 (vr 813),de P q238 1253 (vr 820),de P q239 1260 (vr 827),de P q240 1266 (vr 832),de P q61 1271 (vr 833),de P q92 1273 (vr 836),de P q62 1275 (vr 837),de P q5 1276 vn]) 4) E
def c1_835:=Obj.mk y9 none (Data.cls (ClassData.mk q204 [y12] [vr 835,y12] 834 q204 true [] [] false none false)) (A [none,none,some (vs q204 1215),some (vs q204 1223),some y18,some vT])
def c1_836:=m15 1272 835
def c1_837:=m7 1274 835
def c1_838:=m8 835
def c1_839:=m9 835
def c1_842:=Obj.mk y3 none (Data.dict (A [de P q57 1288 (vs q252 1279),de P q59 1290 (vs q205 1289),de P q60 1292 (vi 455 1291),de P q63 1300 (vr 853),de P q253 1310 (vr 860),de P q254 1318 (vr 867),de P q255 1326 (vr 874),de P q256 1333 (vr 881),de P q181 1341 (vr 888),de P q257 1348 (vr 895),de P q258 1355 (vr 902),de P q259 1362 (vr 909),de P q260 1369 (vr 916),de P q261 1378 (vr 923),de P q262 1386 (vr 930),de P q61 1394 (vr 931)]) 16) E
def c1_844:=Obj.mk vn none (Data.fields (A [vi 457 0,vi 4 0,vr 852,vi 466 0,vi 4 0,vr 859,vi 483 0,vi 4 0,vr 866,vi 490 0,vi 4 0,vr 873,vi 493 0,vi 4 0,vr 880,vi 496 0,vi 4 0,vr 887,vi 499 0,vi 4 0,vr 894,vi 502 0,vi 4 0,vr 901,vi 505 0,vi 4 0,vr 908,vi 508 0,vi 4 0,vr 915,vi 511 0,vi 4 0,vr 922,vi 514 0,vi 4 0,vr 929])) E
def c1_845:=m0 q205 1283 1284 1285 455 843 844 1286 1287
def c1_846:=m1 845 842 q252 1279
def c1_849:=m11 q64 1296 q263 1297
def c1_851:=m3 q63 q264 (M 53 0)
def c1_852:=m4 q63 1293 q264 1294 1295 457 2 847 848 849 850 851 1298 1299
def c1_853:=m5 q63 q264 (M 53 0) q252 1279 852
def c1_856:=m14 q64 1304 q237 1305 q265 1306 q245 1307
def c1_858:=m3 q253 q266 (M 53 1)
def c1_859:=m4 q253 1301 q266 1302 1303 466 2 854 855 856 857 858 1308 1309
def c1_860:=m5 q253 q266 (M 53 1) q252 1279 859
def c1_863:=m11 q64 1314 q237 1315
def c1_865:=m3 q254 q267 (M 53 2)
def c1_866:=m4 q254 1311 q267 1312 1313 483 2 861 862 863 864 865 1316 1317
def c1_867:=m5 q254 q267 (M 53 2) q252 1279 866
def c1_870:=m11 q64 1322 q120 1323
def c1_872:=m3 q255 q268 (M 53 3)
def c1_873:=m4 q255 1319 q268 1320 1321 490 2 868 869 870 871 872 1324 1325
def c1_874:=m5 q255 q268 (M 53 3) q252 1279 873
def c1_877:=m2 q64 1330
def c1_879:=m3 q256 q269 (M 53 4)
def c1_880:=m4 q256 1327 q269 1328 1329 493 1 875 876 877 878 879 1331 1332
def c1_881:=m5 q256 q269 (M 53 4) q252 1279 880
def c1_884:=m11 q64 1337 q245 1338
def c1_886:=m3 q181 q270 (M 53 5)
def c1_887:=m4 q181 1334 q270 1335 1336 496 2 882 883 884 885 886 1339 1340
def c1_888:=m5 q181 q270 (M 53 5) q252 1279 887
def c1_891:=m2 q64 1345
def c1_893:=m3 q257 q271 (M 53 6)
def c1_894:=m4 q257 1342 q271 1343 1344 499 1 889 890 891 892 893 1346 1347
def c1_895:=m5 q257 q271 (M 53 6) q252 1279 894
def c1_898:=m2 q64 1352
def c1_900:=m3 q258 q272 (M 53 7)
def c1_901:=m4 q258 1349 q272 1350 1351 502 1 896 897 898 899 900 1353 1354
def c1_902:=m5 q258 q272 (M 53 7) q252 1279 901
def c1_905:=m2 q64 1359
def c1_907:=m3 q259 q273 (M 53 8)
def c1_908:=m4 q259 1356 q273 1357 1358 505 1 903 904 905 906 907 1360 1361
def c1_909:=m5 q259 q273 (M 53 8) q252 1279 908
def c1_912:=m2 q64 1366
def c1_914:=m3 q260 q274 (M 53 9)
def c1_915:=m4 q260 1363 q274 1364 1365 508 1 910 911 912 913 914 1367 1368
def c1_916:=m5 q260 q274 (M 53 9) q252 1279 915
def c1_919:=m13 q64 1373 q245 1374 q275 1375
def c1_921:=m3 q261 q276 (M 53 10)
def c1_922:=m4 q261 1370 q276 1371 1372 511 3 917 918 919 920 921 1376 1377
def c1_923:=m5 q261 q276 (M 53 10) q252 1279 922
def c1_926:=m11 q64 1382 q245 1383
def c1_928:=m3 q262 q277 (M 53 11)
def c1_929:=m4 q262 1379 q277 1380 1381 514 2 924 925 926 927 928 1384 1385
def c1_930:=m5 q262 q277 (M 53 11) q252 1279 929
def c1_931:=Obj.mk y0 none (Data.seq (A [vs q278 1387,vs q263 1388,vs q279 1389,vs q280 1390,vs q281 1391,vs q282 1392,vs q283 1393]) 0) E
def c1_932:=Obj.mk y3 none (Data.dict (A [de P q57 1288 (vs q252 1279),de P q60 1292 (vi 455 1291),de P q63 1300 (vr 853),de P q253 1310 (vr 860),de P q254 1318 (vr 867),de P q255 1326 (vr 874),de P q256 1333 (vr 881),de P q181 1341 (vr 888),de P q257 1348 (vr 895),de P q258 1355 (vr 902),de P q259 1362 (vr 909),de P q260 1369 (vr 916),de P q261 1378 (vr 923),de P q262 1386 (vr 930),de P q61 1394 (vr 931),de P q92 1396 (vr 934),de P q62 1398 (vr 935),de P q5 1399 vn]) 4) E
def c1_933:=Obj.mk y9 none (Data.cls (ClassData.mk q205 [y12] [vr 933,y12] 932 q205 true [] [] false none false)) (A [none,none,some (vs q205 1281),some (vs q205 1289),some y18,some vT])
def c1_934:=m15 1395 933
def c1_935:=m7 1397 933
def c1_936:=m8 933
def c1_937:=m9 933
def c1_940:=m11 q284 1407 q285 1408
def c1_942:=m3 q206 q206 (B 55)
def c1_943:=m4 q206 1404 q206 1405 1406 517 2 938 939 940 941 942 1409 1410
def c1_944:=m5 q206 q206 (B 55) q201 1402 943
def c1_947:=m2 q286 1415
def c1_949:=m3 q207 q207 (B 56)
def c1_950:=m4 q207 1412 q207 1413 1414 521 1 945 946 947 948 949 1416 1417
def c1_951:=m5 q207 q207 (B 56) q201 1402 950
def c1_954:=Obj.mk y0 none (Data.seq (A [vs q286 1422,vs q287 1423,vs q288 1424,vs q289 1425,vs q290 1426,vs q291 1427,vs q292 1428,vs q293 1429,vs q294 1430]) 0) E
def c1_956:=m3 q208 q208 (B 57)
def c1_957:=m4 q208 1419 q208 1420 1421 523 3 952 953 954 955 956 1431 1432
def c1_958:=m5 q208 q208 (B 57) q201 1402 957
def c1_961:=Obj.mk y0 none (Data.seq (A [vs q284 1437,vs q295 1438,vs q287 1439,vs q288 1440,vs q285 1441,vs q296 1442]) 0) E
def c1_963:=m3 q209 q209 (B 58)
def c1_964:=m4 q209 1434 q209 1435 1436 543 1 959 960 961 962 963 1443 1444
def c1_965:=m5 q209 q209 (B 58) q201 1402 964
def c1_968:=m2 q297 1449
def c1_970:=m3 q210 q210 (B 59)
def c1_971:=m4 q210 1446 q210 1447 1448 552 1 966 967 968 969 970 1450 1451
def c1_972:=m5 q210 q210 (B 59) q201 1402 971
def c1_975:=Obj.mk y0 none (Data.seq (A [vs q295 1456,vs q297 1457,vs q298 1458,vs q289 1459,vs q294 1460,vs q291 1461]) 0) E
def c1_977:=m3 q211 q211 (B 60)
def c1_978:=m4 q211 1453 q211 1454 1455 556 2 973 974 975 976 977 1462 1463
def c1_979:=m5 q211 q211 (B 60) q201 1402 978
def c1_982:=m3 q212 q212 (B 61)
def c1_983:=m12 q212 1465 q212 1466 1467 566 5 980 981 982 1468 1469
def c1_984:=m5 q212 q212 (B 61) q201 1402 983
def c1_987:=m14 q295 1474 q299 1475 q285 1476 q296 1477
def c1_989:=m3 q213 q213 (B 62)
def c1_990:=m4 q213 1471 q213 1472 1473 585 1 985 986 987 988 989 1478 1479
def c1_991:=m5 q213 q213 (B 62) q201 1402 990
def c1_994:=m14 q300 1484 q295 1485 q301 1486 q296 1487
def c1_996:=m3 q214 q214 (B 63)
def c1_997:=m4 q214 1481 q214 1482 1483 593 3 992 993 994 995 996 1488 1489
def c1_998:=m5 q214 q214 (B 63) q201 1402 997
def c1_1001:=Obj.mk y0 none (Data.seq (A [vs q302 1494,vs q303 1495,vs q295 1496,vs q301 1497,vs q286 1498,vs q304 1499]) 0) E
def c1_1003:=m3 q215 q215 (B 64)
def c1_1004:=m4 q215 1491 q215 1492 1493 598 5 999 1000 1001 1002 1003 1500 1501
def c1_1005:=m5 q215 q215 (B 64) q201 1402 1004
def c1_1008:=m3 q216 q216 (B 65)
def c1_1009:=m12 q216 1503 q216 1504 1505 607 1 1006 1007 1008 1506 1507
def c1_1010:=m5 q216 q216 (B 65) q201 1402 1009
def u1:=nd (boot_o_0 P) (nd (boot_o_1 P) (nd (c1_3 P) (nd (boot_o_7 P) (nd a11 (nd c0_31 (nd c0_63 (nd c0_127 (nd a11 (l1 c0_511) (l1 a11)) (nd a11 (l1 a11) (l1 c1_895))) (nd c0_191 (nd c0_319 (l1 a11) (l1 c1_831)) (nd c0_23 (l1 c0_703) (l1 a11)))) (nd a11 (nd (c0_159 P) (nd c0_287 (l1 c0_543) (l1 c1_799)) (nd c0_415 (l1 a11) (l1 a11))) (nd c0_23 (nd c0_351 (l1 c0_607) (l1 c1_863)) (nd c0_222 (l1 a11) (l1 c1_991))))) (nd c0_35 (nd a12 (nd c0_143 (nd c0_271 (l1 c0_527) (l1 c1_783)) (nd c0_248 (l1 c0_655) (l1 a12))) (nd c0_207 (nd a11 (l1 c0_591) (l1 a11)) (nd a11 (l1 a12) (l1 c1_975)))) (nd c0_111 (nd c0_175 (nd a12 (l1 a12) (l1 a12)) (nd c0_431 (l1 c0_687) (l1 c1_943))) (nd a11 (nd a12 (l1 a12) (l1 c1_879)) (nd c0_495 (l1 c1_751) (l1 a12)))))) (nd c0_23 (nd a12 (nd c0_71 (nd c0_135 (nd a12 (l1 c0_519) (l1 a12)) (nd c0_391 (l1 c0_647) (l1 a11))) (nd c0_199 (nd c0_327 (l1 a12) (l1 c1_839)) (nd c0_455 (l1 c1_711) (l1 a12)))) (nd c0_23 (nd c0_23 (nd a11 (l1 a11) (l1 a11)) (nd a11 (l1 a12) (l1 c1_935))) (nd c0_231 (nd c0_248 (l1 a11) (l1 a11)) (nd a12 (l1 c1_743) (l1 a11))))) (nd (c0_55 P) (nd c0_87 (nd a11 (nd c0_279 (l1 c0_535) (l1 c1_791)) (nd a12 (l1 c0_663) (l1 c1_919))) (nd a11 (nd a12 (l1 c0_599) (l1 a12)) (nd c0_471 (l1 c1_727) (l1 c1_983)))) (nd a11 (nd a11 (nd c0_311 (l1 c0_567) (l1 c1_823)) (nd c0_439 (l1 a11) (l1 c1_951))) (nd c0_247 (nd c0_375 (l1 c0_631) (l1 c1_887)) (nd a11 (l1 c1_759) .nil)))))) (nd a11 (nd c0_19 (nd c0_35 (nd a12 (nd a12 (nd c0_259 (l1 c0_515) (l1 c1_771)) (nd a11 (l1 a11) (l1 a11))) (nd a12 (nd c0_323 (l1 c0_579) (l1 c1_835)) (nd c0_451 (l1 c0_23) (l1 c1_963)))) (nd c0_99 (nd c0_163 (nd a11 (l1 a11) (l1 a11)) (nd c0_419 (l1 c0_675) (l1 c1_931))) (nd c0_227 (nd (c0_355 P) (l1 a11) (l1 c1_867)) (nd c0_483 (l1 a11) (l1 a11))))) (nd a12 (nd c0_83 (nd a11 (nd c0_275 (l1 c0_531) (l1 a12)) (nd c0_403 (l1 c0_659) (l1 c1_915))) (nd a11 (nd c0_339 (l1 c0_23) (l1 c1_851)) (nd a11 (l1 c1_723) (l1 c1_979)))) (nd c0_115 (nd c0_179 (nd c0_307 (l1 c0_563) (l1 c1_819)) (nd a12 (l1 c0_691) (l1 c1_947))) (nd c0_243 (nd c0_371 (l1 c0_627) (l1 a12)) (nd c0_499 (l1 c1_755) .nil))))) (nd c0_27 (nd (c0_43 P) (nd c0_75 (nd c0_139 (nd c0_267 (l1 a12) (l1 c1_779)) (nd (c0_395 P) (l1 a12) (l1 c1_907))) (nd c0_203 (nd a11 (l1 a11) (l1 a11)) (nd c0_459 (l1 c1_715) (l1 c1_971)))) (nd c0_107 (nd c0_171 (nd c0_299 (l1 c0_555) (l1 c1_811)) (nd a11 (l1 c0_683) (l1 a12))) (nd c0_235 (nd c0_363 (l1 c0_619) (l1 a11)) (nd c0_491 (l1 a12) (l1 c1_1003))))) (nd c0_35 (nd a12 (nd c0_155 (nd (c0_283 P) (l1 a11) (l1 (c1_795 P))) (nd c0_411 (l1 a11) (l1 c1_923))) (nd c0_219 (nd a11 (l1 c0_603) (l1 c1_859)) (nd (c0_475 P) (l1 c1_731) (l1 c1_987)))) (nd a11 (nd a11 (nd c0_23 (l1 a12) (l1 c1_827)) (nd c0_443 (l1 c0_699) (l1 a11))) (nd a11 (nd c0_379 (l1 c0_635) (l1 c1_891)) (nd c0_507 (l1 a11) .nil))))))) (nd (boot_o_5 P) (nd (boot_o_9 P) (nd c0_17 (nd c0_33 (nd c0_65 (nd c0_129 (nd c0_257 (l1 a12) (l1 c1_769)) (nd c0_385 (l1 c0_641) (l1 a12))) (nd c0_193 (nd a11 (l1 c0_577) (l1 c1_833)) (nd a11 (l1 c0_705) (l1 c1_961)))) (nd c0_97 (nd c0_161 (nd a12 (l1 c0_23) (l1 a12)) (nd c0_417 (l1 c0_673) (l1 c1_929))) (nd a11 (nd c0_353 (l1 a12) (l1 c1_865)) (nd (c0_481 P) (l1 c1_737) (l1 a12))))) (nd (c0_49 P) (nd a11 (nd a12 (nd c0_273 (l1 a11) (l1 c1_785)) (nd (c0_401 P) (l1 a11) (l1 a11))) (nd a12 (nd c0_337 (l1 c0_593) (l1 c1_849)) (nd c0_465 (l1 a11) (l1 c1_977)))) (nd c0_113 (nd c0_177 (nd a11 (l1 c0_561) (l1 a11)) (nd c0_433 (l1 c0_689) (l1 a11))) (nd c0_241 (nd a11 (l1 a11) (l1 c1_881)) (nd c0_497 (l1 a11) (l1 c1_1009)))))) (nd a11 (nd c0_41 (nd c0_73 (nd a11 (nd a11 (l1 c0_521) (l1 a11)) (nd c0_393 (l1 c0_649) (l1 c1_905))) (nd a11 (nd a12 (l1 c0_585) (l1 c0_23)) (nd c0_457 (l1 a11) (l1 a11)))) (nd a11 (nd a11 (nd c0_297 (l1 c0_553) (l1 c1_809)) (nd c0_425 (l1 a11) (l1 c1_937))) (nd c0_233 (nd (c0_361 P) (l1 c0_617) (l1 c1_873)) (nd a11 (l1 c1_745) (l1 c1_1001))))) (nd c0_57 (nd c0_89 (nd c0_153 (nd c0_248 (l1 a12) (l1 a11)) (nd a11 (l1 a12) (l1 c1_921))) (nd c0_217 (nd c0_345 (l1 a11) (l1 a11)) (nd c0_473 (l1 c1_729) (l1 a11)))) (nd c0_121 (nd c0_185 (nd c0_313 (l1 c0_569) (l1 c1_825)) (nd c0_441 (l1 c0_697) (l1 a12))) (nd c0_23 (nd c0_377 (l1 c0_633) (l1 a11)) (nd c0_505 (l1 a12) .nil)))))) (nd a13 (nd c0_21 (nd (c0_37 P) (nd a11 (nd a11 (nd c0_261 (l1 a11) (l1 c1_773)) (nd c0_389 (l1 c0_645) (l1 c1_901))) (nd a11 (nd c0_325 (l1 c0_581) (l1 c1_837)) (nd a11 (l1 a11) (l1 c1_965)))) (nd c0_101 (nd (c0_165 P) (nd c0_293 (l1 c0_549) (l1 c1_805)) (nd a12 (l1 c0_677) (l1 c1_933))) (nd a11 (nd c0_357 (l1 c0_613) (l1 a12)) (nd c0_485 (l1 c1_741) (l1 c1_997))))) (nd c0_53 (nd a11 (nd c0_149 (nd (c0_277 P) (l1 c0_533) (l1 a11)) (nd c0_405 (l1 c0_661) (l1 a11))) (nd c0_213 (nd c0_341 (l1 a11) (l1 c1_853)) (nd c0_469 (l1 a11) (l1 a12)))) (nd a12 (nd a12 (nd a11 (l1 c0_565) (l1 a11)) (nd a11 (l1 a12) (l1 c1_949))) (nd c0_245 (nd a11 (l1 a11) (l1 a11)) (nd a12 (l1 c1_757) .nil))))) (nd a11 (nd c0_45 (nd c0_77 (nd c0_141 (nd a11 (l1 a11) (l1 c1_781)) (nd c0_397 (l1 a11) (l1 c1_909))) (nd c0_205 (nd c0_333 (l1 c0_589) (l1 c1_845)) (nd a12 (l1 c1_717) (l1 a11)))) (nd a11 (nd a11 (nd c0_301 (l1 c0_557) (l1 c1_813)) (nd c0_429 (l1 a11) (l1 a11))) (nd a12 (nd c0_365 (l1 c0_621) (l1 c1_877)) (nd a11 (l1 a11) (l1 c1_1005))))) (nd (c0_61 P) (nd c0_93 (nd c0_157 (nd c0_285 (l1 c0_541) (l1 c1_797)) (nd a11 (l1 c0_669) (l1 a12))) (nd c0_221 (nd c0_349 (l1 c0_605) (l1 a11)) (nd c0_477 (l1 a12) (l1 c1_989)))) (nd c0_125 (nd c0_189 (nd a11 (l1 c0_573) (l1 a12)) (nd c0_445 (l1 c1_701) (l1 c1_957))) (nd c0_253 (nd a12 (l1 a12) (l1 c1_893)) (nd c0_509 (l1 c1_765) .nil)))))))) (nd (boot_o_2 P) (nd (boot_o_4 P) (nd (boot_o_8 P) (nd a12 (nd c0_32 (nd c0_64 (nd c0_128 (nd a12 (l1 a11) (l1 a12)) (nd c0_384 (l1 c0_640) (l1 a11))) (nd c0_192 (nd c0_320 (l1 a12) (l1 c1_832)) (nd (c0_448 P) (l1 c0_704) (l1 a12)))) (nd a12 (nd c0_160 (nd a11 (l1 a11) (l1 a11)) (nd a11 (l1 a12) (l1 c1_928))) (nd (c0_224 P) (nd c0_352 (l1 a11) (l1 a11)) (nd c0_23 (l1 c1_736) (l1 a11))))) (nd c0_23 (nd c0_80 (nd a11 (nd a11 (l1 c0_528) (l1 c1_784)) (nd c0_23 (l1 c0_656) (l1 c1_912))) (nd a11 (nd a12 (l1 c0_592) (l1 a12)) (nd c0_464 (l1 c1_720) (l1 a11)))) (nd a11 (nd a11 (nd c0_304 (l1 c0_560) (l1 c1_816)) (nd c0_432 (l1 a11) (l1 c1_944))) (nd c0_240 (nd c0_368 (l1 c0_624) (l1 c1_880)) (nd a11 (l1 c1_752) (l1 c1_1008)))))) (nd (c0_24 P) (nd c0_40 (nd c0_72 (nd c0_136 (nd c0_264 (l1 c0_520) (l1 c1_776)) (nd c0_392 (l1 c0_648) (l1 a12))) (nd c0_200 (nd a11 (l1 c0_584) (l1 a11)) (nd a11 (l1 c1_712) (l1 c1_968)))) (nd (c0_104 P) (nd (c0_168 P) (nd a12 (l1 a12) (l1 a12)) (nd c0_424 (l1 c0_680) (l1 c1_936))) (nd a11 (nd c0_23 (l1 a12) (l1 c1_872)) (nd c0_488 (l1 c1_744) (l1 a12))))) (nd c0_56 (nd c0_88 (nd a12 (nd c0_280 (l1 a11) (l1 c1_792)) (nd c0_408 (l1 a11) (l1 a11))) (nd (c0_216 P) (nd c0_344 (l1 c0_600) (l1 c1_856)) (nd c0_472 (l1 a11) (l1 c1_984)))) (nd c0_120 (nd c0_184 (nd c0_312 (l1 c0_568) (l1 a11)) (nd c0_440 (l1 c0_696) (l1 a11))) (nd c0_248 (nd a11 (l1 a11) (l1 c1_888)) (nd c0_504 (l1 a11) .nil)))))) (nd c1_12 (nd c0_20 (nd c0_23 (nd c0_68 (nd c0_132 (nd c0_260 (l1 c0_516) (l1 c1_772)) (nd a12 (l1 a12) (l1 c1_900))) (nd c0_196 (nd a11 (l1 c0_580) (l1 c1_836)) (nd c0_452 (l1 (c1_708 P)) (l1 c1_964)))) (nd c0_100 (nd c0_164 (nd c0_292 (l1 c0_548) (l1 c1_804)) (nd a11 (l1 c0_676) (l1 (c1_932 P)))) (nd c0_228 (nd c0_356 (l1 c0_612) (l1 a11)) (nd c0_484 (l1 a12) (l1 c1_996))))) (nd c0_52 (nd c0_84 (nd c0_148 (nd a11 (l1 a11) (l1 c1_788)) (nd c0_404 (l1 a11) (l1 c1_916))) (nd c0_212 (nd c0_340 (l1 (c0_596 P)) (l1 c1_852)) (nd a12 (l1 c1_724) (l1 a11)))) (nd a11 (nd a11 (nd c0_308 (l1 (c0_564 P)) (l1 c1_820)) (nd c0_436 (l1 a11) (l1 a11))) (nd (c0_244 P) (nd c0_372 (l1 c0_628) (l1 c1_884)) (nd a11 (l1 a11) .nil))))) (nd c0_28 (nd c0_44 (nd c0_76 (nd a11 (nd c0_268 (l1 c0_524) (l1 c1_780)) (nd c0_396 (l1 c0_652) (l1 c1_908))) (nd a11 (nd c0_332 (l1 a12) (l1 c1_844)) (nd a11 (l1 c1_716) (l1 c1_972)))) (nd c0_108 (nd c0_172 (nd c0_300 (l1 c0_556) (l1 c1_812)) (nd a12 (l1 c0_684) (l1 c1_940))) (nd a11 (nd c0_364 (l1 c0_620) (l1 a12)) (nd c0_492 (l1 c1_748) (l1 c1_1004))))) (nd c0_23 (nd c0_92 (nd c0_156 (nd a11 (l1 c0_540) (l1 a11)) (nd c0_412 (l1 c0_668) (l1 a11))) (nd c0_220 (nd a12 (l1 a11) (l1 c1_860)) (nd c0_476 (l1 a11) (l1 a11)))) (nd a12 (nd a12 (nd (c0_316 P) (l1 c0_572) (l1 a11)) (nd c0_444 (l1 (c0_700 P)) (l1 c1_956))) (nd c0_252 (nd a11 (l1 a11) (l1 a11)) (nd (c0_508 P) (l1 c1_764) .nil))))))) (nd (boot_o_6 P) (nd (boot_o_10 P) (nd a11 (nd c0_34 (nd a11 (nd a11 (nd a11 (l1 c0_514) (l1 a11)) (nd c0_386 (l1 c0_642) (l1 c1_898))) (nd a11 (nd a12 (l1 a11) (l1 (c1_834 P))) (nd c0_450 (l1 c1_706) (l1 a11)))) (nd a11 (nd c0_162 (nd c0_290 (l1 (c0_546 P)) (l1 c1_802)) (nd c0_418 (l1 a11) (l1 c1_930))) (nd c0_226 (nd c0_354 (l1 c0_610) (l1 c1_866)) (nd a11 (l1 c1_738) (l1 c1_994))))) (nd a11 (nd c0_82 (nd c0_146 (nd c0_274 (l1 a12) (l1 a11)) (nd a11 (l1 a12) (l1 c1_914))) (nd c0_210 (nd a11 (l1 a11) (l1 a11)) (nd c0_466 (l1 c1_722) (l1 c1_978)))) (nd c0_114 (nd c0_178 (nd c0_306 (l1 c0_562) (l1 c1_818)) (nd a11 (l1 c0_690) (l1 a12))) (nd c0_242 (nd c0_370 (l1 c0_626) (l1 a11)) (nd c0_498 (l1 a12) (l1 c1_1010)))))) (nd a12 (nd a11 (nd (c0_74 P) (nd a12 (nd c0_266 (l1 a11) (l1 c1_778)) (nd a11 (l1 a11) (l1 a11))) (nd a12 (nd c0_330 (l1 c0_586) (l1 (c1_842 P))) (nd c0_458 (l1 a12) (l1 c1_970)))) (nd c0_106 (nd c0_170 (nd a11 (l1 a11) (l1 a11)) (nd c0_426 (l1 c0_682) (l1 a11))) (nd c0_234 (nd a11 (l1 a11) (l1 c1_874)) (nd c0_490 (l1 a11) (l1 a11))))) (nd c0_58 (nd a11 (nd a11 (nd c0_23 (l1 c0_538) (l1 c0_23)) (nd c0_410 (l1 c0_666) (l1 c1_922))) (nd c0_218 (nd c0_346 (l1 a12) (l1 c1_858)) (nd c0_474 (l1 c1_730) (l1 a12)))) (nd c0_122 (nd c0_186 (nd c0_222 (l1 a11) (l1 c1_826)) (nd (c0_442 P) (l1 c0_698) (l1 c1_954))) (nd (c0_250 P) (nd c0_378 (l1 c0_634) (l1 a12)) (nd c0_506 (l1 c1_762) .nil)))))) (nd a14 (nd c0_22 (nd a11 (nd c0_70 (nd c0_134 (nd a11 (l1 a12) (l1 a11)) (nd a11 (l1 a11) (l1 c1_902))) (nd c0_198 (nd c0_326 (l1 a11) (l1 c1_838)) (nd a12 (l1 c1_710) (l1 a11)))) (nd a11 (nd a11 (nd c0_294 (l1 c0_550) (l1 c1_806)) (nd c0_422 (l1 a11) (l1 c1_934))) (nd a12 (nd c0_358 (l1 c0_614) (l1 c1_870)) (nd a11 (l1 a11) (l1 c1_998))))) (nd a11 (nd a12 (nd c0_150 (nd c0_278 (l1 c0_534) (l1 c1_790)) (nd a11 (l1 c0_662) (l1 a12))) (nd c0_214 (nd a11 (l1 c0_598) (l1 a11)) (nd a11 (l1 a12) (l1 c1_982)))) (nd c0_118 (nd c0_182 (nd (c0_310 P) (l1 c0_566) (l1 a12)) (nd c0_438 (l1 c0_694) (l1 c1_950))) (nd c0_246 (nd a12 (l1 a12) (l1 c1_886)) (nd c0_502 (l1 c1_758) .nil))))) (nd (c0_30 P) (nd c0_46 (nd a11 (nd c0_142 (nd a12 (l1 c0_526) (l1 (c1_782 P))) (nd c0_398 (l1 c0_654) (l1 a11))) (nd c0_206 (nd c0_334 (l1 a11) (l1 c1_846)) (nd c0_462 (l1 a11) (l1 a12)))) (nd a12 (nd a12 (nd a11 (l1 a11) (l1 a11)) (nd a11 (l1 a12) (l1 c1_942))) (nd c0_238 (nd a11 (l1 a11) (l1 a11)) (nd a12 (l1 c1_750) (l1 a11))))) (nd a11 (nd c0_94 (nd c0_158 (nd c0_286 (l1 c0_542) (l1 c1_798)) (nd a12 (l1 c0_670) (l1 c1_926))) (nd c0_222 (nd a11 (l1 c0_606) (l1 a12)) (nd c0_478 (l1 c1_734) (l1 c1_990)))) (nd a11 (nd a11 (nd c0_318 (l1 c0_574) (l1 c1_830)) (nd c0_222 (l1 c0_702) (l1 c1_958))) (nd c0_254 (nd c0_382 (l1 c0_638) (l1 c1_894)) (nd c0_510 (l1 c1_766) .nil))))))))
def tc1_:=u1 P
def tz:=u1 P
end
noncomputable def sa(w:World)(os:OsState):SharedT:=SharedT.mk (ta w.params) 15 (@Life.mk [] [] [] 0 [] [] false E [] 0 false false false 0 [2000,10,10] false 0 true [] [] 0 false) E (@Drawn.mk 0 0 0 0) 187 os
noncomputable def sb(w:World)(os:OsState):SharedT:=SharedT.mk (tb w.params) 15 (@Life.mk [] [] [] 0 [] [] false E [] 0 false false false 0 [2000,10,10] false 0 true [] [] 0 false) E (@Drawn.mk 0 0 0 0) 187 os
noncomputable def sc0_(w:World)(os:OsState):SharedT:=SharedT.mk (tc0_ w.params) 706 (@Life.mk [] [] [] 0 [] [] false E [] 0 false false false 0 [2000,10,10] false 0 true [] [] 0 false) E (@Drawn.mk 0 0 0 0) 1104 os
noncomputable def sc1_(w:World)(os:OsState):SharedT:=SharedT.mk (tc1_ w.params) 1011 (@Life.mk [] [] [] 0 [] [] false E [] 0 false false false 0 [2000,10,10] false 0 true [] [] 0 false) E (@Drawn.mk 0 0 0 0) 1509 os
noncomputable def sz(w:World)(os:OsState):SharedT:=SharedT.mk (tz w.params) 1011 (@Life.mk [] [] [] 0 [] [] false E [] 0 false false false 0 [2000,10,10] false 0 true [] [] 0 false) E (@Drawn.mk 0 0 0 0) 1509 os
noncomputable abbrev e0:Env:={scope:=p0.main.scope,locals:=mainNs,globals:=mainNs,cells:=[],code:=(vr 13),frame:=some 14}
noncomputable abbrev en:Env:={scope:=pq.main.scope,locals:=mainNs,globals:=mainNs,cells:=[],code:=(vr 13),frame:=some 14}
theorem bs:behindTheImports p0=((p0.main.body.drop 0).take 48++((p0.main.body.drop 48).take 18++[])):=by kernel_rfl
theorem pre_l(w:World)(os:OsState):topGo treeTable p0 w 11 (sr 6) 12 ⟨boot_heap w.params,Array.mk [],boot_drawn,boot_toks,os⟩ (topStub p0)=some ((sa w os).abs,⟨denote treeTable (Code.body (behindTheImports p0) e0),Code.body (behindTheImports p0) e0,(@Pos.mk 0 0 0 0),[topFrame (@Pos.mk 0 0 0 0)]⟩):=by
 rw [PySem.W.Fast.te15667345088766844465,PySem.W.Fast.te14364793385576792824,PySem.W.Fast.te11892475500146522536,pe]
 kernel_rfl
theorem blk_l(w:World)(os:OsState):segRun treeTable p0 w 11 (sr 6) 1 1 (sa w os).abs (blockOf (behindTheImports p0) e0 (Code.body (behindTheImports p0) e0) (@Pos.mk 0 0 0 0) [topFrame (@Pos.mk 0 0 0 0)])=some (Flow.next,(sb w os).abs,Code.body (behindTheImports p0) e0,(@Pos.mk 0 0 0 0)):=by
 refine segRun_of ?_
 rw [PySem.W.Fast.te10110043849684766642,PySem.W.Fast.te14364793385576792824,pe]
 kernel_rfl
theorem g0(p:Program)(b:List Stmt):∀w:World,(λos=>PySem.W.Fast.tw10110043849684766642 PySem.W.Fast.tw14364793385576792824 p w 11 (sr 6) 1 5874 (sb w os) (piecesOf ((pq.main.body.drop 0).take 48) en (Code.body b en) (@Pos.mk 0 0 0 0) [topFrame (@Pos.mk 0 0 0 0)]))=(λos=>some (Flow.next,sc0_ w os,Code.body b en,(@Pos.mk 299 0 373 75))):=byRow2 "special-get-raises" (P:=λw=>(λos=>PySem.W.Fast.tw10110043849684766642 PySem.W.Fast.tw14364793385576792824 p w 11 (sr 6) 1 5874 (sb w os) (piecesOf ((pq.main.body.drop 0).take 48) en (Code.body b en) (@Pos.mk 0 0 0 0) [topFrame (@Pos.mk 0 0 0 0)]))=(λos=>some (Flow.next,sc0_ w os,Code.body b en,(@Pos.mk 299 0 373 75)))) (λw=>by kernel_rfl) (λw=>by kernel_rfl)
theorem h0(b:List Stmt)(w:World)(os:OsState):segRun treeTable p0 w 11 (sr 6) 1 5874 (sb w os).abs (piecesOf ((p0.main.body.drop 0).take 48) e0 (Code.body b e0) (@Pos.mk 0 0 0 0) [topFrame (@Pos.mk 0 0 0 0)])=some (Flow.next,(sc0_ w os).abs,Code.body b e0,(@Pos.mk 299 0 373 75)):=by
 refine segRun_of ?_
 rw [PySem.W.Fast.te10110043849684766642,PySem.W.Fast.te14364793385576792824,pe]
 exact congrFun (g0 pq b w) os
theorem g1(p:Program)(b:List Stmt):∀w:World,(λos=>PySem.W.Fast.tw10110043849684766642 PySem.W.Fast.tw14364793385576792824 p w 11 (sr 6) 1 1865 (sc0_ w os) (piecesOf ((pq.main.body.drop 48).take 18) en (Code.body b en) (@Pos.mk 299 0 373 75) [topFrame (@Pos.mk 0 0 0 0)]))=(λos=>some (Flow.next,sc1_ w os,Code.body b en,(@Pos.mk 607 0 639 15))):=λw=>by kernel_rfl
theorem h1(b:List Stmt)(w:World)(os:OsState):segRun treeTable p0 w 11 (sr 6) 1 1865 (sc0_ w os).abs (piecesOf ((p0.main.body.drop 48).take 18) e0 (Code.body b e0) (@Pos.mk 299 0 373 75) [topFrame (@Pos.mk 0 0 0 0)])=some (Flow.next,(sc1_ w os).abs,Code.body b e0,(@Pos.mk 607 0 639 15)):=by
 refine segRun_of ?_
 rw [PySem.W.Fast.te10110043849684766642,PySem.W.Fast.te14364793385576792824,pe]
 exact congrFun (g1 pq b w) os
noncomputable abbrev H1:Params->Heap:=λP=>absHeap (tz P) 1011 (@Life.mk [] [] [] 0 [] [] false E [] 0 false false false 0 [2000,10,10] false 0 true [] [] 0 false)
theorem fin_l(b:List Stmt)(w:World)(os:OsState):topRun treeTable p0 w 11 (sr 6) 2 (sc1_ w os).abs ⟨doneF .next,Code.body b e0,(@Pos.mk 607 0 639 15),[topFrame (@Pos.mk 0 0 0 0)]⟩=some ⟨H1 w.params,Array.mk [],(@Drawn.mk 0 0 0 0),1509,os⟩:=by
 rw [PySem.W.Fast.te14082659384304107361,PySem.W.Fast.te14364793385576792824,pe]
 kernel_rfl
theorem run_l(w:World)(os:OsState):topRun treeTable p0 w 11 (sr 6) (12+(1+(5874+(1865+2)))) ⟨boot_heap w.params,Array.mk [],boot_drawn,boot_toks,os⟩ (topStub p0)=some ⟨H1 w.params,Array.mk [],(@Drawn.mk 0 0 0 0),1509,os⟩:=by
 refine go_top (pre_l w os) (piece_block (blk_l w os) ?k)
 rw [bs]
 exact piece_app (h0 _ w os) (piece_app (h1 _ w os) (piece_nil (fin_l _ w os)))
abbrev kF(a b:String)(s:Stmt)(m:String)(n v:Nat):Params->Obj:=λP=>(Obj.mk (@Value.type "function") none (Data.func (fk (@Str.ofString a) (@Str.ofString b) s 3 [] vn vn vn (@Value.str (@Str.ofString m) n) none (vr v) vn 0)) E)
abbrev k21:=kF "_wall" "_wall" (T 0) "__main__" 164 20
abbrev k72:=kF "__init__" "NoText.__init__" (N 5 0) "pactroom.errors" 194 71
abbrev k84:=kF "is_whole" "is_whole" (T 15) "pactroom.things" 271 83
abbrev k89:=kF "shown" "shown" (T 16) "pactroom.things" 271 88
abbrev k94:=kF "read_thing" "read_thing" (T 17) "pactroom.things" 271 93
abbrev k101:=kF "is_sign" "is_sign" (T 18) "pactroom.things" 271 100
abbrev k115:=kF "__init__" "Reader.__init__" (N 19 0) "pactroom.things" 271 114
abbrev k122:=kF "passes" "Reader.passes" (N 19 1) "pactroom.things" 271 121
abbrev k129:=kF "read_any" "Reader.read_any" (N 19 2) "pactroom.things" 271 128
abbrev k136:=kF "read_parts" "Reader.read_parts" (N 19 3) "pactroom.things" 271 135
abbrev k143:=kF "read_below" "Reader.read_below" (N 19 4) "pactroom.things" 271 142
abbrev k150:=kF "read_number" "Reader.read_number" (N 19 5) "pactroom.things" 271 149
abbrev k157:=kF "read_signs" "Reader.read_signs" (N 19 6) "pactroom.things" 271 156
abbrev k179:=kF "house" "Step.house" (N 23 0) "pactroom.steps" 399 178
abbrev k186:=kF "lock" "Step.lock" (N 23 1) "pactroom.steps" 399 185
abbrev k193:=kF "step_done" "Step.step_done" (N 23 2) "pactroom.steps" 399 192
abbrev k200:=kF "back" "Step.back" (N 23 3) "pactroom.steps" 399 199
abbrev k207:=kF "sure" "Step.sure" (N 23 4) "pactroom.steps" 399 206
abbrev k214:=kF "spelled" "Step.spelled" (N 23 5) "pactroom.steps" 399 213
abbrev k235:=kF "__init__" "CellStep.__init__" (N 24 0) "pactroom.steps" 399 234
abbrev k242:=kF "house" "CellStep.house" (N 24 1) "pactroom.steps" 399 241
abbrev k261:=kF "lock" "TakeStep.lock" (N 25 0) "pactroom.steps" 399 260
abbrev k268:=kF "step_done" "TakeStep.step_done" (N 25 1) "pactroom.steps" 399 267
abbrev k275:=kF "spelled" "TakeStep.spelled" (N 25 2) "pactroom.steps" 399 274
abbrev k294:=kF "lock" "MeanStep.lock" (N 26 0) "pactroom.steps" 399 293
abbrev k301:=kF "step_done" "MeanStep.step_done" (N 26 1) "pactroom.steps" 399 300
abbrev k308:=kF "spelled" "MeanStep.spelled" (N 26 2) "pactroom.steps" 399 307
abbrev k327:=kF "__init__" "SumStep.__init__" (N 27 0) "pactroom.steps" 399 326
abbrev k334:=kF "house" "SumStep.house" (N 27 1) "pactroom.steps" 399 333
abbrev k341:=kF "lock" "SumStep.lock" (N 27 2) "pactroom.steps" 399 340
abbrev k346:=kF "step_done" "SumStep.step_done" (N 27 3) "pactroom.steps" 399 345
abbrev k353:=kF "spelled" "SumStep.spelled" (N 27 4) "pactroom.steps" 399 352
abbrev k372:=kF "lock" "GiveStep.lock" (N 28 0) "pactroom.steps" 399 371
abbrev k379:=kF "step_done" "GiveStep.step_done" (N 28 1) "pactroom.steps" 399 378
abbrev k386:=kF "sure" "GiveStep.sure" (N 28 2) "pactroom.steps" 399 385
abbrev k393:=kF "spelled" "GiveStep.spelled" (N 28 3) "pactroom.steps" 399 392
abbrev k412:=kF "__init__" "AddStep.__init__" (N 29 0) "pactroom.steps" 399 411
abbrev k419:=kF "lock" "AddStep.lock" (N 29 1) "pactroom.steps" 399 418
abbrev k426:=kF "step_done" "AddStep.step_done" (N 29 2) "pactroom.steps" 399 425
abbrev k433:=kF "back" "AddStep.back" (N 29 3) "pactroom.steps" 399 432
abbrev k440:=kF "spelled" "AddStep.spelled" (N 29 4) "pactroom.steps" 399 439
abbrev k459:=kF "__init__" "PlusStep.__init__" (N 30 0) "pactroom.steps" 399 458
abbrev k466:=kF "step_done" "PlusStep.step_done" (N 30 1) "pactroom.steps" 399 465
abbrev k473:=kF "spelled" "PlusStep.spelled" (N 30 2) "pactroom.steps" 399 472
abbrev k492:=kF "__init__" "NeedStep.__init__" (N 31 0) "pactroom.steps" 399 491
abbrev k499:=kF "step_done" "NeedStep.step_done" (N 31 1) "pactroom.steps" 399 498
abbrev k506:=kF "spelled" "NeedStep.spelled" (N 31 2) "pactroom.steps" 399 505
abbrev k516:=kF "spell" "spell" (T 32) "pactroom.steps" 399 515
abbrev k521:=kF "read_step" "read_step" (T 33) "pactroom.steps" 399 520
abbrev k528:=kF "read_number" "read_number" (T 34) "pactroom.steps" 399 527
abbrev k535:=kF "made_step" "made_step" (T 35) "pactroom.steps" 399 534
abbrev k542:=kF "made_sum" "made_sum" (T 36) "pactroom.steps" 399 541
abbrev k557:=kF "__init__" "Pact.__init__" (N 40 0) "pactroom.pacts" 882 556
abbrev k562:=kF "spelled" "Pact.spelled" (N 40 1) "pactroom.pacts" 882 561
abbrev k574:=kF "read_pact" "read_pact" (T 41) "pactroom.pacts" 882 573
abbrev k581:=kF "read_part" "read_part" (T 42) "pactroom.pacts" 882 580
abbrev k586:=kF "houses_of" "houses_of" (T 43) "pactroom.pacts" 882 585
abbrev k593:=kF "turning" "turning" (T 44) "pactroom.pacts" 882 592
abbrev k607:=kF "__init__" "Lead.__init__" (N 47 0) "pactroom.leads" 955 606
abbrev k614:=kF "go" "Lead.go" (N 47 1) "pactroom.leads" 955 613
abbrev k621:=kF "turn" "Lead.turn" (N 47 2) "pactroom.leads" 955 620
abbrev k628:=kF "end" "Lead.end" (N 47 3) "pactroom.leads" 955 627
abbrev k635:=kF "came" "Lead.came" (N 47 4) "pactroom.leads" 955 634
abbrev k642:=kF "go_ahead" "Lead.go_ahead" (N 47 5) "pactroom.leads" 955 641
abbrev k649:=kF "go_from_end" "Lead.go_from_end" (N 47 6) "pactroom.leads" 955 648
abbrev k656:=kF "go_behind" "Lead.go_behind" (N 47 7) "pactroom.leads" 955 655
abbrev k663:=kF "naming" "Lead.naming" (N 47 8) "pactroom.leads" 955 662
abbrev k670:=kF "own_steps_done" "Lead.own_steps_done" (N 47 9) "pactroom.leads" 955 669
abbrev k677:=kF "next_house" "Lead.next_house" (N 47 10) "pactroom.leads" 955 676
abbrev k684:=kF "present_hand" "Lead.present_hand" (N 47 11) "pactroom.leads" 955 683
abbrev k691:=kF "send_step" "Lead.send_step" (N 47 12) "pactroom.leads" 955 690
abbrev k698:=kF "is_answer" "Lead.is_answer" (N 47 13) "pactroom.leads" 955 697
abbrev k717:=kF "__init__" "WalkedLead.__init__" (N 48 0) "pactroom.leads" 955 716
abbrev k724:=kF "go_ahead" "WalkedLead.go_ahead" (N 48 1) "pactroom.leads" 955 723
abbrev k731:=kF "came" "WalkedLead.came" (N 48 2) "pactroom.leads" 955 730
abbrev k738:=kF "is_walking" "WalkedLead.is_walking" (N 48 3) "pactroom.leads" 955 737
abbrev k745:=kF "is_undoing" "WalkedLead.is_undoing" (N 48 4) "pactroom.leads" 955 744
abbrev k752:=kF "go_from_end" "WalkedLead.go_from_end" (N 48 5) "pactroom.leads" 955 751
abbrev k759:=kF "go_behind" "WalkedLead.go_behind" (N 48 6) "pactroom.leads" 955 758
abbrev k766:=kF "come_up" "WalkedLead.come_up" (N 48 7) "pactroom.leads" 955 765
abbrev k773:=kF "walk_rest" "WalkedLead.walk_rest" (N 48 8) "pactroom.leads" 955 772
abbrev k780:=kF "undo_rest" "WalkedLead.undo_rest" (N 48 9) "pactroom.leads" 955 779
abbrev k792:=kF "no_value" "no_value" (T 49) "pactroom.leads" 955 791
abbrev k806:=kF "__init__" "Sheet.__init__" (N 51 0) "pactroom.sheets" 1213 805
abbrev k813:=kF "row" "Sheet.row" (N 51 1) "pactroom.sheets" 1213 812
abbrev k820:=kF "send" "Sheet.send" (N 51 2) "pactroom.sheets" 1213 819
abbrev k827:=kF "rows_told" "Sheet.rows_told" (N 51 3) "pactroom.sheets" 1213 826
abbrev k832:=kF "letters_told" "Sheet.letters_told" (N 51 4) "pactroom.sheets" 1213 831
abbrev k853:=kF "__init__" "Stand.__init__" (N 53 0) "pactroom.stands" 1279 852
abbrev k860:=kF "keep" "Stand.keep" (N 53 1) "pactroom.stands" 1279 859
abbrev k867:=kF "changes_of" "Stand.changes_of" (N 53 2) "pactroom.stands" 1279 866
abbrev k874:=kF "cell_at" "Stand.cell_at" (N 53 3) "pactroom.stands" 1279 873
abbrev k881:=kF "cells_told" "Stand.cells_told" (N 53 4) "pactroom.stands" 1279 880
abbrev k888:=kF "outcome" "Stand.outcome" (N 53 5) "pactroom.stands" 1279 887
abbrev k895:=kF "news" "Stand.news" (N 53 6) "pactroom.stands" 1279 894
abbrev k902:=kF "bound" "Stand.bound" (N 53 7) "pactroom.stands" 1279 901
abbrev k909:=kF "lost" "Stand.lost" (N 53 8) "pactroom.stands" 1279 908
abbrev k916:=kF "begun" "Stand.begun" (N 53 9) "pactroom.stands" 1279 915
abbrev k923:=kF "walked_at" "Stand.walked_at" (N 53 10) "pactroom.stands" 1279 922
abbrev k930:=kF "is_over" "Stand.is_over" (N 53 11) "pactroom.stands" 1279 929
abbrev k944:=kF "_law_cell_at" "_law_cell_at" (T 55) "law_pactroom_k45_undone_from_the_last" 1402 943
abbrev k951:=kF "_law_amount" "_law_amount" (T 56) "law_pactroom_k45_undone_from_the_last" 1402 950
abbrev k958:=kF "_law_step" "_law_step" (T 57) "law_pactroom_k45_undone_from_the_last" 1402 957
abbrev k965:=kF "_law_steps" "_law_steps" (T 58) "law_pactroom_k45_undone_from_the_last" 1402 964
abbrev k972:=kF "_law_last" "_law_last" (T 59) "law_pactroom_k45_undone_from_the_last" 1402 971
abbrev k979:=kF "_law_plain" "_law_plain" (T 60) "law_pactroom_k45_undone_from_the_last" 1402 978
abbrev k984:=kF "_law_way" "_law_way" (T 61) "law_pactroom_k45_undone_from_the_last" 1402 983
abbrev k991:=kF "_law_back" "_law_back" (T 62) "law_pactroom_k45_undone_from_the_last" 1402 990
abbrev k998:=kF "_law_due" "_law_due" (T 63) "law_pactroom_k45_undone_from_the_last" 1402 997
abbrev k1005:=kF "_law_came" "_law_came" (T 64) "law_pactroom_k45_undone_from_the_last" 1402 1004
abbrev k1010:=kF "law" "law" (T 65) "law_pactroom_k45_undone_from_the_last" 1402 1009
noncomputable def Kf:Params->Frag:=λP=>(nat_lit 2,boot_o_2 P)::(nat_lit 3,c1_3 P)::(nat_lit 15,a11)::(nat_lit 17,c0_17)::(nat_lit 18,a11)::(nat_lit 20,c0_20)::(nat_lit 21,k21 P)::(nat_lit 22,c0_22)::(nat_lit 29,a11)::(nat_lit 30,c0_30 P)::(nat_lit 31,c0_31)::(nat_lit 32,c0_32)::(nat_lit 35,c0_35)::(nat_lit 42,a11)::(nat_lit 43,c0_43 P)::(nat_lit 44,c0_44)::(nat_lit 47,c0_35)::(nat_lit 54,a11)::(nat_lit 55,c0_55 P)::(nat_lit 56,c0_56)::(nat_lit 59,c0_35)::(nat_lit 66,a11)::(nat_lit 68,c0_68)::(nat_lit 69,a11)::(nat_lit 71,c0_71)::(nat_lit 72,k72 P)::(nat_lit 73,c0_73)::(nat_lit 74,c0_74 P)::(nat_lit 75,c0_75)::(nat_lit 78,a11)::(nat_lit 80,c0_80)::(nat_lit 81,a11)::(nat_lit 83,c0_83)::(nat_lit 84,k84 P)::(nat_lit 85,a11)::(nat_lit 88,c0_88)::(nat_lit 89,k89 P)::(nat_lit 90,a11)::(nat_lit 93,c0_93)::(nat_lit 94,k94 P)::(nat_lit 95,a11)::(nat_lit 97,c0_97)::(nat_lit 98,a11)::(nat_lit 100,c0_100)::(nat_lit 101,k101 P)::(nat_lit 109,a11)::(nat_lit 111,c0_111)::(nat_lit 112,a11)::(nat_lit 114,c0_114)::(nat_lit 115,k115 P)::(nat_lit 116,a11)::(nat_lit 118,c0_118)::(nat_lit 119,a11)::(nat_lit 121,c0_121)::(nat_lit 122,k122 P)::(nat_lit 123,a11)::(nat_lit 125,c0_125)::(nat_lit 126,a11)::(nat_lit 128,c0_128)::(nat_lit 129,k129 P)::(nat_lit 130,a11)::(nat_lit 132,c0_132)::(nat_lit 133,a11)::(nat_lit 135,c0_135)::(nat_lit 136,k136 P)::(nat_lit 137,a11)::(nat_lit 139,c0_139)::(nat_lit 140,a11)::(nat_lit 142,c0_142)::(nat_lit 143,k143 P)::(nat_lit 144,a11)::(nat_lit 146,c0_146)::(nat_lit 147,a11)::(nat_lit 149,c0_149)::(nat_lit 150,k150 P)::(nat_lit 151,a11)::(nat_lit 153,c0_153)::(nat_lit 154,a11)::(nat_lit 156,c0_156)::(nat_lit 157,k157 P)::(nat_lit 158,c0_158)::(nat_lit 159,c0_159 P)::(nat_lit 160,c0_160)::(nat_lit 161,c0_161)::(nat_lit 162,c0_162)::(nat_lit 165,c0_165 P)::(nat_lit 173,a11)::(nat_lit 175,c0_175)::(nat_lit 176,a11)::(nat_lit 178,c0_178)::(nat_lit 179,k179 P)::(nat_lit 180,a11)::(nat_lit 182,c0_182)::(nat_lit 183,a11)::(nat_lit 185,c0_185)::(nat_lit 186,k186 P)::(nat_lit 187,a11)::(nat_lit 189,c0_189)::(nat_lit 190,a11)::(nat_lit 192,c0_192)::(nat_lit 193,k193 P)::(nat_lit 194,a11)::(nat_lit 196,c0_196)::(nat_lit 197,a11)::(nat_lit 199,c0_199)::(nat_lit 200,k200 P)::(nat_lit 201,a11)::(nat_lit 203,c0_203)::(nat_lit 204,a11)::(nat_lit 206,c0_206)::(nat_lit 207,k207 P)::(nat_lit 208,a11)::(nat_lit 210,c0_210)::(nat_lit 211,a11)::(nat_lit 213,c0_213)::(nat_lit 214,k214 P)::(nat_lit 215,a11)::(nat_lit 216,c0_216 P)::(nat_lit 217,c0_217)::(nat_lit 218,c0_218)::(nat_lit 219,c0_219)::(nat_lit 222,c0_222)::(nat_lit 229,a11)::(nat_lit 231,c0_231)::(nat_lit 232,a11)::(nat_lit 234,c0_234)::(nat_lit 235,k235 P)::(nat_lit 236,a11)::(nat_lit 238,c0_238)::(nat_lit 239,a11)::(nat_lit 241,c0_241)::(nat_lit 242,k242 P)::(nat_lit 243,c0_243)::(nat_lit 244,c0_244 P)::(nat_lit 245,c0_245)::(nat_lit 248,c0_248)::(nat_lit 255,a11)::(nat_lit 257,c0_257)::(nat_lit 258,a11)::(nat_lit 260,c0_260)::(nat_lit 261,k261 P)::(nat_lit 262,a11)::(nat_lit 264,c0_264)::(nat_lit 265,a11)::(nat_lit 267,c0_267)::(nat_lit 268,k268 P)::(nat_lit 269,a11)::(nat_lit 271,c0_271)::(nat_lit 272,a11)::(nat_lit 274,c0_274)::(nat_lit 275,k275 P)::(nat_lit 276,a11)::(nat_lit 277,c0_277 P)::(nat_lit 278,c0_278)::(nat_lit 281,c0_248)::(nat_lit 288,a11)::(nat_lit 290,c0_290)::(nat_lit 291,a11)::(nat_lit 293,c0_293)::(nat_lit 294,k294 P)::(nat_lit 295,a11)::(nat_lit 297,c0_297)::(nat_lit 298,a11)::(nat_lit 300,c0_300)::(nat_lit 301,k301 P)::(nat_lit 302,a11)::(nat_lit 304,c0_304)::(nat_lit 305,a11)::(nat_lit 307,c0_307)::(nat_lit 308,k308 P)::(nat_lit 309,a11)::(nat_lit 310,c0_310 P)::(nat_lit 311,c0_311)::(nat_lit 314,c0_222)::(nat_lit 321,a11)::(nat_lit 323,c0_323)::(nat_lit 324,a11)::(nat_lit 326,c0_326)::(nat_lit 327,k327 P)::(nat_lit 328,a11)::(nat_lit 330,c0_330)::(nat_lit 331,a11)::(nat_lit 333,c0_333)::(nat_lit 334,k334 P)::(nat_lit 335,a11)::(nat_lit 337,c0_337)::(nat_lit 338,a11)::(nat_lit 340,c0_340)::(nat_lit 341,k341 P)::(nat_lit 342,a11)::(nat_lit 345,c0_345)::(nat_lit 346,k346 P)::(nat_lit 347,a11)::(nat_lit 349,c0_349)::(nat_lit 350,a11)::(nat_lit 352,c0_352)::(nat_lit 353,k353 P)::(nat_lit 354,c0_354)::(nat_lit 355,c0_355 P)::(nat_lit 356,c0_356)::(nat_lit 359,c0_248)::(nat_lit 366,a11)::(nat_lit 368,c0_368)::(nat_lit 369,a11)::(nat_lit 371,c0_371)::(nat_lit 372,k372 P)::(nat_lit 373,a11)::(nat_lit 375,c0_375)::(nat_lit 376,a11)::(nat_lit 378,c0_378)::(nat_lit 379,k379 P)::(nat_lit 380,a11)::(nat_lit 382,c0_382)::(nat_lit 383,a11)::(nat_lit 385,c0_385)::(nat_lit 386,k386 P)::(nat_lit 387,a11)::(nat_lit 389,c0_389)::(nat_lit 390,a11)::(nat_lit 392,c0_392)::(nat_lit 393,k393 P)::(nat_lit 394,a11)::(nat_lit 395,c0_395 P)::(nat_lit 396,c0_396)::(nat_lit 399,c0_248)::(nat_lit 406,a11)::(nat_lit 408,c0_408)::(nat_lit 409,a11)::(nat_lit 411,c0_411)::(nat_lit 412,k412 P)::(nat_lit 413,a11)::(nat_lit 415,c0_415)::(nat_lit 416,a11)::(nat_lit 418,c0_418)::(nat_lit 419,k419 P)::(nat_lit 420,a11)::(nat_lit 422,c0_422)::(nat_lit 423,a11)::(nat_lit 425,c0_425)::(nat_lit 426,k426 P)::(nat_lit 427,a11)::(nat_lit 429,c0_429)::(nat_lit 430,a11)::(nat_lit 432,c0_432)::(nat_lit 433,k433 P)::(nat_lit 434,a11)::(nat_lit 436,c0_436)::(nat_lit 437,a11)::(nat_lit 439,c0_439)::(nat_lit 440,k440 P)::(nat_lit 441,c0_441)::(nat_lit 442,c0_442 P)::(nat_lit 443,c0_443)::(nat_lit 446,c0_222)::(nat_lit 453,a11)::(nat_lit 455,c0_455)::(nat_lit 456,a11)::(nat_lit 458,c0_458)::(nat_lit 459,k459 P)::(nat_lit 460,a11)::(nat_lit 462,c0_462)::(nat_lit 463,a11)::(nat_lit 465,c0_465)::(nat_lit 466,k466 P)::(nat_lit 467,a11)::(nat_lit 469,c0_469)::(nat_lit 470,a11)::(nat_lit 472,c0_472)::(nat_lit 473,k473 P)::(nat_lit 474,c0_474)::(nat_lit 475,c0_475 P)::(nat_lit 476,c0_476)::(nat_lit 479,c0_222)::(nat_lit 486,a11)::(nat_lit 488,c0_488)::(nat_lit 489,a11)::(nat_lit 491,c0_491)::(nat_lit 492,k492 P)::(nat_lit 493,a11)::(nat_lit 495,c0_495)::(nat_lit 496,a11)::(nat_lit 498,c0_498)::(nat_lit 499,k499 P)::(nat_lit 500,a11)::(nat_lit 502,c0_502)::(nat_lit 503,a11)::(nat_lit 505,c0_505)::(nat_lit 506,k506 P)::(nat_lit 507,c0_507)::(nat_lit 508,c0_508 P)::(nat_lit 509,c0_509)::(nat_lit 512,a11)::(nat_lit 515,c0_515)::(nat_lit 516,k516 P)::(nat_lit 517,a11)::(nat_lit 520,c0_520)::(nat_lit 521,k521 P)::(nat_lit 522,a11)::(nat_lit 524,c0_524)::(nat_lit 525,a11)::(nat_lit 527,c0_527)::(nat_lit 528,k528 P)::(nat_lit 529,a11)::(nat_lit 531,c0_531)::(nat_lit 532,a11)::(nat_lit 534,c0_534)::(nat_lit 535,k535 P)::(nat_lit 536,a11)::(nat_lit 538,c0_538)::(nat_lit 539,a11)::(nat_lit 541,c0_541)::(nat_lit 542,k542 P)::(nat_lit 543,c0_543)::(nat_lit 551,a11)::(nat_lit 553,c0_553)::(nat_lit 554,a11)::(nat_lit 556,c0_556)::(nat_lit 557,k557 P)::(nat_lit 558,a11)::(nat_lit 561,c0_561)::(nat_lit 562,k562 P)::(nat_lit 563,c0_563)::(nat_lit 564,c0_564 P)::(nat_lit 565,c0_565)::(nat_lit 566,c0_566)::(nat_lit 567,c0_567)::(nat_lit 570,a11)::(nat_lit 573,c0_573)::(nat_lit 574,k574 P)::(nat_lit 575,a11)::(nat_lit 577,c0_577)::(nat_lit 578,a11)::(nat_lit 580,c0_580)::(nat_lit 581,k581 P)::(nat_lit 582,a11)::(nat_lit 585,c0_585)::(nat_lit 586,k586 P)::(nat_lit 587,a11)::(nat_lit 589,c0_589)::(nat_lit 590,a11)::(nat_lit 592,c0_592)::(nat_lit 593,k593 P)::(nat_lit 601,a11)::(nat_lit 603,c0_603)::(nat_lit 604,a11)::(nat_lit 606,c0_606)::(nat_lit 607,k607 P)::(nat_lit 608,a11)::(nat_lit 610,c0_610)::(nat_lit 611,a11)::(nat_lit 613,c0_613)::(nat_lit 614,k614 P)::(nat_lit 615,a11)::(nat_lit 617,c0_617)::(nat_lit 618,a11)::(nat_lit 620,c0_620)::(nat_lit 621,k621 P)::(nat_lit 622,a11)::(nat_lit 624,c0_624)::(nat_lit 625,a11)::(nat_lit 627,c0_627)::(nat_lit 628,k628 P)::(nat_lit 629,a11)::(nat_lit 631,c0_631)::(nat_lit 632,a11)::(nat_lit 634,c0_634)::(nat_lit 635,k635 P)::(nat_lit 636,a11)::(nat_lit 638,c0_638)::(nat_lit 639,a11)::(nat_lit 641,c0_641)::(nat_lit 642,k642 P)::(nat_lit 643,a11)::(nat_lit 645,c0_645)::(nat_lit 646,a11)::(nat_lit 648,c0_648)::(nat_lit 649,k649 P)::(nat_lit 650,a11)::(nat_lit 652,c0_652)::(nat_lit 653,a11)::(nat_lit 655,c0_655)::(nat_lit 656,k656 P)::(nat_lit 657,a11)::(nat_lit 659,c0_659)::(nat_lit 660,a11)::(nat_lit 662,c0_662)::(nat_lit 663,k663 P)::(nat_lit 664,a11)::(nat_lit 666,c0_666)::(nat_lit 667,a11)::(nat_lit 669,c0_669)::(nat_lit 670,k670 P)::(nat_lit 671,a11)::(nat_lit 673,c0_673)::(nat_lit 674,a11)::(nat_lit 676,c0_676)::(nat_lit 677,k677 P)::(nat_lit 678,a11)::(nat_lit 680,c0_680)::(nat_lit 681,a11)::(nat_lit 683,c0_683)::(nat_lit 684,k684 P)::(nat_lit 685,a11)::(nat_lit 687,c0_687)::(nat_lit 688,a11)::(nat_lit 690,c0_690)::(nat_lit 691,k691 P)::(nat_lit 692,a11)::(nat_lit 694,c0_694)::(nat_lit 695,a11)::(nat_lit 697,c0_697)::(nat_lit 698,k698 P)::(nat_lit 699,c0_699)::(nat_lit 700,c0_700 P)::(nat_lit 701,c1_701)::(nat_lit 702,c0_702)::(nat_lit 703,c0_703)::(nat_lit 706,c1_706)::(nat_lit 713,a11)::(nat_lit 716,c1_716)::(nat_lit 717,k717 P)::(nat_lit 718,a11)::(nat_lit 720,c1_720)::(nat_lit 721,a11)::(nat_lit 723,c1_723)::(nat_lit 724,k724 P)::(nat_lit 725,a11)::(nat_lit 727,c1_727)::(nat_lit 728,a11)::(nat_lit 730,c1_730)::(nat_lit 731,k731 P)::(nat_lit 732,a11)::(nat_lit 734,c1_734)::(nat_lit 735,a11)::(nat_lit 737,c1_737)::(nat_lit 738,k738 P)::(nat_lit 739,a11)::(nat_lit 741,c1_741)::(nat_lit 742,a11)::(nat_lit 744,c1_744)::(nat_lit 745,k745 P)::(nat_lit 746,a11)::(nat_lit 748,c1_748)::(nat_lit 749,a11)::(nat_lit 751,c1_751)::(nat_lit 752,k752 P)::(nat_lit 753,a11)::(nat_lit 755,c1_755)::(nat_lit 756,a11)::(nat_lit 758,c1_758)::(nat_lit 759,k759 P)::(nat_lit 760,a11)::(nat_lit 762,c1_762)::(nat_lit 763,a11)::(nat_lit 765,c1_765)::(nat_lit 766,k766 P)::(nat_lit 767,a11)::(nat_lit 769,c1_769)::(nat_lit 770,a11)::(nat_lit 772,c1_772)::(nat_lit 773,k773 P)::(nat_lit 774,a11)::(nat_lit 776,c1_776)::(nat_lit 777,a11)::(nat_lit 779,c1_779)::(nat_lit 780,k780 P)::(nat_lit 781,c1_781)::(nat_lit 782,c1_782 P)::(nat_lit 783,c1_783)::(nat_lit 786,a11)::(nat_lit 788,c1_788)::(nat_lit 789,a11)::(nat_lit 791,c1_791)::(nat_lit 792,k792 P)::(nat_lit 800,a11)::(nat_lit 802,c1_802)::(nat_lit 803,a11)::(nat_lit 805,c1_805)::(nat_lit 806,k806 P)::(nat_lit 807,a11)::(nat_lit 809,c1_809)::(nat_lit 810,a11)::(nat_lit 812,c1_812)::(nat_lit 813,k813 P)::(nat_lit 814,a11)::(nat_lit 816,c1_816)::(nat_lit 817,a11)::(nat_lit 819,c1_819)::(nat_lit 820,k820 P)::(nat_lit 821,a11)::(nat_lit 823,c1_823)::(nat_lit 824,a11)::(nat_lit 826,c1_826)::(nat_lit 827,k827 P)::(nat_lit 828,a11)::(nat_lit 831,c1_831)::(nat_lit 832,k832 P)::(nat_lit 833,c1_833)::(nat_lit 834,c1_834 P)::(nat_lit 835,c1_835)::(nat_lit 836,c1_836)::(nat_lit 837,c1_837)::(nat_lit 847,a11)::(nat_lit 849,c1_849)::(nat_lit 850,a11)::(nat_lit 852,c1_852)::(nat_lit 853,k853 P)::(nat_lit 854,a11)::(nat_lit 856,c1_856)::(nat_lit 857,a11)::(nat_lit 859,c1_859)::(nat_lit 860,k860 P)::(nat_lit 861,a11)::(nat_lit 863,c1_863)::(nat_lit 864,a11)::(nat_lit 866,c1_866)::(nat_lit 867,k867 P)::(nat_lit 868,a11)::(nat_lit 870,c1_870)::(nat_lit 871,a11)::(nat_lit 873,c1_873)::(nat_lit 874,k874 P)::(nat_lit 875,a11)::(nat_lit 877,c1_877)::(nat_lit 878,a11)::(nat_lit 880,c1_880)::(nat_lit 881,k881 P)::(nat_lit 882,a11)::(nat_lit 884,c1_884)::(nat_lit 885,a11)::(nat_lit 887,c1_887)::(nat_lit 888,k888 P)::(nat_lit 889,a11)::(nat_lit 891,c1_891)::(nat_lit 892,a11)::(nat_lit 894,c1_894)::(nat_lit 895,k895 P)::(nat_lit 896,a11)::(nat_lit 898,c1_898)::(nat_lit 899,a11)::(nat_lit 901,c1_901)::(nat_lit 902,k902 P)::(nat_lit 903,a11)::(nat_lit 905,c1_905)::(nat_lit 906,a11)::(nat_lit 908,c1_908)::(nat_lit 909,k909 P)::(nat_lit 910,a11)::(nat_lit 912,c1_912)::(nat_lit 913,a11)::(nat_lit 915,c1_915)::(nat_lit 916,k916 P)::(nat_lit 917,a11)::(nat_lit 919,c1_919)::(nat_lit 920,a11)::(nat_lit 922,c1_922)::(nat_lit 923,k923 P)::(nat_lit 924,a11)::(nat_lit 926,c1_926)::(nat_lit 927,a11)::(nat_lit 929,c1_929)::(nat_lit 930,k930 P)::(nat_lit 931,c1_931)::(nat_lit 932,c1_932 P)::(nat_lit 933,c1_933)::(nat_lit 934,c1_934)::(nat_lit 935,c1_935)::(nat_lit 938,a11)::(nat_lit 940,c1_940)::(nat_lit 941,a11)::(nat_lit 943,c1_943)::(nat_lit 944,k944 P)::(nat_lit 945,a11)::(nat_lit 947,c1_947)::(nat_lit 948,a11)::(nat_lit 950,c1_950)::(nat_lit 951,k951 P)::(nat_lit 952,a11)::(nat_lit 954,c1_954)::(nat_lit 955,a11)::(nat_lit 957,c1_957)::(nat_lit 958,k958 P)::(nat_lit 959,a11)::(nat_lit 961,c1_961)::(nat_lit 962,a11)::(nat_lit 964,c1_964)::(nat_lit 965,k965 P)::(nat_lit 966,a11)::(nat_lit 968,c1_968)::(nat_lit 969,a11)::(nat_lit 971,c1_971)::(nat_lit 972,k972 P)::(nat_lit 973,a11)::(nat_lit 975,c1_975)::(nat_lit 976,a11)::(nat_lit 978,c1_978)::(nat_lit 979,k979 P)::(nat_lit 980,a11)::(nat_lit 983,c1_983)::(nat_lit 984,k984 P)::(nat_lit 985,a11)::(nat_lit 987,c1_987)::(nat_lit 988,a11)::(nat_lit 990,c1_990)::(nat_lit 991,k991 P)::(nat_lit 992,a11)::(nat_lit 994,c1_994)::(nat_lit 995,a11)::(nat_lit 997,c1_997)::(nat_lit 998,k998 P)::(nat_lit 999,a11)::(nat_lit 1001,c1_1001)::(nat_lit 1002,a11)::(nat_lit 1004,c1_1004)::(nat_lit 1005,k1005 P)::(nat_lit 1006,a11)::(nat_lit 1009,c1_1009)::(nat_lit 1010,k1010 P)::[]
noncomputable def Ka:List Addr:=[2,3,15,17,18,20,21,22,29,30,31,32,35,42,43,44,47,54,55,56,59,66,68,69,71,72,73,74,75,78,80,81,83,84,85,88,89,90,93,94,95,97,98,100,101,109,111,112,114,115,116,118,119,121,122,123,125,126,128,129,130,132,133,135,136,137,139,140,142,143,144,146,147,149,150,151,153,154,156,157,158,159,160,161,162,165,173,175,176,178,179,180,182,183,185,186,187,189,190,192,193,194,196,197,199,200,201,203,204,206,207,208,210,211,213,214,215,216,217,218,219,222,229,231,232,234,235,236,238,239,241,242,243,244,245,248,255,257,258,260,261,262,264,265,267,268,269,271,272,274,275,276,277,278,281,288,290,291,293,294,295,297,298,300,301,302,304,305,307,308,309,310,311,314,321,323,324,326,327,328,330,331,333,334,335,337,338,340,341,342,345,346,347,349,350,352,353,354,355,356,359,366,368,369,371,372,373,375,376,378,379,380,382,383,385,386,387,389,390,392,393,394,395,396,399,406,408,409,411,412,413,415,416,418,419,420,422,423,425,426,427,429,430,432,433,434,436,437,439,440,441,442,443,446,453,455,456,458,459,460,462,463,465,466,467,469,470,472,473,474,475,476,479,486,488,489,491,492,493,495,496,498,499,500,502,503,505,506,507,508,509,512,515,516,517,520,521,522,524,525,527,528,529,531,532,534,535,536,538,539,541,542,543,551,553,554,556,557,558,561,562,563,564,565,566,567,570,573,574,575,577,578,580,581,582,585,586,587,589,590,592,593,601,603,604,606,607,608,610,611,613,614,615,617,618,620,621,622,624,625,627,628,629,631,632,634,635,636,638,639,641,642,643,645,646,648,649,650,652,653,655,656,657,659,660,662,663,664,666,667,669,670,671,673,674,676,677,678,680,681,683,684,685,687,688,690,691,692,694,695,697,698,699,700,701,702,703,706,713,716,717,718,720,721,723,724,725,727,728,730,731,732,734,735,737,738,739,741,742,744,745,746,748,749,751,752,753,755,756,758,759,760,762,763,765,766,767,769,770,772,773,774,776,777,779,780,781,782,783,786,788,789,791,792,800,802,803,805,806,807,809,810,812,813,814,816,817,819,820,821,823,824,826,827,828,831,832,833,834,835,836,837,847,849,850,852,853,854,856,857,859,860,861,863,864,866,867,868,870,871,873,874,875,877,878,880,881,882,884,885,887,888,889,891,892,894,895,896,898,899,901,902,903,905,906,908,909,910,912,913,915,916,917,919,920,922,923,924,926,927,929,930,931,932,933,934,935,938,940,941,943,944,945,947,948,950,951,952,954,955,957,958,959,961,962,964,965,966,968,969,971,972,973,975,976,978,979,980,983,984,985,987,988,990,991,992,994,995,997,998,999,1001,1002,1004,1005,1006,1009,1010]
theorem ke(P:Params):Ka=(Kf P).map (·.1):=by kernel_rfl
noncomputable abbrev HK:Hook:=kHook Kf Ka ke
noncomputable abbrev R:RowW:=PySem.Challenge.rw_pactroom_k45_undone_from_the_last.row.toRowW
noncomputable abbrev lo:List Str:=[Str.ofString "SHAPES"]
noncomputable abbrev lvv:List (Str×WData):=[]
noncomputable def qv:Program:={p0 with main:={p0.main with body:=[T 0,T 2,T 3,T 4,T 5,T 7,T 8,T 9,T 10,T 11,T 12,T 13,T 14,T 15,T 16,T 17,T 18,T 19,T 21,T 22,T 23,T 24,T 25,T 26,T 27,T 28,T 29,T 30,T 31,T 32,T 33,T 34,T 35,T 36,T 38,T 39,T 40,T 41,T 42,T 43,T 44,T 46,T 47,T 48,T 49,T 51,T 53,T 55,T 56,T 57,T 58,T 59,T 60,T 61,T 62,T 63,T 64,T 65]}}
noncomputable abbrev Xt:Shared->Bool:=λs=>xlAt qv lvv s&&recOk (RowW.records R) s
theorem size_l(w:World):((boot_heap w.params).isNs mainGlobals&&(A []:Array GenState).size==0,(boot_heap w.params).objs.size,(boot_heap w.params).nsMap mainGlobals "__annotations__")=(true,11,(sr 6)):=by kernel_rfl
theorem look1(w:World)(os:OsState):(staticsOk (importedModules p0.main.body) (boot_heap w.params) (H1 w.params)&&namesBound p0 (H1 w.params)&&gensDone ⟨H1 w.params,Array.mk [],(@Drawn.mk 0 0 0 0),1509,os⟩&&laidKept (boot_heap w.params) (H1 w.params))=true:=by kernel_rfl
theorem look2(w:World)(os:OsState):openSeen qv lo (importedModules p0.main.body) Xt true ⟨H1 w.params,Array.mk [],(@Drawn.mk 0 0 0 0),1509,os⟩=openGood qv lo:=by kernel_rfl
theorem look3(w:World)(os:OsState):Hook.obs HK ⟨H1 w.params,Array.mk [],(@Drawn.mk 0 0 0 0),1509,os⟩=Hook.val HK w:=by kernel_rfl
theorem left:LeftO p0 qv lo Xt (Hook.obs HK) (Hook.val HK) 15600:=LeftO.of_pieces (boot_open (by kernel_rfl) (by kernel_rfl) (λs=>by kernel_rfl)) size_l run_l (by decide) λw=>funext λos=>looks_pair (look1 w os) (looks_pair (look2 w os) (look3 w os))
end
end Q
end
namespace L2
open PySem PySem.Spec PyProof.Rows
section
variable {X:Cx}
theorem gi:dY X (.builtin "isinstance") (λxs H Q=>∃x t n b,xs=[x,.ty n]/\TyOf X.K H x t/\PySem.W.kitOne X.K t (.type n)=some b/\Q (.bl b) H):=by
 intro pins s σ H xs us Q I r h
 obtain ⟨x,t,n,b,rfl,ty,e,q⟩:=h
 obtain ⟨u,u2,rfl,rx,r2⟩:=xi r
 cases (show u2=Value.type n from r2)
 exact rK I rx ty e λtk=>⟨.bl b,H,I.tok _,rfl,q⟩
theorem jU:MtR X "str.startswith" (λx vs H Q=>∃z y i,x=.str z/\vs=[.str y,.int i]/\Q (.bl (Txt.startswith3 z y i)) H):=by
 intro pins s σ H x xs v us Q I rx r h
 obtain ⟨z,y,i,rfl,rfl,q⟩:=h
 obtain ⟨t,rfl⟩:=rx
 obtain ⟨u,u2,rfl,⟨t1,rfl⟩,⟨t2,rfl⟩⟩:=xi r
 exact SC.startswith3 ⟨.bl _,H,I,rfl,q⟩
theorem kz:MtR X "str.startswith" (λx vs H Q=>∃z y,x=.str z/\vs=[.str y]/\Q (.bl (Txt.startswith z y)) H):=by
 intro pins s σ H x xs v us Q I rx r h
 obtain ⟨z,y,rfl,rfl,q⟩:=h
 obtain ⟨t,rfl⟩:=rx
 obtain ⟨u,rfl,⟨t1,rfl⟩⟩:=cR r
 exact SC.startswith ⟨.bl _,H,I,rfl,q⟩
theorem pD:MtR X "str.isdigit" (λx vs H Q=>∃z,x=.str z/\vs=[]/\Q (.bl (Txt.isdigit z)) H):=by
 intro pins s σ H x xs v us Q I rx r h
 obtain ⟨z,rfl,rfl,q⟩:=h
 obtain ⟨t,rfl⟩:=rx
 cases r
 exact SC.isdigit ⟨.bl _,H,I,rfl,q⟩
theorem kI:dY X (.type "int") (λxs H Q=>∃z n,xs=[.str z]/\PySem.intText? z=some n/\z.length<=640/\Q (.int n) H):=by
 intro pins s σ H xs us Q I r h
 obtain ⟨z,n,rfl,e,hl,q⟩:=h
 obtain ⟨u,rfl,⟨t,rfl⟩⟩:=cR r
 exact PySem.W.KIN.call_text e hl ⟨.int n,H,I.tok _,⟨_,rfl⟩,q⟩
theorem sT:SlR X (λx lo hi H Q=>∃z,x=.str z/\z.length<=sizeLine/\Q (.str (Txt.slice z lo hi)) H):=by
 intro pins s σ H x v vl vu lo hi sl Q I rx hs pl pu h
 obtain ⟨z,rfl,hz,q⟩:=h
 obtain ⟨t,rfl⟩:=rx
 refine ⟨"str",_,F.slot_str_getitem.lookup,typeIs_str _ _ _,?_⟩
 cases pl<;>cases pu
 ·exact wpAny_getItem_str_slice (l:=none) (u:=none) (st:=none) hs rfl (post_val_or_str ⟨Λ (Txt.slice_le z _ _) hz,λt' k=>⟨.str _,H,I.tok _,⟨_,rfl⟩,q⟩⟩)
 ·exact wpAny_getItem_str_slice (l:=none) (u:=some (_,_)) (st:=none) hs rfl (post_val_or_str ⟨Λ (Txt.slice_le z _ _) hz,λt' k=>⟨.str _,H,I.tok _,⟨_,rfl⟩,q⟩⟩)
 ·exact wpAny_getItem_str_slice (l:=some (_,_)) (u:=none) (st:=none) hs rfl (post_val_or_str ⟨Λ (Txt.slice_le z _ _) hz,λt' k=>⟨.str _,H,I.tok _,⟨_,rfl⟩,q⟩⟩)
 ·exact wpAny_getItem_str_slice (l:=some (_,_)) (u:=some (_,_)) (st:=none) hs rfl (post_val_or_str ⟨Λ (Txt.slice_le z _ _) hz,λt' k=>⟨.str _,H,I.tok _,⟨_,rfl⟩,q⟩⟩)
theorem ox(hc:X.calm=true):dY X (.builtin "all") (λxs H Q=>∃(p:Addr) (bs:List Bool),xs=[.ref p]/\SqL X.K H p (bs.map V.bl)/\Q (.bl (bs.all id)) H):=by
 intro pins s σ H xs us Q I r h
 obtain ⟨p,bs,rfl,hq,q⟩:=h
 obtain ⟨u,rfl,rx⟩:=cR r
 cases (show u=Value.ref p from rx)
 obtain ⟨its,rv,pl,hz⟩:=I.list hq
 have hl:=pl.isList
 have hlt:p<s.heap.objs.size:=by obtain ⟨_,e,_⟩:=hl;exact η e
 have hh:X.A.handled=none:=I.ok.hd hc
 have hlen:bs.length=its.length:=by have:=rv.length;rw [List.length_map] at this;exact this
 refine call_all_walk (wpAny_pyIter_list hl ?_)
 refine ⟨s.heap.objs.size,[s.heap.objs.size,p],[s.heap.objs.size],its.toArray.size,_,_,λi=>(bs[i]?).getD true,rfl,Walks.list (A:=X.A.in1) hh _ p (Φ hlt) its.toArray,
  ⟨⟨_,ψ _ rfl,rfl,rfl⟩,hl.push _⟩,λi v s' Q' E' hP hQ=>?_,λh' tk hk=>?_⟩
 ·have hP':its[i]?=some v:=by simpa using hP
  have hi:i<its.length:=(List.getElem?_eq_some_iff.mp hP').1
  have hb:(bs.map V.bl)[i]?=some (V.bl (bs[i]'(ω))):=by rw [List.getElem?_map,ξ ω];rfl
  obtain ⟨u',e1,e2⟩:=rv.get hb
  rw [hP'] at e1
  cases e1
  cases (show v=Value.bool _ from e2)
  have hQ':Q' ((bs[i]?).getD true) s':=hQ
  rw [ξ ω] at hQ'
  exact wpAny_truthy_bool hQ'
 ·have e:((List.range its.toArray.size).all λi=>(bs[i]?).getD true)=bs.all id:=by
   rw [List.size_toArray,← hlen];exact LSm.range_all bs
  rw [e]
  exact ⟨.bl _,H,I.kept (LSm.kept_iter hk),rfl,q⟩
end
end L2
namespace L2
open PySem PySem.Spec PyProof.Rows
def da(env:Env):List (Str×NameKind)->List (Str×Addr)->List (Str×Addr)
 | [],cs=>cs
 | (n,k)::r,cs=>da env r (if k==.free then match env.cells.lookup n with | some a=>(n,a)::cs | none=>cs else cs)
theorem fq{scope:Scope}{env:Env}(h:∀y∈scope.names,y.2=.free->∃c,env.cells.lookup y.1=some c):closureFor scope env=pure (da env scope.names []):=by
 have key:∀(l:List (Str×NameKind)) (cs:List (Str×Addr)),(∀y∈l,y.2=.free->∃c,env.cells.lookup y.1=some c) ->
   (forIn l cs (λ(x:Str×NameKind) (r:List (Str×Addr))=>(if (x.2==NameKind.free)=true then (do let a ← cellOf env x.1;pure (ForInStep.yield ((x.1,a)::r))) else pure (ForInStep.yield r):Sem (ForInStep (List (Str×Addr))))))=(pure (da env l cs):Sem _):=by
  intro l
  induction l with
  | nil=>intro cs _;rfl
  | cons y r ih =>
   intro cs hy
   obtain ⟨n,k⟩:=y
   have hr:∀z∈r,z.2=.free->∃c,env.cells.lookup z.1=some c:=λz hz=>hy z (Θ _ hz)
   rw [List.forIn_cons]
   by_cases hk:(k==NameKind.free)=true
   ·obtain ⟨c,hc⟩:=hy (n,k) List.mem_cons_self (by simpa using hk)
    have e:cellOf env n=pure c:=by unfold cellOf;rw [hc]
    simp only [hk,if_true,e,pure_bind,da,hc]
    exact ih _ hr
   ·have hk':(k==NameKind.free)=false:=by simpa using hk
    simp only [hk',Bool.false_eq_true,if_false,pure_bind,da]
    exact ih _ hr
 have e:closureFor scope env=(forIn scope.names ([]:List (Str×Addr)) (λ(x:Str×NameKind) (r:List (Str×Addr))=>(if (x.2==NameKind.free)=true then (do let a ← cellOf env x.1;pure (ForInStep.yield ((x.1,a)::r))) else pure (ForInStep.yield r):Sem (ForInStep (List (Str×Addr))))) >>= λcs=>pure cs):=by
  unfold closureFor
  rfl
 rw [e,key scope.names [] h]
 all_goals rfl
theorem iZ{env:Env}:∀(l:List (Str×NameKind)) (cs:List (Str×Addr)),(∀p∈cs,env.cells.lookup p.1=some p.2)->∀p∈da env l cs,env.cells.lookup p.1=some p.2
 | [],cs,h,p,hp=>h p hp
 | (n,k)::r,cs,h,p,hp=>by
  unfold da at hp
  refine iZ r _ ?_ p hp
  split
  ·split
   ·rename_i a ea
    intro q hq
    rcases List.mem_cons.mp hq with e | hq
    ·rw [e];exact ea
    ·exact h q hq
   ·exact h
  ·exact h
theorem jc{env:Env}:∀(l:List (Str×NameKind)) (cs:List (Str×Addr)) {y:Str},(∃p∈cs,p.1=y)->∃p∈da env l cs,p.1=y
 | [],cs,y,h=>h
 | (n,k)::r,cs,y,⟨p,hp,e⟩=>by
  unfold da
  refine jc r _ ?_
  split
  ·split
   ·exact ⟨p,Θ _ hp,e⟩
   ·exact ⟨p,hp,e⟩
  ·exact ⟨p,hp,e⟩
theorem lp{env:Env}:∀(l:List (Str×NameKind)) (cs:List (Str×Addr)) {y:Str} {c:Addr},(y,NameKind.free)∈l->env.cells.lookup y=some c->∃p∈da env l cs,p.1=y
 | (n,k)::r,cs,y,c,hm,hc=>by
  unfold da
  rcases List.mem_cons.mp hm with e | hm
  ·cases e
   refine jc r _ ?_
   rw [if_pos (by rfl),hc]
   exact ⟨_,Ω,rfl⟩
  ·exact lp r _ hm hc
theorem gI{α:Type}:∀{l:List (Str×α)} {p:Str×α},p∈l->∃c,l.lookup p.1=some c
 | q::l,p,h=>by
  obtain ⟨n,a⟩:=q
  rw [List.lookup_cons]
  split
  ·exact ⟨_,rfl⟩
  ·rename_i hne
   rcases List.mem_cons.mp h with e | h
   ·subst e;simp at hne
   ·exact gI h
theorem iw{env:Env}{l:List (Str×NameKind)}{y:Str}{c:Addr}(hm:(y,NameKind.free)∈l)(hc:env.cells.lookup y=some c):(da env l []).lookup y=some c:=by
 obtain ⟨p,hp,e⟩:=lp l [] hm hc
 obtain ⟨c',e'⟩:=gI hp
 rw [e] at e'
 have q:=iZ l [] (λ_ z=>nomatch z) _ (PySem.mem_of_lookup e')
 rw [hc] at q
 rw [e']
 exact q.symm
theorem bR{env:Env}{l:List (Str×NameKind)}{y:Str}{c:Addr}(h:(da env l []).lookup y=some c):env.cells.lookup y=some c :=
 iZ l [] (λ_ z=>nomatch z) _ (PySem.mem_of_lookup h)
theorem eR{env:Env}:∀{names:List (Str×NameKind)} {x:Str} {k:NameKind},(names.map λ(n,k)=>if (k==NameKind.free&&env.scope.kind==.function&&env.kindOf n==some .cell) then (n,NameKind.cell) else (n,k)).lookup x=some k ->
  ∃k',names.lookup x=some k'/\(k'=k\/k'=.free)
 | [],_,_,h=>by simp at h
 | (n,k0)::r,x,k,h=>by
  have ih:=@eR env r x k
  have h:List.lookup x ((if (k0==NameKind.free&&env.scope.kind==.function&&env.kindOf n==some .cell)=true then (n,NameKind.cell) else (n,k0))::_)=some k:=h
  cases hx:x==n with
  | true =>
   refine ⟨k0,by simp only [List.lookup_cons,hx],?_⟩
   by_cases hc:(k0==NameKind.free&&env.scope.kind==.function&&env.kindOf n==some .cell)=true
   ·refine .inr ?_
    simp only [Bool.and_eq_true] at hc
    exact beq_iff_eq.mp hc.1.1
   ·rw [if_neg hc] at h
    simp only [List.lookup_cons,hx] at h
    exact .inl (Δ h)
  | false =>
   have h2:List.lookup x (r.map λ(n,k)=>if (k==NameKind.free&&env.scope.kind==.function&&env.kindOf n==some .cell) then (n,NameKind.cell) else (n,k))=some k:=by
    by_cases hc:(k0==NameKind.free&&env.scope.kind==.function&&env.kindOf n==some .cell)=true
    ·rw [if_pos hc] at h;simp only [List.lookup_cons,hx] at h;exact h
    ·rw [if_neg hc] at h;simp only [List.lookup_cons,hx] at h;exact h
   obtain ⟨k',e1,e2⟩:=ih h2
   exact ⟨k',by simp only [List.lookup_cons,hx];exact e1,e2⟩
theorem fj{env:Env}:∀{names:List (Str×NameKind)} {x:Str},names.lookup x=some .free ->
  (names.map λ(n,k)=>if (k==NameKind.free&&env.scope.kind==.function&&env.kindOf n==some .cell) then (n,NameKind.cell) else (n,k)).lookup x=some .cell \/
  (names.map λ(n,k)=>if (k==NameKind.free&&env.scope.kind==.function&&env.kindOf n==some .cell) then (n,NameKind.cell) else (n,k)).lookup x=some .free
 | [],_,h=>by simp at h
 | (n,k0)::r,x,h=>by
  have ih:=@fj env r x
  show List.lookup x ((if (k0==NameKind.free&&env.scope.kind==.function&&env.kindOf n==some .cell)=true then (n,NameKind.cell) else (n,k0))::_)=some .cell\/List.lookup x ((if (k0==NameKind.free&&env.scope.kind==.function&&env.kindOf n==some .cell)=true then (n,NameKind.cell) else (n,k0))::_)=some .free
  cases hx:x==n with
  | true =>
   simp only [List.lookup_cons,hx] at h
   by_cases hc:(k0==NameKind.free&&env.scope.kind==.function&&env.kindOf n==some .cell)=true
   ·rw [if_pos hc];simp only [List.lookup_cons,hx];simp
   ·rw [if_neg hc];simp only [List.lookup_cons,hx];exact .inr (by rw [Option.some.inj h])
  | false =>
   simp only [List.lookup_cons,hx] at h
   by_cases hc:(k0==NameKind.free&&env.scope.kind==.function&&env.kindOf n==some .cell)=true
   ·rw [if_pos hc];simp only [List.lookup_cons,hx];exact ih h
   ·rw [if_neg hc];simp only [List.lookup_cons,hx];exact ih h
def Its(z:Str):It:=⟨λi _=>i<z.length,λi H x H'=>H'=H/\∃c,z.cps.toList[i]?=some c/\x=.str ⟨#[c]⟩,λi _=>z.length<=i⟩
structure StrIt(P:Program)(w:World)(it:Addr)(ty:String)(z:Str)(t:Tok):Prop where
 W:∀A':Around,A'.handled=none->Walks P w A' it [it] [it] z.cps.size (SignAt z) (λi h=>h.IsStrIter it ty z t i)
 en:∀(A:Around) (i:Nat) (s:Shared) (Q:Option Value->Shared->Prop) (E:Value->Shared->Prop),A.handled=none->s.heap.IsStrIter it ty z t i->z.cps[i]?=none ->
  (∀h',Heap.ExtBut it s.heap h'->Q none {s with heap:=h'})->wpAny (model P w) A (pyNext (.ref it)) Q E s
 me:∀(A:Around) (i:Nat) (s:Shared) (Q:Value->Shared->Prop) (E:Value->Shared->Prop),s.heap.IsStrIter it ty z t i->Q (.ref it) s->wpAny (model P w) A (pyIter (.ref it)) Q E s
 ne:["enumerate","zip","dict_itemiterator","dict_reverseitemiterator","odict_iterator","itertools.zip_longest","itertools.pairwise"].contains ty=false
theorem StrIt.ascii{P:Program}{w:World}(it:Addr)(z:Str)(t:Tok):StrIt P w it "str_ascii_iterator" z t :=
 ⟨λ_ hA=>Walks.strAscii hA it z t,λ_ _ _ _ _ hA st hx hQ=>wpAny_pyNext_ascii_end hA st hx hQ,λ_ _ _ _ _ st h=>wpAny_pyIter_striter_ascii st h,ζ⟩
theorem StrIt.wide{P:Program}{w:World}(it:Addr)(z:Str)(t:Tok):StrIt P w it "str_iterator" z t :=
 ⟨λ_ hA=>Walks.strWide hA it z t,λ_ _ _ _ _ hA st hx hQ=>wpAny_pyNext_wide_end hA st hx hQ,λ_ _ _ _ _ st h=>wpAny_pyIter_striter_wide st h,ζ⟩
theorem sk{P:Program}{w:World}{K:Frag}{tg:Expr}{z:Str}{t:Tok}{it:Addr}{ty:String}(S:StrIt P w it ty z t) :
  rX P w K tg (Its z) [it] it (λi h=>h.IsStrIter it ty z t i) where
 mem:=by simp
 obj:=λi h st b hb=>by
  have e:b=it:=by simpa using hb
  subst e
  obtain ⟨o,e,c,d⟩:=st
  exact ⟨o,e,λv q=>by rw [d] at q;cases q⟩
 keep:=λi h h' st k=>by
  obtain ⟨o,e,r⟩:=st
  exact ⟨o,k it (by simp) o e,r⟩
 item:=by
  intro X hP hw hK hc i pins s σ H E I hf st hg
  subst hP hw hK
  obtain ⟨f0,f1,f2,f3,f4,f5⟩:=hf it (by simp)
  refine (S.W X.A (I.ok.hd hc)).item i s _ _ hg st λv h' tk hv st' kk=>?_
  obtain ⟨c,u,hc',rfl⟩:=hv
  have I1:Inv X pins σ H {s with heap:=h',toks:=tk}:=I.turned (λb o hb e=>kk b o (by simpa using hb) e) f0 f1 f3 f4 f5
  obtain ⟨o,e,c1,d1⟩:=id st'
  exact ⟨_,rfl,qy (s:={s with heap:=h',toks:=tk}) e c1 d1 S.ne ⟨.str ⟨#[c]⟩,H,I1,⟨u,rfl⟩,⟨rfl,c,by rw [Array.getElem?_toList];exact hc',rfl⟩,st',λb hb=>(hf b hb).1⟩⟩
 done:=by
  intro X hP hw hK hc i pins s σ H E I hf st hg
  subst hP hw hK
  obtain ⟨f0,f1,f2,f3,f4,f5⟩:=hf it (by simp)
  refine S.en X.A i s _ _ (I.ok.hd hc) st ?_ λh' eb=>⟨rfl,I.turned (t':=s.toks) (λb o hb e=>eb b o hb e) f0 f1 f3 f4 f5⟩
  exact Array.getElem?_eq_none hg
 self:=λA i s Q E st h=>S.me A i s Q E st h
def AZ(tl:TE):TI:=fun σ H R=>tl σ H λx H1=>∃z,x=.str z/\R (Its z) H1
theorem yn{X:Cx}{tg l:Expr}{tl:TE}(hl:PE X l tl):PI X tg l (AZ tl):=by
 intro pins s σ H R I h
 refine thn (hl pins s σ H _ I h) λv s1 ⟨x,H1,I1,r1,q1⟩=>?_
 obtain ⟨z,rfl,q⟩:=q1
 obtain ⟨t,rfl⟩:=r1
 have fin:∀(o:Obj) (ty:String),StrIt X.prog X.w s1.heap.objs.size ty z t->(s1.heap.push o).IsStrIter s1.heap.objs.size ty z t 0->PIE X pins σ tg R (.ref s1.heap.objs.size) {s1 with heap:=s1.heap.push o}:=λo ty S st=>by
  refine ⟨s1.heap.objs.size,[s1.heap.objs.size],_,Its z,H1,rfl,I1.kept (t':=s1.toks) λb o e=>ρ _ e,sk S,st,λb hb=>?_,q⟩
  have e:b=s1.heap.objs.size:=by simpa using hb
  subst e
  exact I1.fpOk (ι _) (I1.hok.fresh (ι _))
 cases ha:z.cps.all (·<128)
 ·exact wpAny_pyIter_wide ha (fin _ _ (.wide _ z t) ⟨_,ψ _ rfl,rfl,rfl⟩)
 ·exact wpAny_pyIter_ascii ha (fin _ _ (.ascii _ z t) ⟨_,ψ _ rfl,rfl,rfl⟩)
def Cx.blk(X:Cx)(N':List Str)(scope:Scope)(C:Addr)(fp:List Addr)(s:Shared)(H:Hp):Cx :=
 {X with N:=N',s₀:=s,H₀:=H,env:=compEnvC scope (da X.env scope.names []) C X.env,outer:=X.stack,ex:=fp,fn:=λ_=>false,pn:=[],xe:=λ_ _=>False}
structure bV(N:List Str)(sc scope:Scope)(x:Str)(N':List Str)(fv:List Nat):Prop where
 nocell:∀y∈scope.names,y.2≠.cell
 kind:scope.kind=.function
 names:∀y∈scope.names,y.2=.local->scope.names.lookup y.1=some .local
 loc:scope.names.lookup x=some .local
 free:∀y∈scope.names,y.2=.free->sc.names.lookup y.1=some .cell\/sc.names.lookup y.1=some .free
 nd:N'.Nodup
 hd:N'[0]?=some x
 len:N'.length=fv.length+1
 at_:∀j,j<fv.length->(N'[j+1]?).isSome=true/\N'[j+1]?=(fv[j]?).bind (λi=>N[i]?)/\(N'[j+1]?).bind (λy=>scope.names.lookup y)=some .free
def bc(fv:List Nat)(σ:St):St:=fv.map λk=>(σ[k]?).join
abbrev lF(ifs:List Expr)(env:Env):Sem Bool:=forIn ifs true λc r=>if r=true then do let ok ← isTrue c env (eval c env);pure (ForInStep.yield ok) else pure (ForInStep.yield r)
def PTs(X:Cx)(ifs:List Expr)(t:TT):Prop :=
 ∀(pins:List (Addr×Obj)) (s:Shared) (σ:St) (H:Hp) (Q:Bool->Hp->Prop),Inv X pins σ H s->t σ H Q->wpAny (model X.prog X.w) X.A (lF ifs X.env) (TP X pins σ Q) X.xe s
def vK:TT:=λ_ H Q=>Q true H
theorem eT{X:Cx}:PTs X [] vK:=λpins s σ H Q I h=>π ⟨H,I,h⟩
theorem qj{X:Cx}{c:Expr}{t:TT}(hc:PT X c t):PTs X [c] t:=by
 intro pins s σ H Q I h
 have e:lF [c] X.env=(isTrue c X.env (eval c X.env) >>= λok=>pure ok):=by
  unfold lF
  rw [List.forIn_cons]
  simp
 rw [e]
 exact ε (thn (hc pins s σ H Q I h) λb s1 q=>π q)
def tLC(wi:TI)(fv:List Nat)(tt:TT)(te:TE):TE:=fun σ H Q=>wi σ H λJ H1=>∃(W:Nat->List V->Hp->Prop) (n:Nat),W 0 [] H1/\n<=sizeLine/\∀i ys H,W i ys H ->
 (J.stop i H/\∀p,H p=none->Q (.ref p) (upd H p (.lst ys))) \/
 (J.go i H/\i<n/\∀x H',J.yld i H x H'->tt (some x::bc fv σ) H' λc H2=>if c=true then te (some x::bc fv σ) H2 λy H3=>W (i+1) (ys++[y]) H3 else W (i+1) ys H2)
section
variable {X:Cx}{N':List Str}{scope:Scope}{x:Str}{fv:List Nat}
theorem qF{pins:List (Addr×Obj)}{σ:St}{H:Hp}{s:Shared}{fp:List Addr}{C:Addr}{h1:Heap}{m:Str->Option Value}{tk:Nat}{pl:List (Addr×Obj)}(S:bV X.N X.env.scope scope x N' fv)(I:Inv X pins σ H s)
  (hf:∀b∈fp,mL X pins H b)(hfo:∀b∈fp,b<s.heap.objs.size)(hC:s.heap.objs.size<=C)(kp:∀b o,s.heap.get? b=some o->h1.get? b=some o)(hn:h1.Ns C m)
  (hpl:∀p∈pl,h1.get? p.1=some p.2/\s.heap.objs.size<=p.1/\p.1≠C/\∀v,p.2.data≠.cell v) :
  Inv (X.blk N' scope C fp s H) pl (none::bc fv σ) H {s with heap:=h1,toks:=tk}:=by
 have clo:∀y c,(da X.env scope.names []).lookup y=some c->X.env.cells.lookup y=some c:=λy c e=>bR e
 have cell:∀y c,(da X.env scope.names []).lookup y=some c->∃v,s.heap.IsCell c v:=λy c e=>I.cell y c (clo y c e)
 have lt:∀y c,(da X.env scope.names []).lookup y=some c->c<s.heap.objs.size:=λy c e=>by obtain ⟨v,q⟩:=cell y c e;exact q.lt
 have kc:∀c v,s.heap.IsCell c v->h1.IsCell c v:=λc v q=>by obtain ⟨o,e,d⟩:=q;exact ⟨o,kp _ _ e,d⟩
 refine ⟨⟨I.ok.mod,S.kind,I.ok.glob,I.ok.blt,hC,λy z c e1 e2=>I.ok.inj y z c (clo y c e1) (clo z c e2),λy hy=>?_,λy c e=>?_,I.ok.hd,I.ok.frames,.inl rfl,λb hb=>⟨?_,λy c e z=>(hf b hb).2.2.2.2.1 y c (clo y c e) z⟩,λb o e=>I.bs b o e,Λ I.ok.bsz I.sz,λb o e hb=>?_,λb hb hb2=>?_,I.stack,I.stkFree⟩,
  rfl,I.bare,Un.kept kp,⟨m,hn,λi y v h1' h2 h3=>?_⟩,λy c e=>?_,I.hok.fresh hC,λy c e=>I.freeC y c (clo y c e),λp hp=>?_,I.hok.kept kp,?_⟩
 ·have hy':∃k,scope.names.lookup y=some k/\k=.free:=by
   rcases hy with hy | hy
   ·obtain ⟨k',e1,e2⟩:=eR (env:=X.env) (names:=scope.names) (x:=y) (k:=.cell) hy
    rcases e2 with e2 | e2
    ·exact absurd e2 (S.nocell _ (PySem.mem_of_lookup e1))
    ·exact ⟨k',e1,e2⟩
   ·obtain ⟨k',e1,e2⟩:=eR (env:=X.env) (names:=scope.names) (x:=y) (k:=.free) hy
    rcases e2 with e2 | e2
    ·exact ⟨k',e1,e2⟩
    ·exact ⟨k',e1,e2⟩
  obtain ⟨k,e,rfl⟩:=hy'
  have hm:=PySem.mem_of_lookup e
  obtain ⟨c,hc⟩:=I.ok.has y (S.free _ hm rfl)
  exact ⟨c,iw hm hc⟩
 ·exact (Bool.false_ne_true (show false=true from e)).elim
 ·exact Φ (Nat.lt_of_lt_of_le (hfo b hb) hC)
 ·have e':=e
  rcases (hf b hb).2.2.2.1 with z | z
  ·exact I.ok.noex b o e z
  ·exact absurd (Nat.lt_of_lt_of_le (η e) (Λ I.ok.bsz z)) (Nat.lt_irrefl _)
 ·have q:=I.stkSub b hb2
  rcases List.mem_cons.mp q with z | z
  ·exact (hf b hb).2.1 z
  ·exact (hf b hb).2.2.1 z
 ·cases i with
  | zero =>
   have z:(none:Option V)=some v:=Δ h2
   cases z
  | succ j =>
   have h2':(bc fv σ)[j]?=some (some v):=h2
   unfold bc at h2'
   rw [List.getElem?_map] at h2'
   cases ej:fv[j]? with
   | none=>rw [ej] at h2';cases h2'
   | some k =>
    rw [ej] at h2'
    have h4:(σ[k]?).join=some v:=Δ h2'
    have h5:σ[k]?=some (some v):=by
     cases es:σ[k]? with
     | none=>rw [es] at h4;cases h4
     | some w'=>rw [es] at h4;rw [show w'=some v from h4]
    have hj:j<fv.length:=(List.getElem?_eq_some_iff.mp ej).1
    obtain ⟨_,a1,a2⟩:=S.at_ j hj
    have h1'':N'[j+1]?=some y:=h1'
    rw [h1''] at a1 a2
    rw [ej] at a1
    have a3:X.N[k]?=some y:=a1.symm
    have a4:scope.names.lookup y=some .free:=a2
    have hm:=PySem.mem_of_lookup a4
    have kd:X.env.kindOf y=some .cell\/X.env.kindOf y=some .free:=S.free _ hm rfl
    obtain ⟨mX,_,hlX⟩:=I.loc
    obtain ⟨u,ru,lk⟩:=hlX k y v a3 h5 (kd.elim (λz=>.inr (.inl z)) λz=>.inr (.inr z))
    refine ⟨u,ru,.inr ?_⟩
    rcases lk with ⟨z,_⟩ | ⟨_,c,hc,hcell⟩
    ·rcases kd with z' | z'<;>rw [z'] at z<;>cases z
    ·exact ⟨fj (env:=X.env) a4,c,iw hm hc,kc _ _ hcell⟩
 ·obtain ⟨v,q⟩:=cell y c e
  exact ⟨v,kc _ _ q⟩
 ·have hp':p∈pl:=hp
  obtain ⟨e,l1,l2,d⟩:=hpl p hp'
  exact ⟨e,I.hok.fresh l1,l2,λz=>absurd (I.stkSub _ z) (λq=>by
   rcases List.mem_cons.mp q with q | q
   ·exact absurd I.lt (by rw [← q];exact Nat.not_lt.mpr l1)
   ·exact I.nofs l1 q),d⟩
 ·show (none::bc fv σ).length=N'.length
  rw [S.len]
  unfold bc
  simp
end
end L2
namespace L2
open PySem PySem.Spec PyProof.Rows
theorem nox{α:Type}{t:Sem α}{Q Q':α->Shared->Prop}{M:Model}{A:Around}{E:Value->Shared->Prop}{s:Shared}(h:wpAny M A t Q (λ_ _=>False) s)(hQ:∀a s,Q a s->Q' a s):wpAny M A t Q' E s:=wpAny_mono h hQ λ_ _ f=>f.elim
set_option maxHeartbeats 1600000 in
theorem i4{X:Cx}{elt iter:Expr}{x:Str}{px:Pos}{ifs:List Expr}{scope:Scope}{pos:Pos}{N':List Str}{fv:List Nat}{wi:TI}{tt:TT}{te:TE}
  (S:bV X.N X.env.scope scope x N' fv)(hc:X.calm=true)(hi:PI X (.Name x px) iter wi)
  (ht:∀C fp s H,PTs (X.blk N' scope C fp s H) ifs tt)(he:∀C fp s H,PE (X.blk N' scope C fp s H) elt te)
  (hs:∀x,foldedSetIterable iter X.env x=pure x:=by intro _;rfl) :
  PE X (.ListComp elt [⟨.Name x px,iter,ifs,0⟩] scope pos) (tLC wi fv tt te):=by
 intro pins s σ H Q I h
 rw [eval_ListComp]
 refine wpAny_comprehension_free (use:=none) rfl hs (fq λy hy hk=>I.ok.has y.1 (S.free y hy hk)) S.kind S.names
  (wpAny_mono (hi pins s σ H _ I h) (λxv s1 h1=>wpAny_mono h1 (λitv s2 h2=>?_) λ_ _ e=>e) λ_ _ e=>e)
 obtain ⟨it,fp,tn,J,H2,rfl,I2,T,st2,f2,W,n,w0,hn,turn⟩:=h2
 refine wpAny_newObj_type (wpAny_newFunctionEnv S.nocell (by intro y hy;simp at hy) (λh1 hns hsb=>?_) S.kind)
 dsimp only at hns hsb ⊢
 generalize hH:s2.heap.push {cls:=.type "list",dict:=none,data:=.seq ([]:List Value).toArray}=G at hns hsb ⊢
 have hG:G.objs.size=s2.heap.objs.size+1:=by rw [← hH,Heap.size_push]
 have kpG:∀b o,s2.heap.get? b=some o->G.get? b=some o:=λb o e=>hH▸ρ _ e
 have kp1:∀b o,b<G.objs.size->G.get? b=some o->h1.get? b=some o:=λb o lt e=>hsb.extBut b o (Φ lt) (ρ _ e)
 have kp:∀b o,s2.heap.get? b=some o->h1.get? b=some o:=λb o e=>kp1 b o (by rw [hG];exact Nat.lt_succ_of_lt (η e)) (kpG b o e)
 have hD:h1.PlainList s2.heap.objs.size #[]:=⟨_,kp1 _ _ (by rw [hG];exact Nat.lt_succ_self _) (hH▸ψ _ rfl)⟩
 have hDC:s2.heap.objs.size≠G.objs.size:=by rw [hG];exact Φ (Nat.lt_succ_self _)
 have hC:s2.heap.objs.size<=G.objs.size:=by rw [hG];exact Nat.le_succ _
 have hfo:∀b∈fp,b<s2.heap.objs.size:=λb hb=>by obtain ⟨o,e,_⟩:=T.obj 0 _ st2 b hb;exact η e
 have stat:∀{H':Hp} {pl:List (Addr×Obj)},(∀b∈fp,H' b=none)->(∀p∈pl,p.1∉fp)->∀b∈fp,mL (X.blk N' scope G.objs.size fp s2 H2) pl H' b:=λ{H' pl} hn hpl b hb=>by
  obtain ⟨_,g1,g2,g3,g4,g5⟩:=f2 b hb
  refine ⟨hn b hb,Φ (Nat.lt_of_lt_of_le (hfo b hb) hC),λz=>?_,.inl hb,λy c e=>g4 y c (bR e),λp hp e=>?_⟩
  ·rcases List.mem_cons.mp (I2.stkSub b z) with q | q
   ·exact g1 q
   ·exact g2 q
  ·exact hpl p hp (e▸hb)
 have hDf:s2.heap.objs.size∉fp:=λz=>absurd (hfo _ z) (Nat.lt_irrefl _)
 have hlc:(X.blk N' scope G.objs.size fp s2 H2).env.scope.names.lookup x=some .local:=lookup_relabel_local S.loc
 have hcl:∀y c,(X.blk N' scope G.objs.size fp s2 H2).env.cells.lookup y=some c->c≠s2.heap.objs.size:=λy c e z=>by
  obtain ⟨v,q⟩:=I2.cell y c (bR e)
  exact absurd q.lt (by rw [z];exact Nat.lt_irrefl _)
 have pin1:∀{s':Shared} {H':Hp} {ob:Obj} {i:Nat} {ys:List V},Inv (X.blk N' scope G.objs.size fp s2 H2) [] (none::bc fv σ) H' s'->s'.heap.get? s2.heap.objs.size=some ob->(∀v,ob.data≠.cell v)->H' s2.heap.objs.size=none ->
   Inv (X.blk N' scope G.objs.size fp s2 H2) [(s2.heap.objs.size,ob)] (none::bc fv σ) H' s':=λ{s' H' ob i ys} J1 e d f=>J1.pins_of λp hp=>by
  have z:p=(s2.heap.objs.size,ob):=by simpa using hp
  subst z
  refine ⟨e,f,hDC,λz=>?_,d⟩
  rcases List.mem_cons.mp (I2.stkSub _ z) with q | q
  ·exact absurd I2.lt (by rw [← q];exact Nat.lt_irrefl _)
  ·exact I2.nofs (ι _) q
 have loop:∀s3:Shared,s3={s2 with heap:=h1,toks:=s2.toks+([]:List (Str×Value)).length} ->
   codeAny (model X.prog X.w) X.A (.compLoop (.ListComp elt [⟨.Name x px,iter,ifs,0⟩] scope pos) 0 (.ref it) (.ref s2.heap.objs.size) (X.blk N' scope G.objs.size fp s2 H2).env)
    (compPost (model X.prog X.w) X.A X.xe none (EP X pins σ Q) (.ref s2.heap.objs.size) G.objs.size) s3:=by
  rintro s3 rfl
  refine codeAny_compLoop_tests (λk s'=>∃i ys H' its,k=n+1-i/\i<=n/\ys.length<=i/\Vals ys its/\s'.heap.PlainList s2.heap.objs.size its.toArray /\
   Inv (X.blk N' scope G.objs.size fp s2 H2) [] (none::bc fv σ) H' s'/\H' s2.heap.objs.size=none/\tn i s'.heap/\(∀b∈fp,H' b=none)/\W i ys H') ?_ (n+1)
   ⟨0,[],H2,[],rfl,Nat.zero_le _,ι _,.nil,hD,qF S I2 f2 hfo hC kp hns (λp hp=>nomatch hp),I2.hok.fresh (ι _),T.keep _ _ _ st2 λb _ o e=>kp b o e,λb hb=>(f2 b hb).1,w0⟩
  rintro k s4 ⟨i,ys,H4,its,rfl,hin,hyi,rv,pl4,I4,fD4,st4,ff4,w4⟩
  obtain ⟨cnt,eD⟩:=id pl4
  have I4p:=pin1 (i:=i) (ys:=ys) I4 eD (λv z=>by cases z) fD4
  have np:∀p∈[(s2.heap.objs.size,({cls:=.type "list",data:=.seq its.toArray cnt}:Obj))],p.1∉fp:=λp hp=>by
   have z:p=(s2.heap.objs.size,({cls:=.type "list",data:=.seq its.toArray cnt}:Obj)):=by simpa using hp
   subst z;exact hDf
  rcases turn i ys H4 w4 with ⟨stop,fin⟩ | ⟨go,hi2,step⟩
  ·refine wpAny_mono (T.done (X.blk N' scope G.objs.size fp s2 H2) rfl rfl rfl hc i _ s4 _ H4 _ I4p (stat ff4 np) st4 stop) (λr s5 ⟨hr,I5⟩=>?_) λ_ _ e=>e
   subst hr
   obtain ⟨m5,hm5,_⟩:=I5.loc
   have eD5:s5.heap.get? s2.heap.objs.size=some {cls:=.type "list",data:=.seq its.toArray cnt}:=(I5.pin _ (Ψ _ Ω)).1
   refine ⟨m5,hm5,λh' sb=>⟨.ref s2.heap.objs.size,upd H4 s2.heap.objs.size (.lst ys),?_,rfl,fin _ fD4⟩⟩
   have ltC:∀{b:Addr} {o:Obj},s2.heap.get? b=some o->b≠G.objs.size:=λ{b o} e=>Φ (Nat.lt_of_lt_of_le (η e) hC)
   have fD2:H2 s2.heap.objs.size=none:=I2.hok.fresh (ι _)
   have ltD:∀{b:Addr} {o:Obj},s2.heap.get? b=some o->b≠s2.heap.objs.size:=λ{b o} e=>Φ (η e)
   have B:=I5.base
   refine I2.call' (s':={s5 with heap:=h'}) (ch:=fp) I5.os ⟨λb o e nb hb hx=>?_,λb o e nb hb hx=>?_,λb o e nb hx=>?_,λb o e hx=>?_,λb xs e=>?_,λb o u e=>?_,λb ps e=>?_⟩ ?_ I5.bare λb hb=>?_
   ·exact sb.extBut b o (ltC e) (B.keep b o e nb hb hx)
   ·obtain ⟨sl,q⟩:=B.slot b o e nb hb hx
    exact ⟨sl,sb.extBut b _ (ltC e) q⟩
   ·rw [aw (ltD e)];exact B.free b o e nb hx
   ·obtain ⟨o',q⟩:=B.there b o e hx
    exact ⟨o',sb.extBut b o' (ltC e) q⟩
   ·have e':H2 b=some (.tup xs):=e
    rw [aw (ah e' fD2)];exact B.tups b xs e
   ·have e':H2 b=some (.frz o u):=e
    rw [aw (ah e' fD2)];exact B.frzs b o u e
   ·have e':H2 b=some (.tbl ps):=e
    rw [aw (ah e' fD2)];exact B.tbls b ps e
   ·intro b u e
    by_cases hb:b=s2.heap.objs.size
    ·subst hb
     rw [ae] at e
     cases e
     exact ⟨Λ hyi (Λ hin hn),its,cnt,rv,sb.extBut _ _ hDC eD5⟩
    ·rw [aw hb] at e
     have fC:H4 G.objs.size=none:=I5.free
     refine (I5.hok b u e).stay (λc v hc' q=>sb.extBut c v ?_ q) (λc q=>by rw [aw (ah q fD4)];exact q) λc xs q=>by rw [aw (ah q fD4)];exact q
     rcases hc' with z | z
     ·subst z;exact ah e fC
     ·exact ah z fC
   ·obtain ⟨_,g1,g2,g3,g4,g5⟩:=f2 b hb
    exact ⟨g3,g1,g4,g5⟩
  ·refine wpAny_mono (T.item (X.blk N' scope G.objs.size fp s2 H2) rfl rfl rfl hc i _ s4 _ H4 _ I4p (stat ff4 np) st4 go) (λr s5 ⟨u,hr,h5⟩=>?_) λ_ _ e=>e
   subst hr
   show wpAny _ _ (letOwnedTupleGo (.Name x px) (.ref it) u >>= λ_=>assign (.Name x px) (X.blk N' scope G.objs.size fp s2 H2).env u) _ _ s5
   refine ε (wpAny_mono h5 (λ_ s6 ⟨xv,H6,I6,r6,y6,st6,ff6⟩=>?_) λ_ _ e=>e)
   have I6':=I6.pinned (stat ff6 np) (T.obj _ _ st6)
   have out:∀{σ':St} {H':Hp} {s':Shared},Inv (X.blk N' scope G.objs.size fp s2 H2) ([(s2.heap.objs.size,({cls:=.type "list",data:=.seq its.toArray cnt}:Obj))]++iM fp s6.heap) σ' H' s' ->
     s'.heap.PlainList s2.heap.objs.size its.toArray/\H' s2.heap.objs.size=none/\(∀b∈fp,H' b=none)/\(∀b∈fp,∀o,s6.heap.get? b=some o->s'.heap.get? b=some o):=λ{σ' H' s'} J1=>by
    have q:=J1.pin (s2.heap.objs.size,({cls:=.type "list",data:=.seq its.toArray cnt}:Obj)) (Ψ _ (List.mem_append_left _ Ω))
    refine ⟨⟨cnt,q.1⟩,q.2.1,λb hb=>?_,λb hb o e=>(J1.pin (b,o) (Ψ _ (Ψ _ (cU hb e)))).1⟩
    obtain ⟨o,e,d⟩:=T.obj _ _ st6 b hb
    exact (J1.pin (b,o) (Ψ _ (Ψ _ (cU hb e)))).2.1
   refine nox ((cn (X:=X.blk N' scope G.objs.size fp s2 H2) (i:=0) S.nd S.hd (.inl hlc) (.inr hlc)) _ s6 _ H6 xv u (fun σ' H'=>σ'=some xv::bc fv σ/\H'=H6) I6' r6 ⟨rfl,rfl⟩) λ_ s7 ⟨σ7,H7,I7,e7,e7'⟩=>?_
   subst e7 e7'
   refine nox (ht _ _ _ _ _ s7 _ H7 _ I7 (step xv H7 y6)) λok s8 ⟨H8,I8,q8⟩=>?_
   cases ok with
   | false =>
    obtain ⟨o1,o2,o3,o4⟩:=out I8
    exact ⟨n+1-(i+1),ω,i+1,ys,H8,its,rfl,hi2,υ hyi,rv,o1,(I8.pins_of (pins':=[]) λp hp=>nomatch hp).weak (σ':=none::bc fv σ) rfl (λj v e=>by
     cases j with
     | zero=>cases (show (none:Option V)=some v from Δ e)
     | succ j=>exact e),o2,T.keep _ _ _ st6 o4,o3,q8⟩
   | true =>
    refine nox (he _ _ _ _ _ s8 _ H8 _ I8 q8) λyv s9 ⟨y,H9,I9,r9,q9⟩=>?_
    obtain ⟨o1,o2,o3,o4⟩:=out I9
    have hlen:=rv.length
    refine wpAny_list_append_plain (hsz:=by rw [List.size_toArray,← hlen];exact Λ hyi (Λ hin hn)) o1 λh' pl' sb'=>?_
    have I9':Inv (X.blk N' scope G.objs.size fp s2 H2) [] (some xv::bc fv σ) H9 {s9 with heap:=h'} :=
     (I9.pins_of (pins':=[]) λp hp=>nomatch hp).turned (t':=s9.toks) (it:=s2.heap.objs.size) (λb o hb e=>sb'.extBut b o hb e) o2 hDC (.inr (ι _)) hcl (λp hp=>nomatch hp)
    refine ⟨n+1-(i+1),ω,i+1,ys++[y],H9,its++[yv],rfl,hi2,by rw [List.length_append];exact Nat.succ_le_succ hyi,rv.append (.cons r9 .nil),?_,I9'.weak (σ':=none::bc fv σ) rfl (λj v e=>by
     cases j with
     | zero=>cases (show (none:Option V)=some v from Δ e)
     | succ j=>exact e),o2,T.keep _ _ _ st6 λb hb o e=>sb'.extBut b o (λz=>hDf (z▸hb)) (o4 b hb o e),o3,q9⟩
    have e9:(its++[yv]).toArray=its.toArray.push yv:=by simp
    rw [e9]
    exact pl'
 exact codeAny_compStart_list (loop _ rfl) (T.self _ 0 _ _ _ (T.keep _ _ _ st2 λb _ o e=>kp b o e) (loop _ rfl))
end L2
namespace L2
open PySem PySem.Spec PyProof.Rows
theorem oM{ys:List Str}:∀{us:List Value},Vals (ys.map V.str) us->StrsAre us ys:=by
 induction ys with
 | nil=>intro us r;rw [List.map_nil] at r;cases r;exact .nil
 | cons y ys ih =>
  intro us r
  rw [List.map_cons] at r
  cases r with
  | cons r1 r2 =>
   obtain ⟨t,e⟩:=r1
   subst e
   exact .cons y t (ih r2)
theorem qu{X:Cx}:MtR X "str.join" (λx vs H Q=>∃(sep:Str) (p:Addr) (ys:List Str),x=.str sep/\vs=[.ref p]/\SqL X.K H p (ys.map V.str)/\(ys.map (·.length)).sum+ys.length*sep.length<=16777216/\Q (.str (Str.join sep ys)) H):=by
 intro pins s σ H x xs v us Q I rx r h
 obtain ⟨sep,p,ys,rfl,rfl,hq,hok,q⟩:=h
 obtain ⟨t,rfl⟩:=rx
 obtain ⟨u,rfl,rp⟩:=cR r
 cases (show u=Value.ref p from rp)
 obtain ⟨its,rv,pl,hz⟩:=I.list hq
 refine join_list pl.isList (by simpa using oM rv) hok λt' k=>⟨.str _,H,I.tok _,⟨_,rfl⟩,?_⟩
 rw [eq_of_beq (join_closes (sep:=sep) (sep':=sep) (ys:=ys) rfl)]
 exact q
end L2
namespace L2
open PySem PySem.Spec PyProof.Rows
end L2
namespace L2
open PySem PySem.Spec PyProof.Rows
open Builtin Builtin.Str
theorem kY(c:Nat):∀ys:List Str,ys.length<=(Str.join ⟨#[c]⟩ ys).length+1
 | []=>Nat.zero_le _
 | [y]=>by simp
 | y::u::ys=>by
  have ih:=kY c (u::ys)
  rw [join_cons_cons]
  have e:(y++(⟨#[c]⟩:Str)++Str.join ⟨#[c]⟩ (u::ys)).length=y.length+1+(Str.join ⟨#[c]⟩ (u::ys)).length:=by
   show ((y.cps++#[c])++(Str.join ⟨#[c]⟩ (u::ys)).cps).size=_
   rw [Array.size_append,Array.size_append]
   rfl
  rw [e,List.length_cons]
  omega
theorem iC:∀(l:List (Str×Tok)),Vals ((l.map (·.1)).map V.str) (strValues l)
 | []=>.nil
 | p::l=>.cons ⟨p.2,rfl⟩ (iC l)
section
variable {X:Cx}
theorem rF:MtR X "str.split" (λx vs H Q=>∃(z:Str) (c:Nat),x=.str z/\vs=[.str ⟨#[c]⟩]/\z.length<=1000000/\∀p,H p=none->Q (.ref p) (upd H p (.lst ((Txt.split z ⟨#[c]⟩).map V.str)))):=by
 intro pins s σ H x xs v us Q I rx r h
 obtain ⟨z,c,rfl,rfl,hz,q⟩:=h
 obtain ⟨t,rfl⟩:=rx
 obtain ⟨u,rfl,⟨t1,rfl⟩⟩:=cR r
 have hs:(1000002:Nat)<=sizeLine:=by decide
 have many:(Txt.split z ⟨#[c]⟩).length<=sizeLine:=by
  have:=kY c (Txt.split z ⟨#[c]⟩)
  rw [StrLaws.join_split] at this
  omega
 have fin:∀(l:List (Str×Tok)) (k:Nat),l.map (·.1)=Txt.split z ⟨#[c]⟩->EP X pins σ Q (.ref s.heap.objs.size) {s with toks:=k,heap:=s.heap.push {cls:=.type "list",data:=.seq (strValues l).toArray}}:=λl k el =>
  ⟨.ref s.heap.objs.size,_,I.laid (t':=k) (o:=.lst ((Txt.split z ⟨#[c]⟩).map V.str)) (λb o e=>ρ _ e) (ι _)
   (show ObjOk X.prog X.w _ _ _ (.lst ((Txt.split z ⟨#[c]⟩).map V.str)) from ⟨by rw [List.length_map];exact many,strValues l,0,el▸iC l,ψ _ rfl⟩),rfl,q _ (I.hok.fresh (ι _))⟩
 have hy:((⟨#[c]⟩:Str).length==0)=false:=rfl
 cases h1:(decide (z.length<(⟨#[c]⟩:Str).length)||decide (strKind z<strKind ⟨#[c]⟩)) with
 | true =>
  have es:Txt.split z ⟨#[c]⟩=[z]:=by unfold Txt.split;rw [if_pos h1]
  exact call_meets F.slot_str_split (typeIs_str _ _ _) F.entry_str_split (F.args_str_split_2 _ _) (meets_str_split_cannot_occur z ⟨#[c]⟩ t t1 h1) (fin [(z,t)] s.toks es.symm)
 | false =>
  cases hf:(occurrences z ⟨#[c]⟩ 0 z.length (z.length+1)).isEmpty with
  | true =>
   have es:Txt.split z ⟨#[c]⟩=[z]:=by unfold Txt.split;rw [if_neg (by rw [h1];decide),if_pos hf]
   exact call_meets F.slot_str_split (typeIs_str _ _ _) F.entry_str_split (F.args_str_split_2 _ _) (meets_str_split_not_found z ⟨#[c]⟩ t t1 h1 hy hf) (fin [(z,t)] s.toks es.symm)
  | false =>
   have es:Txt.split z ⟨#[c]⟩=partsBetween z (occurrences z ⟨#[c]⟩ 0 z.length (z.length+1)) (⟨#[c]⟩:Str).length:=by unfold Txt.split;rw [if_neg (by rw [h1];decide),if_neg (by rw [hf];decide)]
   refine call_meets F.slot_str_split (typeIs_str _ _ _) F.entry_str_split (F.args_str_split_2 _ _) (meets_str_split_sep z ⟨#[c]⟩ t t1 h1 hy hf ω (by rw [← es];exact many)) ?_
   rw [strsFrom_eq]
   exact fin _ _ ((numbered_texts _ _).trans es.symm)
theorem we{body:List Stmt}{h₀:ExceptHandler}{hs:List ExceptHandler}{pos:Pos}{t:TS}(hb:PSs X.nox body t):PS X (.Try body (h₀::hs) [] [] pos) t:=by
 intro pins s σ H D I h
 refine wpAny_Try_except (wpAny_mono (hb pins s σ H D (I.wish _) h) (λf s1 q=>?_) λ_ _ e=>e.elim)
 cases f with
 | next=>exact wpAny_execs_nil (SP.unwish (f:=.next) q)
 | brk=>exact SP.unwish (f:=.brk) q
 | cont=>exact SP.unwish (f:=.cont) q
 | ret v=>exact SP.unwish (f:=.ret v) q
end
end L2
namespace L2
open PySem PySem.Spec PyProof.Rows
end L2
namespace L2
open PySem PySem.Spec PyProof.Rows
end L2
namespace L2
open PySem PySem.Spec PyProof.Rows
def Cov(l:List Env)(h0:Heap)(H:Hp)(B h:Heap):Prop:=∀b o,h.get? b=some o->b∉frs l->(H b≠none\/∃o0,h0.get? b=some o0)->B.get? b=some o
def Fly(l:List Env)(h0:Heap)(H:Hp)(ea C:Addr)(h:Heap):Prop:=∃B a0,Heap.FlyingW B l ea (.ref C) a0 h/\Cov l h0 H B h
def CXE(P:Program)(w:World):CXT:=λouter H s E e s'=>∃ea C H',e=.ref ea/\s'.os=s.os/\AllBare s'.gens/\Un (frs outer) [] H H' s.heap s'.heap/\HOk P w H' s'.heap/\Fly outer s.heap H' ea C s'.heap/\E e (some C) H'
theorem ObjOk.there{P:Program}{w:World}{H:Hp}{h:Heap}{a:Addr}{o:HO}(x:ObjOk P w H h a o):∃ob,h.get? a=some ob:=by
 cases o with
 | lst xs=>obtain ⟨_,_,_,_,e⟩:=x;exact ⟨_,e⟩
 | tup xs=>obtain ⟨_,_,_,o,e,_⟩:=x;exact ⟨_,e⟩
 | dK kvs=>obtain ⟨_,_,_,_,o,_,_,e,_⟩:=x;exact ⟨_,e⟩
 | dT kvs=>obtain ⟨_,_,_,_,o,_,_,e,_⟩:=x;exact ⟨_,e⟩
 | set S n=>obtain ⟨o,_,_,_,e,_⟩:=x;exact ⟨_,e⟩
 | ins C dx fs=>obtain ⟨_,_,_,e,_⟩:=x;exact ⟨_,e⟩
 | own y=>obtain ⟨_,e⟩:=x;exact ⟨_,e⟩
 | xd fs=>obtain ⟨_,⟨_,_,_,e,_⟩,_⟩:=x;exact ⟨_,e⟩
 | rng lo hi=>obtain ⟨_,_,_,e⟩:=x;exact ⟨_,e⟩
 | frz ob u=>obtain ⟨e,_⟩:=x;exact ⟨_,e⟩
 | tbl ps=>exact ⟨_,(show h.get? a=some _ from x)⟩
 | met f y=>exact ⟨_,(show h.get? a=some _ from x)⟩
 | ext φ=>obtain ⟨_,⟨_,e⟩,_⟩:=x;exact ⟨_,e⟩
section
variable {l:List Env}{H:Hp}{B h h' hc:Heap}{P:Program}{w:World}
theorem Cov.stay(c:Cov l hc H B h)(st:B.StaysIn h'):∀b o,h.get? b=some o->b∉frs l->(H b≠none\/∃o0,hc.get? b=some o0)->h'.get? b=some o:=λb o e nb hb=>st b o (c b o e nb hb)
theorem HOk.moved(x:HOk P w H h)(c:Cov l hc H B h)(st:B.StaysIn h')(fr:∀b∈frs l,H b=none):HOk P w H h':=λa o e=>by
 refine (x a o e).stay (λb u hb q=>?_) (λb q=>q) λb xs q=>q
 have tr:H b≠none:=by
  rcases hb with rfl | hb
  ·rw [e];intro z;cases z
  ·rw [hb];intro z;cases z
 exact c.stay st b u q (λz=>tr (fr b z)) (.inl tr)
theorem Un.moved{fs:List Addr}{H0:Hp}{h0:Heap}(u:Un fs [] H0 H h0 h)(c:Cov l hc H B h)(st:B.StaysIn h')(sm:h.UpToSlots h')(ff:h.FunFrames B l)(hn:∀b o,h0.get? b=some o->∃o',hc.get? b=some o')
  (hf:∀b∈fs,b∈frs l)(hl:∀b o,h0.get? b=some o->b∈frs l->b∈fs):Un fs [] H0 H h0 h':=by
 have kp:∀b o0 o,h0.get? b=some o0->b∉fs->h.get? b=some o->h'.get? b=some o:=λb o0 o e0 nb e=>c.stay st b o e (λz=>nb (hl b o0 e0 z)) (.inr (hn b o0 e0))
 have sl:∀b o,b∈fs->h.get? b=some o->∃sl,h'.get? b=some {o with slots:=sl}:=λb o hb e=>by
  obtain ⟨_,o',e',d⟩:=ff.mem (show b∈l.filterMap (·.frame) from hf b hb)
  rw [e] at e'
  cases e'
  exact sm b o e d
 refine ⟨λb o e z nb hx=>kp b o o e nb (u.keep b o e z nb hx),λb o e z hb hx=>?_,u.free,λb o e hx=>?_,u.tups,u.frzs,u.tbls⟩
 ·obtain ⟨s1,q⟩:=u.slot b o e z hb hx
  obtain ⟨s2,q2⟩:=sl b _ hb q
  exact ⟨s2,q2⟩
 ·obtain ⟨o1,q⟩:=u.there b o e hx
  by_cases hb:b∈fs
  ·obtain ⟨s2,q2⟩:=sl b _ hb q
   exact ⟨_,q2⟩
  ·exact ⟨o1,kp b o o1 e hb q⟩
theorem Cov.moved{h0:Heap}{l':List Env}{fs:List Addr}{H0:Hp}(c:Cov l hc H B h)(st:B.StaysIn h')(x:HOk P w H h)(u:Un fs [] H0 H h0 h)(hn:∀b o,h0.get? b=some o->∃o',hc.get? b=some o')
  (hl:∀b,b∉frs l'->(H b≠none\/∃o0,h0.get? b=some o0)->b∉frs l):Cov l' h0 H B h':=λb o e nb hb=>by
 have nl:=hl b nb hb
 have hb':H b≠none\/∃o0,hc.get? b=some o0:=hb.imp id λ⟨o0,z⟩=>hn b o0 z
 have ex:∃o1,h.get? b=some o1:=by
  rcases hb with z | ⟨o0,z⟩
  ·cases q:H b with
   | none=>exact absurd q z
   | some u1=>exact (x b u1 q).there
  ·exact u.there b o0 z (by simp)
 obtain ⟨o1,q⟩:=ex
 have q2:=c b o1 q nl hb'
 have q3:=st b o1 q2
 rw [e] at q3
 cases q3
 exact q2
end
structure Cx.Def(X:Cx)(E:XK):Prop where
 stk:X.stack=X.env::X.outer
 fr:X.env.frame=some X.env.locals
 ex:X.ex=[]
 xe:X.xe=λe s'=>wpAny (model X.prog X.w) X.A (leaving X.env e) (λ_ s''=>CXE X.prog X.w X.outer X.H₀ X.s₀ E e s'') (λe' s''=>CXE X.prog X.w X.outer X.H₀ X.s₀ E e' s'') s'
section
variable {X:Cx}{E:XK}{pins:List (Addr×Obj)}{σ:St}{H H':Hp}{s s':Shared}
theorem j7(D:X.stack=X.env::X.outer)(fr:X.env.frame=some X.env.locals):frs X.stack=X.env.locals::frs X.outer:=by
 rw [D]
 show List.filterMap _ (X.env::X.outer)=_
 rw [List.filterMap_cons,fr]
 rfl
theorem Inv.leaves{B h2 hc:Heap}{ea C:Addr}{a0:Value}(D:X.Def E)(I:Inv X pins σ H s)(c:Cov X.stack hc H B s.heap)(hc0:∀b o,X.s₀.heap.get? b=some o->∃o',hc.get? b=some o')(ff:s.heap.FunFrames B X.stack)
  (fl:Heap.FlyingW B X.outer ea (.ref C) a0 h2)(sm:s.heap.UpToSlots h2)(q:E (.ref ea) (some C) H):CXE X.prog X.w X.outer X.H₀ X.s₀ E (.ref ea) {s with heap:=h2}:=by
 have st:=fl.1
 have fc:=j7 D.stk D.fr
 have b0:Un X.fs [] X.H₀ H X.s₀.heap s.heap:=by have:=I.base;rw [D.ex] at this;exact this
 have nL:∀b o,X.s₀.heap.get? b=some o->b≠X.env.locals:=λb o e z=>absurd (η e) (by rw [z];exact Nat.not_lt.mpr I.ok.above)
 refine ⟨ea,C,H,rfl,I.os,I.bare,b0.moved c st sm ff hc0 (λb hb=>by rw [fc];exact Θ _ hb) (λb o e hb=>?_),I.hok.moved c st I.stkFree,⟨B,a0,fl,c.moved st I.hok b0 hc0 λb nb hb=>?_⟩,q⟩
 ·rw [fc] at hb
  rcases List.mem_cons.mp hb with z | z
  ·exact absurd z (nL b o e)
  ·exact z
 ·rw [fc]
  intro z
  rcases List.mem_cons.mp z with z | z
  ·subst z
   rcases hb with y | ⟨o0,y⟩
   ·exact y I.free
   ·exact nL _ o0 y rfl
  ·exact nb z
theorem Inv.came{e:Value}{E':XK}(I:Inv X pins σ H s)(h:CXE X.prog X.w X.stack H s E' e s'):∃ea C H',e=.ref ea/\Inv X pins σ H' s'/\Fly X.stack s.heap H' ea C s'.heap/\E' e (some C) H':=by
 obtain ⟨ea,C,H',rfl,os,bare,un,hok,fl,q⟩:=h
 obtain ⟨hh,g,d,t,os'⟩:=s'
 obtain rfl:os'=s.os:=os
 exact ⟨ea,C,H',rfl,I.call (h':=hh) (g':=g) (d':=d) (t':=t) (ch:=[]) un hok bare (λb z=>absurd z (by simp)),fl,q⟩
theorem yj(D:X.Def E){h1:Heap}{ea C:Addr}{vs:List Value}(I:Inv X pins σ H s)(hx:Heap.MadeExcOf s.heap h1 ea (.ref C) vs)(q:E (.ref ea) (some C) H):X.xe (.ref ea) {s with heap:=h1}:=by
 rw [D.xe]
 have hfr:X.A.frames=some (X.env::X.outer):=by rw [I.ok.frames,D.stk]
 have ff:s.heap.FunFrames (PySem.W.hideAll s.heap (frs X.stack)) (X.env::X.outer):=by
  have:=I.stack
  rw [D.stk] at this ⊢
  exact PySem.W.funFrames_hide this λenv he b hb=>List.mem_filterMap.mpr ⟨env,he,hb⟩
 refine wpAny_leaves_madeW (s:={s with heap:=h1}) hfr D.fr (λb o e=>PySem.W.of_hideAll _ e) ff hx λh2 t fl _ _ sm=>?_
 have c:Cov X.stack s.heap H (PySem.W.hideAll s.heap (frs X.stack)) s.heap:=λb o e nb _=>PySem.W.hideAll_get _ e nb
 have sub:∀b o,X.s₀.heap.get? b=some o->∃o',s.heap.get? b=some o':=λb o e=>I.base.there b o e (by rw [D.ex];simp)
 have ff':s.heap.FunFrames (PySem.W.hideAll s.heap (frs X.stack)) X.stack:=by rw [D.stk] at ff ⊢;exact ff
 exact I.leaves (s:=s) D c sub ff' fl ((Heap.UpToSlots.of_keeps hx.keeps).trans sm) q
end
theorem zt{P:Program}{w:World}{K:Frag}{mg:Str->Option Value}{base:Heap}{N:List Str}{qual:Str}{scope:Scope}{f:Addr}{cd:Value}{A:Around}{outer:List Env}{s:Shared}{H:Hp}{E:XK} :
  (oq (CXE P w) P w K mg base N qual scope f cd A outer s H E).Def E:=⟨rfl,rfl,rfl,rfl⟩
section
variable {P:Program}{w:World}{K:Frag}{mg:Str->Option Value}{base:Heap}
theorem Fun.okE{x qual:Str}{st:Stmt}{f:Addr}{fd:FuncData}{N ps:List Str}{k:Nat}{sp:Sp}(F:Fun K x qual st f fd)(S:al N ps (defScope st))(len:∀vs H Q E,sp vs H Q E->vs.length=ps.length)
  (hbody:∀(cdv:Value) (A:Around) (outer:List Env) (s:Shared) (H:Hp) (vs:List V) (Q:VK) (E:XK),Room k (A.deeper (envOfC qual (defScope st) s.heap.objs.size f cdv))->sp vs H Q E ->
   ∃t,PSs (oq (CXE P w) P w K mg base N qual (defScope st) f cdv A outer s H E) (defBody st) t/\t {nx:=λ_ H'=>Q .non H',rt:=Q} (start N vs) H):FnOk P w K mg base (CXE P w) (k+1) f fd ps sp:=by
 obtain ⟨oc,od,kV,doc,pm,an,cdv,ct,osl,rfl,lk,hcd⟩:=F.ex
 exact xG lk hcd S len λA outer s H vs Q E hr hsp=>hbody cdv A outer s H vs Q E hr hsp
end
end L2
namespace L2
open PySem PySem.Spec PyProof.Rows
theorem pj{K:Frag}{h:Heap}{mg:Str->Option Value}{x:Str}{C:Addr}{bm:List Value}{new:String}(kin:K.In h)(hm:mg x=some (.ref C))(q:PySem.W.excIn K C bm new=true):OwnCls x C bm new mg h:=by
 have key:∀o,K.lookup C=some o->∃tl N nm qn bs hdct sn sub ab col dd k0 k1 k2 k3 k5 mN,h.get? C=some (excClassObj nm qn C N bs tl hdct sn sub ab col dd k0 k1 k2 k3 k5 new)/\h.Ns N mN/\mN "__init__"=none/\OwnTail h bm tl:=λo lk=>by
  unfold PySem.W.excIn at q
  rw [lk] at q
  obtain ⟨oc,od,odt,osl⟩:=o
  split at q
  ·rename_i dd cd sl e0
   cases (Δ e0)
   obtain ⟨nm,bs,mro,ns,qn,hd,sn,sub,ab,col,del⟩:=cd
   split at q
   ·rename_i C2 tl k0 k1 k2 k3 n2 k5 em es
    dsimp only at em q
    simp only [Bool.and_eq_true,beq_iff_eq,Bool.not_eq_true'] at q
    obtain ⟨⟨⟨⟨⟨q1,q2⟩,q3⟩,q4⟩,q5⟩,q6⟩:=q
    subst q1 q2 q3 em
    have esl:osl=#[k0,k1,k2,k3,some (.builtin n2),k5]:=Array.toList_inj.mp es
    subst esl
    exact ⟨tl,ns,nm,qn,bs,hd,sn,sub,ab,col,od,k0,k1,k2,k3,k5,_,kin _ _ lk,.of_isNs (PySem.W.isNs_of_in kin q5),PySem.W.nsMap_none_of_in kin q5 q6,PySem.W.tail_of_in kin q4⟩
   ·cases q
  ·cases q
 refine ⟨hm,?_⟩
 cases lk:K.lookup C with
 | none=>unfold PySem.W.excIn at q;rw [lk] at q;cases q
 | some o=>exact key o lk
section
variable {X:Cx}{E:XK}
def xS(C:Addr)(E:XK)(ta:TA):TS:=λ_ σ H=>ta σ H λvs H1=>vs.length<=1/\∀ea,E (.ref ea) (some C) H1
theorem tK{x:Str}{C:Addr}{bm:List Value}{B new init:String}{e:Expr}{ta:TA}{np cpos pos:Pos}(D:X.Def E)(hc:X.calm=true)(hg:Gl X x)(hm:X.mg x=some (.ref C))
  (q:PySem.W.excIn X.K C bm new=true)(FB:ExcBaseFacts B new init bm)(he:PA X [e] ta)
  (hst:starEach [e] X.env=[(false,eval e X.env)]:=by rfl)(hd:(x==("__debug__":Str))=false:=by decide) :
  PS X (.Raise (some (.Call (.Name x np) [e] [] cpos)) none pos) (xS C E ta):=by
 intro pins s σ H D' I h
 obtain ⟨tl,N,nm,qn,bs,hdct,sn,sub,ab,col,dd,k0,k1,k2,k3,k5,mN,hC,hN,hni,T⟩:=(pj I.ok.mod.kin hm q).obj
 refine wpAny_Raise_call_subT (C:=C) (nm:=nm) (q:=qn) (N:=N) (bs:=bs) (bm:=tl) (hdct:=hdct) (sn:=sn) (sub:=sub) (ab:=ab) (col:=col) (dd:=dd) (k0:=k0) (k1:=k1) (k2:=k2) (k3:=k3) (k5:=k5)
  FB (mN:=mN) (T.hasType FB.hasBase) (I.ok.hd hc) (by rw [hst];rfl) hni (il I hg hm ⟨rfl,?_⟩ hd)
 have hsp:=he cpos pins s σ H _ I h
 rw [hst] at hsp ⊢
 refine Calls.evalArgs_plain (wpAny_mono hsp (λus s2 ⟨vs,H2,I2,r,hl,q2⟩=>?_) λ_ _ y=>y)
 have kb:∀b o,X.base.get? b=some o->s2.heap.get? b=some o:=I2.bk
 refine ⟨rfl,?_,kb _ _ hC,hN.keeps kb,T.keeps kb,λh' e' hx=>yj D I2 hx (q2 e')⟩
 have:=r.length
 have h0:(1:Nat)<=sizeLine:=by decide
 show us.length<=sizeLine
 omega
end
end L2
namespace L2
open PySem PySem.Spec PyProof.Rows
def xh(ea C:Addr):HO:=.ext λh=>∃o,h.get? ea=some o/\o.cls=.ref C
abbrev Cx.hnd(X:Cx)(ev:Value):Cx:={X with A:=X.A.mark (some ev),calm:=false,xe:=λ_ _=>False}
section
variable {X:Cx}{pins:List (Addr×Obj)}{σ:St}{H H1:Hp}{s s1:Shared}{ev:Value}
theorem Cx.Ok.hnd(ok:X.Ok)(ev:Value):(X.hnd ev).Ok :=
 ⟨ok.mod,ok.kind,ok.glob,ok.blt,ok.above,ok.inj,ok.has,ok.cab,λh=>(by cases h),ok.frames,ok.stk,ok.exf,ok.bs,ok.bsz,ok.noex,ok.exfs,ok.funs,ok.frf⟩
theorem Inv.hnd(I:Inv X pins σ H s)(ev:Value):Inv (X.hnd ev) pins σ H s:=⟨I.ok.hnd ev,I.os,I.bare,I.base,I.loc,I.cell,I.free,I.freeC,I.pin,I.hok,I.len⟩
theorem Inv.unhnd(ok:X.Ok)(I:Inv (X.hnd ev) pins σ H s):Inv X pins σ H s:=⟨ok,I.os,I.bare,I.base,I.loc,I.cell,I.free,I.freeC,I.pin,I.hok,I.len⟩
theorem SP.unhnd{D:Ends}{f:Flow}{s':Shared}(ok:X.Ok)(h:SP (X.hnd ev) pins D f s'):SP X pins D f s':=by
 cases f with
 | next=>obtain ⟨σ',H',I',q⟩:=h;exact ⟨σ',H',I'.unhnd ok,q⟩
 | brk=>obtain ⟨σ',H',I',q⟩:=h;exact ⟨σ',H',I'.unhnd ok,q⟩
 | cont=>obtain ⟨σ',H',I',q⟩:=h;exact ⟨σ',H',I'.unhnd ok,q⟩
 | ret v=>obtain ⟨x,σ',H',I',r,q⟩:=h;exact ⟨x,σ',H',I'.unhnd ok,r,q⟩
theorem UpToSlots.isCell{h h':Heap}{c:Addr}{v:Option Value}(sm:h.UpToSlots h')(x:h.IsCell c v):h'.IsCell c v:=by
 obtain ⟨o,e,d⟩:=x
 obtain ⟨sl,e2⟩:=sm c o e λvs q=>by rw [d] at q;cases q
 exact ⟨_,e2,d⟩
theorem Inv.moved{B h2:Heap}(I1:Inv X pins σ H1 s1)(I:Inv X pins σ H s)(hst:X.stack=X.env::X.outer)(fr:X.env.frame=some X.env.locals)(hex:X.ex=[])(c:Cov X.stack s1.heap H B s.heap)(st:B.StaysIn h2)(sm:s.heap.UpToSlots h2)
  (ff:s.heap.FunFrames B X.stack):Inv X pins σ H {s with heap:=h2}:=by
 have fc:=j7 hst fr
 have b0:Un X.fs [] X.H₀ H X.s₀.heap s.heap:=by have:=I.base;rw [hex] at this;exact this
 have sub:∀b o,X.s₀.heap.get? b=some o->∃o',s1.heap.get? b=some o':=λb o e=>I1.base.there b o e (by rw [hex];simp)
 have nL:∀b o,X.s₀.heap.get? b=some o->b≠X.env.locals:=λb o e z=>absurd (η e) (by rw [z];exact Nat.not_lt.mpr I.ok.above)
 refine ⟨I.ok,I.os,I.bare,?_,?_,λx cc e=>?_,I.free,I.freeC,λp hp=>?_,I.hok.moved c st I.stkFree,I.len⟩
 ·rw [hex]
  refine b0.moved c st sm ff sub (λb hb=>by rw [fc];exact Θ _ hb) λb o e hb=>?_
  rw [fc] at hb
  rcases List.mem_cons.mp hb with z | z
  ·exact absurd z (nL b o e)
  ·exact z
 ·obtain ⟨m,hn,hl⟩:=I.loc
  refine ⟨m,sm.ns hn,λi x v a b cc=>?_⟩
  obtain ⟨u,r,lk⟩:=hl i x v a b cc
  refine ⟨u,r,?_⟩
  rcases lk with z | ⟨z,cl,e,ic⟩
  ·exact .inl z
  ·exact .inr ⟨z,cl,e,UpToSlots.isCell sm ic⟩
 ·obtain ⟨v,q⟩:=I.cell x cc e
  exact ⟨v,UpToSlots.isCell sm q⟩
 ·obtain ⟨e,f,nl,nf,d⟩:=I.pin p hp
  refine ⟨c.stay st p.1 p.2 e (λz=>?_) (.inr ⟨_,(I1.pin p hp).1⟩),f,nl,nf,d⟩
  rw [fc] at z
  rcases List.mem_cons.mp z with z | z
  ·exact nl z
  ·exact nf z
theorem Inv.exc{ea C:Addr}{oe:Obj}(I:Inv X pins σ H s)(hx:H ea=none)(ho:s.heap.get? ea=some oe)(hc:oe.cls=.ref C)(h0:X.s₀.heap.get? ea=none)(hL:ea≠X.env.locals)(hcl:∀y c,X.env.cells.lookup y=some c->c≠ea)
  (hp:∀p∈X.pn++pins,p.1≠ea):Inv X pins σ (upd H ea (xh ea C)) s:=by
 refine ⟨I.ok,I.os,I.bare,⟨I.base.keep,I.base.slot,λb o e z nx=>?_,I.base.there,λb xs e=>?_,λb o u e=>?_,λb ps e=>?_⟩,I.loc,I.cell,?_,λy c e=>?_,λp hp'=>?_,λb u e=>?_,I.len⟩
 ·rw [aw (λz2=>by rw [z2,h0] at e;cases e)];exact I.base.free b o e z nx
 ·have q:=I.base.tups b xs e
  rw [aw (ah q hx)];exact q
 ·have q:=I.base.frzs b o u e
  rw [aw (ah q hx)];exact q
 ·obtain ⟨more,q⟩:=I.base.tbls b ps e
  exact ⟨more,by rw [aw (ah q hx)];exact q⟩
 ·rw [aw hL.symm];exact I.free
 ·rw [aw (hcl y c e)];exact I.freeC y c e
 ·obtain ⟨e,f,r⟩:=I.pin p hp'
  exact ⟨e,by rw [aw (hp p hp')];exact f,r⟩
 ·by_cases hb:b=ea
  ·subst hb
   rw [ae] at e
   cases e
   exact ⟨⟨oe,ho,hc⟩,⟨oe,ho⟩,λh1 h2 ⟨o,e,c⟩ k=>⟨o,k o e,c⟩⟩
  ·rw [aw hb] at e
   exact (I.hok b u e).stay (λc v _ q=>q) (λc q=>by rw [aw (ah q hx)];exact q) λc xs q=>by rw [aw (ah q hx)];exact q
def oB(X:Cx)(C CB:Addr):Prop:=∀(A:Around) (s:Shared) (ea:Addr) (ob:Obj) (Q:Bool->Shared->Prop) (E:Value->Shared->Prop),X.K.In s.heap->s.heap.get? ea=some ob->ob.cls=.ref C->Q true s->wpAny (model X.prog X.w) A (excMatches (.ref ea) (.ref CB)) Q E s
theorem oJ{x:Str}{C:Addr}{bm:List Value}{new:String}(hm:X.mg x=some (.ref C))(qx:PySem.W.excIn X.K C bm new=true)(hb:bm.contains (.type "BaseException")=true):oB X C C:=by
 intro A s ea ob Q E k ho hc q
 obtain ⟨tl,N,nm,q',bs,hdct,sn,sub,ab,col,dd,k0,k1,k2,k3,k5,mN,hC,hN,hni,T⟩:=(pj k hm qx).obj
 obtain ⟨h,g,d,t,os⟩:=s
 exact wpAny_excMatches_sub_self hC ho hc (T.hasType hb) q
theorem xA{ea C CB:Addr}{cx:Str}{np hpos:Pos}{b₀:Stmt}{suite:List Stmt}{rest:List ExceptHandler}{D:Ends}{th:TS}{E:Value->Shared->Prop}(I1:Inv X pins σ H1 s1)(I:Inv X pins σ H s)(hst:X.stack=X.env::X.outer)(fr:X.env.frame=some X.env.locals)(hex:X.ex=[])
  (fly:Fly X.stack s1.heap H ea C s.heap)(hg:Gl X cx)(hm:X.mg cx=some (.ref CB))(tk:oB X C CB)(hs:∀ev,PSs (X.hnd ev) (b₀::suite) th)(q:H ea=none->th D σ (upd H ea (xh ea C)))(hd:(cx==("__debug__":Str))=false) :
  wpAny (model X.prog X.w) X.A (noteFrame (.ref ea) X.env) (λ_ s₂=>wpAny (model X.prog X.w) X.A (setFlight (.ref ea) none) (λ_ s₃ =>
   wpAny (model X.prog X.w) X.A (handleBy (.ref ea) X.env (.ExceptHandler (some (.Name cx np)) none (b₀::suite) hpos::rest)) (SP X pins D) E s₃) E s₂) E s:=by
 obtain ⟨B,a0,fl,c⟩:=fly
 have hfr:X.A.frames=some (X.env::X.outer):=by rw [I.ok.frames,hst]
 have ff:=fl.2.2.1
 have fl':Heap.FlyingW B (X.env::X.outer) ea (.ref C) a0 s.heap:=by rw [← hst];exact fl
 refine wpAny_looks_onW hfr fr fl' λh₄ held₄ sm₄=>?_
 refine wpAny_landsW held₄ λh₅ fl₅ sm₅=>?_
 have I5:=Inv.moved I1 I hst fr hex c fl₅.1 (sm₄.trans sm₅) ff
 obtain ⟨ob,hob,hobc⟩:=fl₅.there
 refine wpAny_handleBy_cons (codeAny_handlers_test (il (X:=X.hnd (.ref ea)) (I5.hnd (.ref ea)) hg hm ?_ hd)) (by intro z;cases z)
 refine tk _ _ ea ob _ _ I5.kIn hob hobc (codeAny_handlers_suite ?_)
 refine lands_againW (s:={s with heap:=h₅}) fl₅ λh₆ fl₆ sm₆=>?_
 have I6:=Inv.moved I1 I hst fr hex c fl₆.1 ((sm₄.trans sm₅).trans sm₆) ff
 obtain ⟨oe,ws,hoe,hoec,hoed,hoe0⟩:=fl₆.first
 have nfr:ea∉frs X.stack:=λz=>by
  have ff6:=fl₆.2.2.1
  rw [← hst] at ff6
  obtain ⟨_,o',e',d'⟩:=ff6.mem (show ea∈X.stack.filterMap (·.frame) from z)
  rw [hoe] at e'
  cases e'
  exact d' ws hoed
 obtain ⟨o1,e1,_⟩:=fl.there
 have hB:=fl.2.1
 have hHe:H ea=none:=by
  cases z:H ea with
  | none=>rfl
  | some u =>
   have:=c ea o1 e1 nfr (.inl (by rw [z];intro y;cases y))
   rw [hB] at this;cases this
 have h1e:s1.heap.get? ea=none:=by
  cases z:s1.heap.get? ea with
  | none=>rfl
  | some u =>
   have:=c ea o1 e1 nfr (.inr ⟨u,z⟩)
   rw [hB] at this;cases this
 have h0e:X.s₀.heap.get? ea=none:=by
  cases z:X.s₀.heap.get? ea with
  | none=>rfl
  | some u =>
   obtain ⟨o',e'⟩:=I1.base.there ea u z (by rw [hex];simp)
   rw [h1e] at e';cases e'
 have I6x:=I6.exc hHe hoe hoec h0e (λz=>nfr (by rw [j7 hst fr,z];exact Ω)) (λy cc e z=>by
  obtain ⟨v,o,e',_⟩:=I1.cell y cc e
  rw [z,h1e] at e';cases e') λp hp z=>by
   have:=(I1.pin p hp).1
   rw [z,h1e] at this;cases this
 exact wpAny_mono (hs (.ref ea) pins _ σ _ D (I6x.hnd _) (q hHe)) (λf s7 h7=>SP.unhnd I.ok h7) λ_ _ z=>z.elim
abbrev TX:=St->Hp->VK->XK->Prop
def XP(X:Cx)(pins:List (Addr×Obj))(σ:St)(E:XK)(ev:Value)(s':Shared):Prop:=∃s1 H1 ea C H',Inv X pins σ H1 s1/\ev=.ref ea/\Inv X pins σ H' s'/\Fly X.stack s1.heap H' ea C s'.heap/\E ev (some C) H'
def PEX(X:Cx)(e:Expr)(t:TX):Prop :=
 ∀(pins:List (Addr×Obj)) (s:Shared) (σ:St) (H:Hp) (Q:VK) (E:XK),Inv X pins σ H s->t σ H Q E->wpAny (model X.prog X.w) X.A (eval e X.env) (EP X pins σ Q) (XP X pins σ E) s
end
section
variable {X:Cx}{k:Nat}{f C:Addr}{fd:FuncData}{ps:List Str}{sp:Sp}{dvs:List V}{ds:List Value}{x:Str}{p pos:Pos}{e:Expr}{es:List Expr}{t:TA}
theorem v9{pins:List (Addr×Obj)}{σ:St}{H:Hp}{s:Shared}{Q:VK}{E:XK}{us:List Value}{vs:List V}(F:FnOk X.prog X.w X.K X.mg X.base (CXE X.prog X.w) k f fd ps sp)(hr:Room k X.A)(hb:Binds X.K fd ps ds)(hd:Vals dvs ds)
  (I:Inv X pins σ H s)(r:Vals vs us)(h:sp (vs++dvs) H Q E):wpAny (model X.prog X.w) X.A (call (.ref f) us) (EP X pins σ Q) (XP X pins σ E) s:=by
 have r2:Vals (vs++dvs) (us++ds):=r.append hd
 have hl:(us++ds).length=ps.length:=by rw [← r2.length];exact F.len _ _ _ _ h
 refine wpAny_call (codeAny_mono (F.run X.A X.stack s H ⟨us,[]⟩ (us++ds) (vs++dvs) Q E hr I.env0 (hb s us I.kIn hl) r2 h) λr s' hq=>?_)
 cases r with
 | error e =>
  obtain ⟨ea,C,H',e1,I',fl,q⟩:=I.came hq
  exact ⟨s,H,ea,C,H',I,e1,I',fl,q⟩
 | ok fl =>
  cases fl with
  | ret u=>exact I.after hq
  | next=>exact False.elim hq
  | brk=>exact False.elim hq
  | cont=>exact False.elim hq
end
section
variable {X:Cx}{e:Expr}{t:TX}{C CB:Addr}{cx y:Str}{np hpos pos py apos:Pos}{b₀:Stmt}{suite:List Stmt}{th:TS}{j:Nat}
def vH(j:Nat)(C:Addr)(t:TX)(th:TS):TS:=λD σ H=>t σ H (λv H1=>D.nx (σ.set j (some v)) H1) λev c H1=>∃ea,ev=.ref ea/\c=some C/\(H1 ea=none->th D σ (upd H1 ea (xh ea C)))
theorem re(hst:X.stack=X.env::X.outer)(fr:X.env.frame=some X.env.locals)(hex:X.ex=[])(hN:X.N.Nodup)(hj:X.N[j]?=some y)(hy:Loc X.env.scope y)(he:PEX X e t)(hg:Gl X cx)(hm:X.mg cx=some (.ref CB))(tk:oB X C CB)
  (hs:∀ev,PSs (X.hnd ev) (b₀::suite) th)(hd:(cx==("__debug__":Str))=false:=by decide)(hsw:swapsWith e (some (.Name y py)) apos.line X.env=pure false:=by rfl)
  (hf:X.fn y=true\/X.env.scope.names.lookup y=some .local:=by first | exact .inl rfl | exact .inr rfl | assumption) :
  PS X (.Try [.Assign [.Name y py] e apos] [.ExceptHandler (some (.Name cx np)) none (b₀::suite) hpos] [] [] pos) (vH j C t th):=by
 intro pins s σ H D I h
 refine wpAny_Try_except (wpAny_execs_cons (wpAny_mono (wpAny_Assign_Name (Q:=λf s1=>f=.next/\SP X pins D .next s1) (wpAny_mono (he pins s σ H _ _ I h) (λv s1 ⟨y1,H1,I1,r1,q1⟩=>?_) λev s1 hx=>?_) hsw) (λf s1 hq=>?_) λ_ _ z=>z))
 ·exact jA I1 hN hj hy r1 (λs2 I2=>⟨rfl,_,H1,I2,q1⟩) hf
 ·obtain ⟨s0,H0,ea,C',H',I0,rfl,I',fl,ea2,e2,rfl',q⟩:=hx
  cases e2
  obtain rfl:C'=C:=Δ rfl'
  exact xA I0 I' hst fr hex fl hg hm tk hs q hd
 ·obtain ⟨rfl,hq⟩:=hq
  exact wpAny_execs_nil (wpAny_execs_nil hq)
def ss(C:Addr)(t:TX)(th:TS):TS:=λD σ H=>t σ H (λ_ H1=>D.nx σ H1) λev c H1=>∃ea,ev=.ref ea/\c=some C/\(H1 ea=none->th D σ (upd H1 ea (xh ea C)))
end
end L2
namespace L2
open PySem PySem.Spec PyProof.Rows PySem.Builtin PySem.Builtin.ObjectAttr PySem.Builtin.Getset_descriptor
end L2
namespace L2
open PySem PySem.Spec PyProof.Rows
section
variable {X:Cx}{pins:List (Addr×Obj)}{σ:St}{H H1:Hp}{s s1:Shared}{ev:Value}
theorem qQ{x y:Str}{C CB:Addr}{bm bm2:List Value}{new new2:String}(hm:X.mg x=some (.ref C))(qx:PySem.W.excIn X.K C bm new=true)(hmB:X.mg y=some (.ref CB))(qxB:PySem.W.excIn X.K CB bm2 new2=true)(hb:bm2.contains (.type "BaseException")=true)
  (hs:PySem.W.mroIn X.K C (.ref CB)=some true):oB X C CB:=by
 intro A s ea ob Q E k ho hc q
 obtain ⟨tl,N,nm,q',bs,hdct,sn,sub,ab,col,dd,k0,k1,k2,k3,k5,mN,hC,hN,hni,T⟩:=(pj k hmB qxB).obj
 obtain ⟨h,g,d,t,os⟩:=s
 have he:=ho
 have hcls:=hc
 have hbase:=T.hasType hb
 have hcB:(Value.ref CB::tl).contains (.type "BaseException")=true:=by rw [List.contains_cons,hbase,Bool.or_true]
 have f:=tc_notTuple
 have L1:=PySem.W.looks_mroIn (M:=model X.prog X.w) k hs
 unfold excMatches
 repeat (first | (with_reducible refine wpAny_loadPart_at he ?_;rw [hcls]) | with_reducible refine wpAny_loadPart_at hC ?_ | (with_reducible refine wpAny_isSubtype_exc hC ?_;rw [hcB]) | (with_reducible refine PySem.W.Looks.at (by assumption) ?_) | wp_step)
 exact q
end
end L2
namespace L2
open PySem PySem.Spec PyProof.Rows
section
variable {P:Program}{w:World}{K:Frag}{H:Hp}{h:Heap}{a b:Addr}{xs ys:List V}
theorem jm(hok:HOk P w H h)(kin:K.In h)(q:SqT K H a xs):∃its:List Value,Vals xs its/\IsTup h a its.toArray/\xs.length<=sizeLine:=by
 rcases q with q | ⟨o,its,n,hk,hc,hs,hz,r⟩
 ·obtain ⟨z,its,r,p⟩:=q.ok hok
  exact ⟨its,r,p,z⟩
 ·refine ⟨its.toList,r,⟨o,kin a o hk,hc,n,by simpa using hs⟩,?_⟩
  have e:=r.length
  simp only [Array.length_toList] at e
  omega
theorem vM(hok:HOk P w H h)(kin:K.In h)(q:SqT K H a xs)(q':SqT K H a ys):xs=ys:=by
 obtain ⟨its,r,⟨o,e,_,n,d⟩,_⟩:=jm hok kin q
 obtain ⟨its',r',⟨o',e',_,n',d'⟩,_⟩:=jm hok kin q'
 rw [e] at e';cases e'
 rw [d] at d'
 injection d' with d1 _
 have:its=its':=by simpa using congrArg Array.toList d1
 subst this
 exact r.inj r'
def SqU(K:Frag)(H:Hp)(a:Addr)(xs:List V):Prop :=
 H a=some (.tup xs)\/∃(o:Obj) (its:Array Value) (n:Nat),K.lookup a=some o/\o.cls=.type "tuple"/\o.data=.seq its n/\its.size<=sizeLine/\Vals xs its.toList
theorem SqU.sq(q:SqU K H a xs):SqT K H a xs:=q.elim (λz=>.inl (.inl z)) .inr
def bh(H H':Hp):Prop:=∀b xs,H b=some (.tup xs)->H' b=some (.tup xs)
theorem Same.ts{H H':Hp}(e:Same H H'):bh H H':=λb xs h=>e b _ h
theorem SqU.keep{H':Hp}(e:bh H H')(q:SqU K H a xs):SqU K H' a xs:=q.elim (λz=>.inl (e _ _ z)) .inr
end
def EqIs(K:Frag)(n:Nat)(H:Hp)(x y:V)(b:Bool):Prop :=
 ∀(P:Program) (w:World) (A:Around) (s:Shared) (u v:Value),A.units+n<cLine->HOk P w H s.heap->K.In s.heap->RelV x u->RelV y v->SeqAt.EqAt A s u v b
def xc(K:Frag)(n:Nat)(H:Hp)(x y:V)(b:Bool):Prop :=
 ∀(P:Program) (w:World) (A:Around) (s:Shared) (u v:Value),A.units+n<cLine->HOk P w H s.heap->K.In s.heap->RelV x u->RelV y v->SeqAt.RcAt A s u v b
def xf(K:Frag)(n:Nat)(H:Hp)(x y:V)(b:Bool):Prop :=
 ∀(P:Program) (w:World) (A:Around) (s:Shared) (u v:Value),A.units+n<cLine->HOk P w H s.heap->K.In s.heap->RelV x u->RelV y v->SeqAt.RcNeAt A s u v (!b)
section
variable {K:Frag}{H:Hp}{a b:Addr}{n m:Nat}{x y:V}{r:Bool}
theorem EqIs.mono(h:EqIs K n H x y r)(le:n<=m):EqIs K m H x y r:=λP w A s u v hA=>h P w A s u v ω
theorem xj{us vs:List V}{e:Nat->Bool}(ha:SqT K H a us)(hb:SqT K H b vs)(hl:us.length=vs.length)(he:∀(j:Nat) x y,us[j]?=some x->vs[j]?=some y->EqIs K n H x y (e j)) :
  xc K (n+1) H (.ref a) (.ref b) ((List.range us.length).all e)/\xf K (n+1) H (.ref a) (.ref b) ((List.range us.length).all e):=by
 have main:∀(P:Program) (w:World) (A:Around) (s:Shared) (u v:Value),A.units+(n+1)<cLine->HOk P w H s.heap->K.In s.heap->RelV (.ref a) u->RelV (.ref b) v ->
   SeqAt.RcAt A s u v ((List.range us.length).all e)/\SeqAt.RcNeAt A s u v (!(List.range us.length).all e):=by
  intro P w A s u v hA hok kin r1 r2
  cases r1
  cases r2
  obtain ⟨i1,v1,p1,_⟩:=jm hok kin ha
  obtain ⟨i2,v2,p2,_⟩:=jm hok kin hb
  have l1:=v1.length
  have l2:=v2.length
  have items:∀j (h1:j<i1.toArray.size) (h2:j<i2.toArray.size),SeqAt.EqAt A.in1 s i1.toArray[j] i2.toArray[j] (e j):=λj h1 h2=>by
   have h1':j<i1.length:=by simpa using h1
   have h2':j<i2.length:=by simpa using h2
   have e1:us[j]?=some us[j]:=ξ ω
   have e2:vs[j]?=some vs[j]:=ξ ω
   obtain ⟨u,eu,ru⟩:=v1.get e1
   obtain ⟨v,ev,rv⟩:=v2.get e2
   have q:=he j _ _ e1 e2 P w A.in1 s u v (by show A.units+1+n<cLine;omega) hok kin ru rv
   have z1:i1.toArray[j]=u:=by
    rw [ξ h1'] at eu
    simpa using Option.some.inj eu
   have z2:i2.toArray[j]=v:=by
    rw [ξ h2'] at ev
    simpa using Option.some.inj ev
   rw [z1,z2]
   exact q
  have ez:((List.range (min i1.toArray.size i2.toArray.size)).all e&&i1.toArray.size==i2.toArray.size)=(List.range us.length).all e:=by
   have s1:i1.toArray.size=us.length:=by simp [l1]
   have s2:i2.toArray.size=us.length:=by simp [← l2,hl]
   rw [s1,s2,Nat.min_self]
   simp
  constructor
  ·have q:=SeqAt.RcAt.tuples (A:=A) (s:=s) (e:=e) p1 p2 ω items
   rw [ez] at q
   exact q
  ·have q:=SeqAt.RcNeAt.tuples (A:=A) (s:=s) (e:=e) p1 p2 ω items
   rw [ez] at q
   exact q
 exact ⟨λP w A s u v h1 h2 h3 h4 h5=>(main P w A s u v h1 h2 h3 h4 h5).1,λP w A s u v h1 h2 h3 h4 h5=>(main P w A s u v h1 h2 h3 h4 h5).2⟩
theorem om(h:xc K n H (.ref a) (.ref b) r)(hs:∀(P:Program) (w:World) (h:Heap),HOk P w H h->K.In h->a=b->r=true):EqIs K n H (.ref a) (.ref b) r:=by
 intro P w A s u v hA hok kin r1 r2
 have q:=h P w A s u v hA hok kin r1 r2
 cases r1
 cases r2
 by_cases e:a=b
 ·rw [hs P w s.heap hok kin e,e]
  exact SeqAt.EqAt.same _
 ·exact SeqAt.EqAt.of_refs e q
end
structure Cod(α:Type) [DecidableEq α] where
 n:Nat
 rp:Frag->Hp->α->V->Prop
 inj:∀{P:Program} {w:World} {K:Frag} {H:Hp} {h:Heap} {x y:α} {v:V},HOk P w H h->K.In h->rp K H x v->rp K H y v->x=y
 eq:∀{K:Frag} {H:Hp} {x y:α} {u v:V},rp K H x u->rp K H y v->EqIs K n H u v (decide (x=y))
 rc:∀{K:Frag} {H:Hp} {x y:α} {u v:V},rp K H x u->rp K H y v->xc K n H u v (decide (x=y))
 ne:∀{K:Frag} {H:Hp} {x y:α} {u v:V},rp K H x u->rp K H y v->xf K n H u v (decide (x=y))
 keep:∀{K:Frag} {H H':Hp} {x:α} {v:V},bh H H'->rp K H x v->rp K H' x v
def cInt:Cod Int where
 n:=0
 rp _ _ i v:=v=.int i
 inj _ _ h1 h2:=by
  rw [h1] at h2
  exact V.int.inj h2
 eq h1 h2:=by
  intro P w A s u v _ _ _ r1 r2
  subst h1 h2
  obtain ⟨t,rfl⟩:=r1
  obtain ⟨t',rfl⟩:=r2
  rw [← Bool.beq_eq_decide_eq]
  exact SeqAt.EqAt.int_int _ t _ t'
 rc h1 h2:=by
  intro P w A s u v _ _ _ r1 r2
  subst h1 h2
  obtain ⟨t,rfl⟩:=r1
  obtain ⟨t',rfl⟩:=r2
  rw [← Bool.beq_eq_decide_eq]
  exact SeqAt.RcAt.int_int _ t _ t'
 ne h1 h2:=by
  intro P w A s u v _ _ _ r1 r2
  subst h1 h2
  obtain ⟨t,rfl⟩:=r1
  obtain ⟨t',rfl⟩:=r2
  rw [← Bool.beq_eq_decide_eq]
  exact SeqAt.RcNeAt.int_int _ t _ t'
 keep _ h:=h
theorem fw(x y:Str):decide (x=y)=(x==y):=by
 rw [Bool.eq_iff_iff]
 simp
def cStr:Cod Str where
 n:=0
 rp _ _ i v:=v=.str i
 inj _ _ h1 h2:=by
  rw [h1] at h2
  exact V.str.inj h2
 eq h1 h2:=by
  intro P w A s u v _ _ _ r1 r2
  subst h1 h2
  obtain ⟨t,rfl⟩:=r1
  obtain ⟨t',rfl⟩:=r2
  rw [fw]
  exact SeqAt.EqAt.str_str _ t _ t'
 rc h1 h2:=by
  intro P w A s u v _ _ _ r1 r2
  subst h1 h2
  obtain ⟨t,rfl⟩:=r1
  obtain ⟨t',rfl⟩:=r2
  rw [fw]
  exact SeqAt.RcAt.str_str _ t _ t'
 ne h1 h2:=by
  intro P w A s u v _ _ _ r1 r2
  subst h1 h2
  obtain ⟨t,rfl⟩:=r1
  obtain ⟨t',rfl⟩:=r2
  rw [fw]
  exact SeqAt.RcNeAt.str_str _ t _ t'
 keep _ h:=h
section
variable {α β γ:Type} [DecidableEq α] [DecidableEq β] [DecidableEq γ]
def rT2(c:Cod α)(d:Cod β)(K:Frag)(H:Hp)(x:α×β)(v:V):Prop:=∃a u w,v=.ref a/\SqU K H a [u,w]/\c.rp K H x.1 u/\d.rp K H x.2 w
theorem qi{c:Cod α}{d:Cod β}{P:Program}{w:World}{K:Frag}{H:Hp}{h:Heap}{x y:α×β}{v:V}(hok:HOk P w H h)(kin:K.In h)(h1:rT2 c d K H x v)(h2:rT2 c d K H y v):x=y:=by
 obtain ⟨a,u,t,rfl,ha,hu,ht⟩:=h1
 obtain ⟨b,u',t',e,hb,hu',ht'⟩:=h2
 cases e
 have z:=vM hok kin ha.sq hb.sq
 cases z
 exact Prod.ext (c.inj hok kin hu hu') (d.inj hok kin ht ht')
theorem pb{c:Cod α}{d:Cod β}{K:Frag}{H:Hp}{x y:α×β}{u v:V}(h1:rT2 c d K H x u)(h2:rT2 c d K H y v) :
  xc K (max c.n d.n+1) H u v (decide (x=y))/\xf K (max c.n d.n+1) H u v (decide (x=y)):=by
 obtain ⟨a,u,t,rfl,ha,hu,ht⟩:=h1
 obtain ⟨b,u',t',rfl,hb,hu',ht'⟩:=h2
 have T:=xj (n:=max c.n d.n) (e:=λj=>if j=0 then decide (x.1=y.1) else decide (x.2=y.2)) ha.sq hb.sq rfl (λj p q e1 e2=>by
  match j,e1,e2 with
  | 0,e1,e2=>cases e1;cases e2;exact (c.eq hu hu').mono (Nat.le_max_left _ _)
  | 1,e1,e2=>cases e1;cases e2;exact (d.eq ht ht').mono (Nat.le_max_right _ _))
 have e:((List.range ([u,t]:List V).length).all λj=>if j=0 then decide (x.1=y.1) else decide (x.2=y.2))=decide (x=y):=by
  show (decide (x.1=y.1)&&(decide (x.2=y.2)&&true))=decide (x=y)
  rw [Bool.and_true,← Bool.decide_and]
  exact decide_eq_decide.mpr (Prod.ext_iff (x:=x) (y:=y)).symm
 rw [e] at T
 exact T
def cT2(c:Cod α)(d:Cod β):Cod (α×β) where
 n:=max c.n d.n+1
 rp:=rT2 c d
 inj:=qi
 rc h1 h2:=(pb h1 h2).1
 ne h1 h2:=(pb h1 h2).2
 eq {K H x y u v} h1 h2:=by
  have r:=(pb h1 h2).1
  have i:=λP w h hok kin=>qi (c:=c) (d:=d) (P:=P) (w:=w) (K:=K) (H:=H) (h:=h) (x:=x) (y:=y) (v:=v) hok kin
  obtain ⟨a,_,_,rfl,_⟩:=id h1
  obtain ⟨b,_,_,rfl,_⟩:=id h2
  refine om r λP w h hok kin e=>?_
  subst e
  exact τ (i P w h hok kin h1 h2)
 keep e h:=let ⟨a,u,w,h1,h2,h3,h4⟩:=h;⟨a,u,w,h1,h2.keep e,c.keep e h3,d.keep e h4⟩
end
section
variable {α:Type} [DecidableEq α] {K:Frag}{H:Hp}
theorem _root_.PySem.Paired.get{β γ:Type}{R:β->γ->Prop}:∀{xs:List β} {us:List γ},Paired R xs us->∀{j:Nat} {u:γ},us[j]?=some u->∃x,xs[j]?=some x/\R x u
 | _,_,.nil,j,u,e=>by simp at e
 | _,_,.cons r t,0,u,e=>by simp at e;subst e;exact ⟨_,rfl,r⟩
 | _,_,.cons r t,j+1,u,e=>PySem.Paired.get t (j:=j) (by simpa using e)
theorem _root_.PySem.Paired.get1{β γ:Type}{R:β->γ->Prop}:∀{xs:List β} {us:List γ},Paired R xs us->∀{j:Nat} {x:β},xs[j]?=some x->∃u,us[j]?=some u/\R x u
 | _,_,.nil,j,u,e=>by simp at e
 | _,_,.cons r t,0,u,e=>by simp at e;subst e;exact ⟨_,rfl,r⟩
 | _,_,.cons r t,j+1,u,e=>PySem.Paired.get1 t (j:=j) (by simpa using e)
theorem _root_.PySem.Paired.len{β γ:Type}{R:β->γ->Prop}:∀{xs:List β} {us:List γ},Paired R xs us->xs.length=us.length
 | _,_,.nil=>rfl
 | _,_,.cons r t=>by simp [PySem.Paired.len t]
theorem _root_.PySem.Paired.app{β γ:Type}{R:β->γ->Prop}:∀{xs ys:List β} {us vs:List γ},Paired R xs us->Paired R ys vs->Paired R (xs++ys) (us++vs)
 | _,_,_,_,.nil,s=>s
 | _,_,_,_,.cons r t,s=>.cons r (PySem.Paired.app t s)
end
section
variable {X:Cx}{α:Type} [DecidableEq α]
theorem hun{c:Nat}{k:Nat}{A:Around}(hr:Room k A)(h:c<=60:=by decide):A.units+c+1<cLine:=by
 have:=hr.units
 omega
noncomputable def eqR(c:Cod α)(K:Frag)(H:Hp)(a:α)(u:Value):Bool:=@decide (∃v,RelV v u/\c.rp K H a v) (Classical.propDecidable _)
theorem ve{c:Cod α}{P:Program}{w:World}{K:Frag}{H:Hp}{h:Heap}{a z:α}{v:V}{u:Value}(hok:HOk P w H h)(kin:K.In h)(r:RelV v u)(q:c.rp K H z v):eqR c K H a u=decide (z=a):=by
 unfold eqR
 by_cases e:z=a
 ·subst e
  rw [τ (show z=z from rfl)]
  exact @decide_eq_true _ (Classical.propDecidable _) ⟨v,r,q⟩
 ·rw [Γ e]
  refine @decide_eq_false _ (Classical.propDecidable _) λ⟨v',r',q'⟩=>e ?_
  have:=r.inj r'
  subst this
  exact c.inj hok kin q q'
theorem mJ{c:Cod α}{P:Program}{w:World}{K:Frag}{H:Hp}{h:Heap}{a:α}(hok:HOk P w H h)(kin:K.In h):∀{xs:List α} {us:List V} {its:List Value},Paired (c.rp K H) xs us->Vals us its->its.any (eqR c K H a)=decide (a∈xs)
 | _,_,_,.nil,.nil=>by simp
 | x::xs,_,_,.cons p t,.cons r s=>by
  rw [List.any_cons,ve hok kin r p,mJ hok kin t s,Bool.eq_iff_iff]
  simp only [Bool.or_eq_true,decide_eq_true_eq,List.mem_cons]
  exact ⟨λz=>z.elim (λe=>.inl e.symm) .inr,λz=>z.elim (λe=>.inl e.symm) .inr⟩
theorem mt{c:Cod α}{P:Program}{w:World}{A:Around}{s:Shared}{K:Frag}{H:Hp}{a:α}{x:V}{v:Value}(hok:HOk P w H s.heap)(kin:K.In s.heap)(hA:A.units+c.n<cLine)(rx:RelV x v)(qx:c.rp K H a x) :
  ∀{xs:List α} {us:List V} {its:List Value},Paired (c.rp K H) xs us->Vals us its->∀u∈its,SeqAt.EqAt A s u v (eqR c K H a u)
 | _,_,_,.nil,.nil=>λu hu=>by cases hu
 | _,_,_,.cons p t,.cons r q=>λu' hu=>by
  rcases List.mem_cons.mp hu with rfl | hu
  ·rw [ve hok kin r p]
   exact c.eq p qx P w A s _ v hA hok kin r rx
  ·exact mt hok kin hA rx qx t q u' hu
def z8(c:Cod α)(K:Frag):R2:=λx y H Q=>∃a p us xs,c.rp K H a x/\y=.ref p/\(SqL K H p us\/SqT K H p us)/\Paired (c.rp K H) xs us/\Q (.bl (!decide (a∈xs))) H
theorem rj(c:Cod α)(hu:X.A.units+c.n+1<cLine):OpR X (compareOp .NotIn) (z8 c X.K):=by
 intro pins s σ H x y v u Q I rx ry h
 obtain ⟨a,p,us,xs,ha,rfl,hq,px,q⟩:=h
 cases ry
 rcases hq with hq | hq
 ·obtain ⟨its,r,pl,hz⟩:=I.list hq
  refine SeqAt.notIn_listAt (eqR c X.K H a) pl.isList (λw hw=>mt I.hok I.kIn (by show X.A.units+1+c.n<cLine;omega) rx ha px r w (by simpa using hw)) ⟨.bl _,H,I,rfl,?_⟩
  rw [show its.toArray.any (eqR c X.K H a)=its.any (eqR c X.K H a) by simp,mJ I.hok I.kIn px r]
  exact q
 ·obtain ⟨its,r,pl,hz⟩:=I.tuple hq
  refine SeqAt.notIn_tupleAt (eqR c X.K H a) pl (λw hw=>mt I.hok I.kIn (by show X.A.units+1+c.n<cLine;omega) rx ha px r w (by simpa using hw)) ⟨.bl _,H,I,rfl,?_⟩
  rw [show its.toArray.any (eqR c X.K H a)=its.any (eqR c X.K H a) by simp,mJ I.hok I.kIn px r]
  exact q
end
end L2
namespace L2
open PySem PySem.Spec PyProof.Rows
end L2
namespace L2
open PySem PySem.Spec PyProof.Rows
section
variable {X:Cx}
def w8:KTD.Dat->Value->Bool
 | .flat d,v=>KTD.flatLooks d v
 | _,_=>false
theorem w6{h:Heap}:∀(d:KTD.Dat) (v:Value),w8 d v=true->d.At h v
 | .flat d,v,e=>KTD.flat_of_looks (d:=d) e
 | .float _,_,e=>by cases e
 | .nums _,_,e=>by cases e
 | .words _,_,e=>by cases e
 | .tup _,_,e=>by cases e
 | .tab _,_,e=>by cases e
def TabK(K:Frag)(a:Addr)(D:List (Str×KTD.Dat)):Prop:=KTD.tabLook w8 (λb=>K.lookup b) a D=true
theorem TabK.at{K:Frag}{a:Addr}{D:List (Str×KTD.Dat)}{h:Heap}(t:TabK K a D)(kin:K.In h):KTD.TextTab h a D:=KTD.tab_of_look w6 (λa o e=>kin a o e) t
theorem qA{h₀:Heap}{k:Str}{Pr:Value->Prop}:∀{D:List (Str×KTD.Dat)} {d:KTD.Dat},KTD.datumAt k D=some d->KTD.Opened h₀ Pr d->KTD.EachL h₀ k Pr D
 | [],_,e,_=>by cases e
 | (x,d')::D,d,e,o=>by
  have e':(if decide (k=x)=true then some d' else KTD.datumAt k D)=some d:=e
  by_cases hx:k=x
  ·rw [if_pos (τ hx)] at e'
   cases e'
   exact KTD.eachL_hit hx o
  ·rw [if_neg (by simp [hx])] at e'
   exact KTD.eachL_miss hx (qA e' o)
end
section
variable {X:Cx}{α:Type} [DecidableEq α]
theorem pfK(K:Frag)(i:Nat){x f:Str}{px pos:Pos}(hK:X.K=K:=by rfl)(hN:X.N[i]?=some x:=by rfl)(hv:Vis X.env.scope x:=by first | exact Or.inl rfl | exact Or.inr (Or.inl rfl) | exact Or.inr (Or.inr rfl))(hd:(x==("__debug__":Str))=false:=by decide)
  (hcd:(x==("__classdict__":Str))=false:=by decide)(hb:attributeBase (.Name x px) f X.env (eval (.Name x px) X.env)=eval (.Name x px) X.env:=by rfl):PE X (.Attribute (.Name x px) f pos) (qR K (oK i) f):=by
 subst hK
 exact au (tU hN hv hd hcd) hb
end
structure GF(P:Program)(w:World)(K:Frag)(mg:Str->Option Value)(base:Heap)(CX:CXT)(k:Nat)(x:Str)(ps:List Str)(sp:Sp) where
 f:Addr
 fd:FuncData
 ok:FnOk P w K mg base CX k f fd ps sp
 bd:Binds K fd ps []
 kp:PySem.W.keepIn K (.ref f)=true
 mgx:mg x=some (.ref f)
structure GM(P:Program)(w:World)(K:Frag)(mg:Str->Option Value)(base:Heap)(CX:CXT)(k:Nat)(C:Addr)(m:Str)(ps:List Str)(sp:Sp) where
 f:Addr
 fd:FuncData
 ok:FnOk P w K mg base CX k f fd ps sp
 bd:Binds K fd ps []
 me:gE K C m f
section
variable {X:Cx}{CX:CXT}{j k:Nat}{x m:Str}{ps:List Str}{sp:Sp}{E:XK}{p pos apos:Pos}{e o:Expr}{es:List Expr}{t:TA}{ta:TE}{C:Addr}
theorem pc(G:GF X.prog X.w X.K X.mg X.base CX j x ps sp)(hr:Room k X.A)(ha:PA X (e::es) t)(hx:dM CX X E:=by exact bJ)(hk:j<=k:=by decide)(hg:Gl X x:=by rfl)
  (hdb:(x==("__debug__":Str))=false:=by decide)(he:starEach (e::es) X.env=(false,eval e X.env)::starEach es X.env:=by rfl)(hpl:(backTo pos (starEach es X.env)).any (·.1)=false:=by rfl) :
  PE X (.Call (.Name x p) (e::es) [] pos) (su sp [] E t):=mj G.ok (hr.mono hk) hg G.mgx G.kp G.bd .nil hx ha hdb he hpl
theorem pm{pl:Sem Bool}(G:GM X.prog X.w X.K X.mg X.base CX j C m ps sp)(ho:PE X o ta)(cl:Cls X.K C)(hr:Room k X.A)(ha:PA X (e::es) t)(hx:dM CX X E:=by exact bJ)(hk:j<=k:=by decide)
  (hst:starEach (e::es) X.env=(false,eval e X.env)::starEach es X.env:=by rfl)(hpl:(backTo pos (starEach es X.env)).any (·.1)=false:=by rfl)
  (ht:eval (.Call (.Attribute o m apos) (e::es) [] pos) X.env=(do
   let ov ← eval o X.env
   standAt apos.atName
   let (f,first) ← holding [ov] (getMethod ov m pl)
   callWith pos f first (backTo pos (starEach (e::es) X.env)) (backToKw pos (keywordEach [] X.env))):=by rfl) :
  PE X (.Call (.Attribute o m apos) (e::es) [] pos) (pZ C m sp [] E ta t):=gq ho cl G.me G.ok (hr.mono hk) G.bd .nil hx ha hst hpl ht
theorem pm0{pl:Sem Bool}(G:GM X.prog X.w X.K X.mg X.base CX j C m ps sp)(ho:PE X o ta)(cl:Cls X.K C)(hr:Room k X.A)(hx:dM CX X E:=by exact bJ)(hk:j<=k:=by decide)
  (ht:eval (.Call (.Attribute o m apos) [] [] pos) X.env=(do
   let ov ← eval o X.env
   standAt apos.atName
   let (f,first) ← holding [ov] (getMethod ov m pl)
   callWith pos f first (backTo pos (starEach [] X.env)) (backToKw pos (keywordEach [] X.env))):=by rfl) :
  PE X (.Call (.Attribute o m apos) [] [] pos) (pZ C m sp [] E ta vJ):=ie ho cl G.me G.ok (hr.mono hk) G.bd .nil hx ht
end
end L2
namespace L2
open PySem PySem.Spec PyProof.Rows
section
variable {K:Frag}{a:Addr}{xs:List V}{tt:TT}{te:TE}{bl:St}{Fin:List V->Hp->Prop}{H:Hp}
theorem mv(Pv:Nat->List V->Hp->Prop)(h0:Pv 0 [] H)(hn:xs.length<=sizeLine)(hl:∀i ys H,i<=xs.length->Pv i ys H->SqL K H a xs)
  (hs:∀i x ys H,xs[i]?=some x->Pv i ys H->tt (some x::bl) H λc H2=>if c=true then te (some x::bl) H2 λy H3=>Pv (i+1) (ys++[y]) H3 else Pv (i+1) ys H2)
  (hd:∀ys H,Pv xs.length ys H->Fin ys H) :
  ∃(W:Nat->List V->Hp->Prop) (n:Nat),W 0 [] H/\n<=sizeLine/\∀i ys H,W i ys H->((Itl K a).stop i H/\Fin ys H) \/
   ((Itl K a).go i H/\i<n/\∀x H',(Itl K a).yld i H x H'->tt (some x::bl) H' λc H2=>if c=true then te (some x::bl) H2 λy H3=>W (i+1) (ys++[y]) H3 else W (i+1) ys H2):=by
 refine ⟨λi ys H=>i<=xs.length/\Pv i ys H,xs.length,⟨Nat.zero_le _,h0⟩,hn,?_⟩
 rintro i ys H ⟨hi,p⟩
 have q:=hl i ys H hi p
 by_cases hlt:i<xs.length
 ·refine .inr ⟨⟨xs,xs[i],q,by simp [hlt]⟩,hlt,λx H' y=>?_⟩
  obtain ⟨e,y⟩:=y
  subst e
  have z:=hs i x ys _ (y xs q) p
  have e1:(λ(c:Bool) (H2:Hp)=>if c=true then te (some x::bl) H2 λy H3=>i+1<=xs.length/\Pv (i+1) (ys++[y]) H3 else i+1<=xs.length/\Pv (i+1) ys H2)=λc H2=>if c=true then te (some x::bl) H2 λy H3=>Pv (i+1) (ys++[y]) H3 else Pv (i+1) ys H2:=by
   have e2:(i+1<=xs.length)=True:=eq_true hlt
   funext c H2
   simp only [e2,true_and]
  show tt _ _ _
  rw [e1]
  exact z
 ·have e:i=xs.length:=by omega
  subst e
  exact .inl ⟨⟨xs,q,ι _⟩,hd ys H p⟩
theorem kN{σ:St}{A B:Hp->Prop}(h:A H):vK σ H (λc H2=>if c=true then A H2 else B H2):=by
 show if true=true then A H else B H
 exact @aW (A H) (B H) h
theorem yX(Pv:Nat->List V->Hp->Prop)(h0:Pv 0 [] H)(hn:xs.length<=sizeLine)(hl:∀i ys H,i<=xs.length->Pv i ys H->SqT K H a xs)
  (hs:∀i x ys H,xs[i]?=some x->Pv i ys H->tt (some x::bl) H λc H2=>if c=true then te (some x::bl) H2 λy H3=>Pv (i+1) (ys++[y]) H3 else Pv (i+1) ys H2)
  (hd:∀ys H,Pv xs.length ys H->Fin ys H) :
  ∃(W:Nat->List V->Hp->Prop) (n:Nat),W 0 [] H/\n<=sizeLine/\∀i ys H,W i ys H->((Itt K a).stop i H/\Fin ys H) \/
   ((Itt K a).go i H/\i<n/\∀x H',(Itt K a).yld i H x H'->tt (some x::bl) H' λc H2=>if c=true then te (some x::bl) H2 λy H3=>W (i+1) (ys++[y]) H3 else W (i+1) ys H2):=by
 refine ⟨λi ys H=>i<=xs.length/\Pv i ys H,xs.length,⟨Nat.zero_le _,h0⟩,hn,?_⟩
 rintro i ys H ⟨hi,p⟩
 have q:=hl i ys H hi p
 by_cases hlt:i<xs.length
 ·refine .inr ⟨⟨xs,xs[i],q,by simp [hlt]⟩,hlt,λx H' y=>?_⟩
  obtain ⟨e,y⟩:=y
  subst e
  have z:=hs i x ys _ (y xs q) p
  have e1:(λ(c:Bool) (H2:Hp)=>if c=true then te (some x::bl) H2 λy H3=>i+1<=xs.length/\Pv (i+1) (ys++[y]) H3 else i+1<=xs.length/\Pv (i+1) ys H2)=λc H2=>if c=true then te (some x::bl) H2 λy H3=>Pv (i+1) (ys++[y]) H3 else Pv (i+1) ys H2:=by
   have e2:(i+1<=xs.length)=True:=eq_true hlt
   funext c H2
   simp only [e2,true_and]
  show tt _ _ _
  rw [e1]
  exact z
 ·have e:i=xs.length:=by omega
  subst e
  exact .inl ⟨⟨xs,q,ι _⟩,hd ys H p⟩
theorem io{n:Nat}(Pv:Nat->List V->Hp->Prop)(h0:Pv 0 [] H)(hn:n<=sizeLine)
  (hs:∀(i:Nat) ys H,i<n->Pv i ys H->tt (some (.int i)::bl) H λc H2=>if c=true then te (some (.int i)::bl) H2 λy H3=>Pv (i+1) (ys++[y]) H3 else Pv (i+1) ys H2)
  (hd:∀ys H,Pv n ys H->Fin ys H) :
  ∃(W:Nat->List V->Hp->Prop) (m:Nat),W 0 [] H/\m<=sizeLine/\∀i ys H,W i ys H->((Itr 0 n).stop i H/\Fin ys H) \/
   ((Itr 0 n).go i H/\i<m/\∀x H',(Itr 0 n).yld i H x H'->tt (some x::bl) H' λc H2=>if c=true then te (some x::bl) H2 λy H3=>W (i+1) (ys++[y]) H3 else W (i+1) ys H2):=by
 refine ⟨λi ys H=>i<=n/\Pv i ys H,n,⟨Nat.zero_le _,h0⟩,hn,?_⟩
 rintro i ys H ⟨hi,p⟩
 by_cases hlt:i<n
 ·refine .inr ⟨hlt,hlt,λx H' y=>?_⟩
  obtain ⟨e,y⟩:=y
  subst e
  rw [Int.zero_add] at y
  subst y
  have z:=hs i ys _ hlt p
  have e1:(λ(c:Bool) (H2:Hp)=>if c=true then te (some (.int i)::bl) H2 λy H3=>i+1<=n/\Pv (i+1) (ys++[y]) H3 else i+1<=n/\Pv (i+1) ys H2)=λc H2=>if c=true then te (some (.int i)::bl) H2 λy H3=>Pv (i+1) (ys++[y]) H3 else Pv (i+1) ys H2:=by
   have e2:(i+1<=n)=True:=eq_true hlt
   funext c H2
   simp only [e2,true_and]
  show tt _ _ _
  rw [e1]
  exact z
 ·have e:i=n:=by omega
  subst e
  exact .inl ⟨ι _,hd ys H p⟩
end
end L2
namespace Lo
open PySem L2
abbrev Pa:=Int×Int
def cPa:Cod Pa:=cT2 cInt cInt
theorem aj{H:Hp}{p:Addr}{o:HO}(h:H p=none):Same H (upd H p o):=λb u e=>by
 rw [aw (ah e h)]
 exact e
def Kp(p:Addr)(H H':Hp):Prop:=∀b o,b≠p->H b=some o->H' b=some o
theorem Kp.of{p:Addr}{H H':Hp}(h:Same H H'):Kp p H H':=λb o _ e=>h b o e
theorem Kp.trans{p:Addr}{H H1 H2:Hp}(a:Kp p H H1)(b:Kp p H1 H2):Kp p H H2:=λc o n e=>b c o n (a c o n e)
theorem aX{p:Addr}{H:Hp}{o:HO}:Kp p H (upd H p o):=λb u n e=>by
 rw [aw n]
 exact e
theorem pp{F:α->β->Prop}{G:α->β->Prop}{xs:List α}{ys:List β}(h:Paired F xs ys)(f:∀a b,F a b->G a b):Paired G xs ys:=Paired.mapP h f
end Lo
namespace Lo
open PySem L2
theorem my{X:Cx}{x:Str}{i:Int}{pos:Pos}(hm:∃t,X.mg x=some (.int i t))(hg:Gl X x)(hd:(x==("__debug__":Str))=false:=by decide):PE X (.Name x pos) (tC (.int i)):=by
 obtain ⟨t,e⟩:=hm
 exact dt hg e ⟨t,rfl⟩ hd
structure TxB(mg:Str->Option Value):Prop where
 isi:mg "isinstance"=none
 int:mg "int"=none
 bool:mg "bool"=none
 str:mg "str"=none
 len:mg "len"=none
 range:mg "range"=none
 tuple:mg "tuple"=none
 list:mg "list"=none
 any:mg "any"=none
 all:mg "all"=none
 max:mg "max"=none
 sorted:mg "sorted"=none
theorem xQ{K:Frag}{a:Addr}{es:Array DictEntry}{n:Nat}{D:List (Str×PyProof.Rows.KTD.Dat)}(h:K.lookup a=some ⟨.type "dict",none,.dict es n,#[]⟩)(z:(a==sysModules)=false)(r:PyProof.Rows.KTD.rowsLook w8 es.toList D=true):TabK K a D:=by
 unfold TabK PyProof.Rows.KTD.tabLook
 rw [z]
 show (true&&(match K.lookup a with | some o=>_ | none=>false))=true
 rw [h]
 simp [r]
theorem zQ{n:Nat}(h:n<=1000):n<=sizeLine:=Nat.le_of_lt (bw h)
def bb(ns:List Int)(k:Nat):Int:=(ns[k]?).getD 0
def jE(K:Frag):Sp:=λvs H Q _=>∃a ns k,vs=[.ref a,.int (k:Nat)]/\SqL K H a ((ns:List Int).map V.int)/\Q (.int (bb ns k)) H
end Lo
namespace Lo
open PySem L2
end Lo
namespace Lo
open PySem L2
def p7(K:Frag):Sp:=λvs H Q _=>∃a ns,vs=[.ref a]/\SqL K H a ((ns:List Int).map V.int)/\ns.length<=63/\∀H',Q (.bl true) H'
end Lo
namespace Lo
open PySem L2
theorem br{X:Cx}{st:List Stmt}{t:TS}(u:TS)(h:PSs X st t)(hw:∀D σ H,u D σ H->t D σ H):PSs X st u:=λpins s σ H D I q=>h pins s σ H D I (hw D σ H q)
end Lo
namespace Lo
open PySem L2
end Lo
namespace Lo
open PySem L2
end Lo
namespace Lo
open PySem L2
theorem vj(ns:List Int)(lo hi:Option Int):∃cs:List Int,g8 (ns.map V.int) lo hi=cs.map V.int/\cs.length<=ns.length:=by
 refine ⟨(ns.drop (HT.sIx (ns.map V.int).length 0 lo)).take (HT.sIx (ns.map V.int).length (ns.map V.int).length hi-HT.sIx (ns.map V.int).length 0 lo),?_,?_⟩
 ·unfold g8
  rw [List.map_take,List.map_drop]
 ·rw [List.length_take,List.length_drop]
  omega
end Lo
namespace Lo
open PySem L2
end Lo
namespace Lo
open PySem L2
end Lo
namespace Lo
open PySem L2
end Lo
namespace Lo
open PySem L2
end Lo
namespace Lo
open PySem L2
end Lo
namespace L2
open PySem PySem.Spec PyProof.Rows
section
variable {κ:Type} [DecidableEq κ]
def km(kvs:List (κ×V))(k:κ):Option V:=(kvs.find? λkv=>decide (kv.1=k)).map (·.2)
def gT(kvs:List (κ×V))(k:κ)(v:V):List (κ×V) :=
 if (kvs.any λkv=>decide (kv.1=k))=true then kvs.map (λkv=>if kv.1=k then (kv.1,v) else kv) else kvs++[(k,v)]
theorem jx{p:κ×V}{r:List (κ×V)}{k:κ}(e:p.1=k):km (p::r) k=some p.2:=by simp [km,List.find?_cons,e]
theorem jy{p:κ×V}{r:List (κ×V)}{k:κ}(e:¬p.1=k):km (p::r) k=km r k:=by simp [km,List.find?_cons,e]
theorem hU(k:κ):∀kvs:List (κ×V),(kvs.any λkv=>decide (kv.1=k))=(km kvs k).isSome
 | []=>rfl
 | p::r=>by
  rw [List.any_cons]
  by_cases e:p.1=k
  ·simp only [jx e,decide_eq_true e,Bool.true_or,Option.isSome_some]
  ·rw [jy e,Γ e,Bool.false_or];exact hU k r
theorem i9(kvs:List (κ×V))(k:κ)(v:V):(gT kvs k v).length<=kvs.length+1:=by
 unfold gT
 split
 ·rw [List.length_map];omega
 ·rw [List.length_append,List.length_cons,List.length_nil];omega
theorem tJ{kvs:List (κ×V)}{k:κ}(v:V)(h:km kvs k=none):gT kvs k v=kvs++[(k,v)]:=by
 unfold gT
 rw [hU,h]
 exact if_neg ζ
theorem RelO.isSome_eq{o:Option V}{u:Option Value}(r:RelO o u):o.isSome=u.isSome:=by
 cases o with
 | none=>cases u with
  | none=>rfl
  | some _=>exact (show False from r).elim
 | some _=>cases u with
  | none=>exact (show False from r).elim
  | some _=>rfl
theorem KV.any{kvs:List (κ×V)}{vs:List (κ×Value)}(r:KV kvs vs)(k:κ):(kvs.any λkv=>decide (kv.1=k))=vs.any λkv=>decide (kv.1=k):=by
 unfold KV at r
 induction r with
 | nil=>rfl
 | cons h t ih=>rw [List.any_cons,List.any_cons,ih,h.1]
theorem KV.repl{kvs:List (κ×V)}{vs:List (κ×Value)}(r:KV kvs vs)(k:κ){y:V}{u:Value}(ry:RelV y u) :
  KV (kvs.map λkv=>if kv.1=k then (kv.1,y) else kv) (vs.map λkv=>if kv.1=k then (kv.1,u) else kv):=by
 unfold KV at r ⊢
 induction r with
 | nil=>exact .nil
 | @cons p q ps qs h t ih =>
  rw [List.map_cons,List.map_cons]
  refine .cons ?_ ih
  obtain ⟨h1,h2⟩:=h
  by_cases e:p.1=k
  ·rw [if_pos e,if_pos (h1.symm.trans e)];exact ⟨h1,ry⟩
  ·rw [if_neg e,if_neg (λz=>e (h1.trans z))];exact ⟨h1,h2⟩
theorem KV.put{kvs:List (κ×V)}{vs:List (κ×Value)}(r:KV kvs vs)(k:κ){y:V}{u:Value}(ry:RelV y u):KV (gT kvs k y) (stored vs k u):=by
 unfold gT stored
 rw [r.any k]
 by_cases e:(vs.any λkv=>decide (kv.1=k))=true
 ·rw [if_pos e,if_pos e];exact r.repl k ry
 ·rw [if_neg e,if_neg e];exact Paired.snoc r ⟨rfl,ry⟩
theorem KV.length{kvs:List (κ×V)}{vs:List (κ×Value)}(r:KV kvs vs):kvs.length=vs.length:=Paired.length r
end
theorem xB{P:Program}{w:World}{k:Key}{u:Value}(r:RelV (kV k) u):(ca P w).is k u=true:=by
 cases k with
 | inl i=>obtain ⟨t,e⟩:=(show ∃t,u=Value.int i t from r);subst e;exact nY P w i t
 | inr x=>obtain ⟨t,e⟩:=(show ∃t,u=Value.str x t from r);subst e;exact nX P w x t
theorem lc{P:Program}{w:World}:∀{ks:List Key} {us:List Value},Vals (ks.map kV) us->ItemsAre (ca P w) ks us
 | [],_,r=>by rw [List.map_nil] at r;cases r;exact .nil
 | k::ks,_,r=>by
  rw [List.map_cons] at r
  cases r with
  | cons h t=>exact .cons (xB h) (lc t)
abbrev KT(H:Hp):List (List Key×V)->List (List Key×Addr×Value)->Prop:=Paired λp q=>p.1=q.1/\H q.2.1=some (.tup (p.1.map kV))/\RelV p.2 q.2.2
theorem KT.val{H:Hp}{kvs:List (List Key×V)}{xs:List (List Key×Addr×Value)}(r:KT H kvs xs)(k:List Key):RelO (km kvs k) ((atKey xs k).map (·.2)):=by
 induction r with
 | nil=>exact True.intro
 | @cons p q ps qs h t ih =>
  obtain ⟨h1,_,h2⟩:=h
  by_cases e:p.1=k
  ·have e':q.1=k:=h1.symm.trans e
   have b:atKey (q::qs) k=some q.2:=by simp [atKey,List.find?_cons,e']
   rw [jx e,b];exact h2
  ·have e':¬q.1=k:=λz=>e (h1.trans z)
   have b:atKey (q::qs) k=atKey qs k:=by simp [atKey,List.find?_cons,e']
   rw [jy e,b];exact ih
theorem KT.repl{H:Hp}{kvs:List (List Key×V)}{xs:List (List Key×Addr×Value)}(r:KT H kvs xs)(k:List Key){y:V}{u:Value}(ry:RelV y u) :
  KT H (kvs.map λkv=>if kv.1=k then (kv.1,y) else kv) (xs.map (putAt k u)):=by
 induction r with
 | nil=>exact .nil
 | @cons p q ps qs h t ih =>
  rw [List.map_cons,List.map_cons]
  refine .cons ?_ ih
  obtain ⟨h1,h2,h3⟩:=h
  unfold putAt
  by_cases e:p.1=k
  ·rw [if_pos e,if_pos (h1.symm.trans e)];exact ⟨h1,h2,ry⟩
  ·rw [if_neg e,if_neg (λz=>e (h1.trans z))];exact ⟨h1,h2,h3⟩
theorem KT.put{H:Hp}{kvs:List (List Key×V)}{xs:List (List Key×Addr×Value)}(r:KT H kvs xs)(k:List Key){b:Addr}{y:V}{u:Value}(hb:H b=some (.tup (k.map kV)))(ry:RelV y u) :
  KT H (gT kvs k y) (storedH xs k b u):=by
 have e:(kvs.any λkv=>decide (kv.1=k))=(atKey xs k).isSome:=by
  rw [hU,(r.val k).isSome_eq,Option.isSome_map]
 unfold gT storedH
 rw [e]
 by_cases q:(atKey xs k).isSome=true
 ·rw [if_pos q,if_pos q];exact r.repl k ry
 ·rw [if_neg q,if_neg q];exact Paired.snoc r ⟨rfl,hb,ry⟩
theorem KT.keeps{H H':Hp}{kvs:List (List Key×V)}{xs:List (List Key×Addr×Value)}(r:KT H kvs xs)(ht:∀b ys,H b=some (.tup ys)->H' b=some (.tup ys)):KT H' kvs xs :=
 Paired.mapP r λ_ _ z=>⟨z.1,ht _ _ z.2.1,z.2.2⟩
section
variable {P:Program}{w:World}{H:Hp}{h:Heap}{a:Addr}
theorem xr{u:HO}(ok:HOk P w H h)(e:Rd H a u):ObjOk P w H h a u:=e.ok ok
theorem xI{kvs:List (Key×V)}(ok:HOk P w H h)(e:Rd H a (.dK kvs)):kvs.length<=sizeLine/\(a==sysModules)=false/\∃vs,KV kvs vs/\h.DictOf (ca P w) a vs :=
 show ObjOk P w H h a (.dK kvs) from xr ok e
theorem Aw{kvs:List (Key×V)}(ok:HOk P w H h)(e:H a=some (.dK kvs)):kvs.length<=sizeLine/\(a==sysModules)=false/\∃vs,KV kvs vs/\h.DictOf (ca P w) a vs:=xI ok (.inl e)
theorem uS{ks:List Key}(ok:HOk P w H h)(e:H a=some (.tup (ks.map kV))):(tupleKind (ca P w)).is h ks a:=by
 obtain ⟨_,its,r,o,h1,h2,n,h3⟩:=(show ObjOk P w H h a (.tup (ks.map kV)) from ok a _ e)
 exact ⟨o,its.toArray,n,h1,h2,h3,by simpa using lc r⟩
theorem xH{kvs:List (List Key×V)}(ok:HOk P w H h)(e:Rd H a (.dT kvs)):kvs.length<=sizeLine/\(a==sysModules)=false /\
  ∃xs,KT H kvs xs/\h.DictOfH (tupleKind (ca P w)) a xs:=by
 obtain ⟨z,y,xs,r,o,es,ep,h1,h2,h3,h4,h5⟩:=(show ObjOk P w H h a (.dT kvs) from xr ok e)
 refine ⟨z,y,xs,r,o,es,ep,h1,h2,h3,h4,λx hx=>?_,h5⟩
 have all:∀{l:List (List Key×V)} {m:List (List Key×Addr×Value)},KT H l m->∀x∈m,(tupleKind (ca P w)).is h x.1 x.2.1:=by
  intro l m q
  induction q with
  | nil=>intro x hx;exact nomatch hx
  | @cons p q ps qs hq t ih =>
   intro x hx
   rcases List.mem_cons.mp hx with e | hx
   ·subst e
    exact uS ok (by rw [← hq.1];exact hq.2.1)
   ·exact ih x hx
 exact all r x hx
theorem Av{kvs:List (List Key×V)}(ok:HOk P w H h)(e:H a=some (.dT kvs)):kvs.length<=sizeLine/\(a==sysModules)=false /\
  ∃xs,KT H kvs xs/\h.DictOfH (tupleKind (ca P w)) a xs:=xH ok (.inl e)
end
def DPut(H:Hp)(a:Addr)(y v:V)(H':Hp):Prop :=
 (∃kvs k,H a=some (.dK kvs)/\y=kV k/\kvs.length<sizeLine/\H'=upd H a (.dK (gT kvs k v))) \/
 ∃kvs k b,H a=some (.dT kvs)/\y=.ref b/\H b=some (.tup (k.map kV))/\kvs.length<sizeLine/\H'=upd H a (.dT (gT kvs k v))
theorem DPut.t{H:Hp}{a b:Addr}{kvs:List (List Key×V)}{k:List Key}{v:V}(e:H a=some (.dT kvs))(eb:H b=some (.tup (k.map kV)))(hl:kvs.length<sizeLine) :
  DPut H a (.ref b) v (upd H a (.dT (gT kvs k v))):=.inr ⟨kvs,k,b,e,rfl,eb,hl,rfl⟩
section
variable {X:Cx}{pins:List (Addr×Obj)}{σ:St}{H:Hp}{s:Shared}{a:Addr}{y v:V}{u r:Value}{o:Option V}{A:Around}{E:Value->Shared->Prop}
theorem Inv.big(I:Inv X pins σ H s):sysModules<s.heap.objs.size:=by
 have h:mainGlobals<s.heap.objs.size:=(I.mod.glob.keeps I.bk).lt
 exact Nat.lt_trans ζ h
theorem qE{h':Heap}{t':Nat}{ob:HO}(I:Inv X pins σ H s)(mu:Mut (H a))(hs:Heap.SameBut a s.heap h')(he:∃q,h'.get? a=some q)(new:ObjOk X.prog X.w (upd H a ob) h' a ob) :
  Inv X pins σ (upd H a ob) {s with heap:=h',toks:=t'} :=
 I.write (x:=a) (e:=a) mu (.inl rfl) (λb q hb z=>(hs.2 b hb).trans z) he new
theorem zr{P:Program}{w:World}{H':Hp}{h':Heap}{kvs:List (Key×V)}{vs:List (Key×Value)}(z:kvs.length<=sizeLine)(hd:(a==sysModules)=false)(rel:KV kvs vs)(dd:h'.DictOf (ca P w) a vs) :
  ObjOk P w H' h' a (.dK kvs):=⟨z,hd,vs,rel,dd⟩
theorem rV{H':Hp}{Q:Unit->Shared->Prop}(hu:A.units+1<cLine)(I:Inv X pins σ H s)(g:DPut H a y v H')(ry:RelV y u)(rv:RelV v r)(h:∀s',Inv X pins σ H' s'->Q () s') :
  wpAny (model X.prog X.w) A (setItem (.ref a) u r) Q E s:=by
 rcases g with ⟨kvs,k,e,ey,l,eH⟩ | ⟨kvs,k,b,e,ey,eb,l,eH⟩
 ·subst ey eH
  obtain ⟨z,hd,vs,rel,dd⟩:=Aw I.hok e
  have hz:vs.length<=sizeLine:=by rw [← rel.length];exact z
  have hl:(gT kvs k v).length<=sizeLine:=by have:=i9 kvs k v;omega
  refine wpAny_setItem_pairs (hsz:=hz) (xB ry) dd λh' dd' hs=>h _ ?_
  have he:∃q,h'.get? a=some q:=let ⟨q,_,_,hq,_⟩:=dd';⟨q,hq⟩
  exact qE I (by rw [e];exact True.intro) hs he (zr hl hd (rel.put k rv) dd')
 ·subst ey eH
  cases (show u=Value.ref b from ry)
  obtain ⟨z,hd,xs,rel,dd⟩:=Av I.hok e
  have hz:xs.length<=sizeLine:=by rw [← Paired.length rel];exact z
  have hl:(gT kvs k v).length<=sizeLine:=by have:=i9 kvs k v;omega
  refine wpAny_setItem_heap (hsz:=hz) (tupleKind_room_in1 hu) (uS I.hok eb) dd λh' dd' hs=>h _ ?_
  obtain ⟨q,es,ep,hq,h2,h3,h4,_,h5⟩:=dd'
  refine qE I (by rw [e];exact True.intro) hs ⟨q,hq⟩ ⟨hl,hd,_,(rel.put k eb rv).keeps λc ys ec=>?_,q,es,ep,hq,h2,h3,h4,h5⟩
  rw [aw (bp ec e (λz=>nomatch z))]
  exact ec
end
def zW(td ty tv:TE):TS:=λD σ H=>tv σ H λv H1=>td σ H1 λx H2=>ty σ H2 λy H3=>∃a H4,x=.ref a/\DPut H3 a y v H4/\D.nx σ H4
section
variable {X:Cx}{o i e value:Expr}{pos pos' tpos:Pos}{td ty tv:TE}
theorem wg(hu:X.A.units+1<cLine)(ho:PE X o td)(hi:PE X i ty)(hv:PE X value tv)(hs:swapsWith value (some (.Subscript o i pos')) pos.line X.env=pure false) :
  PS X (.Assign [.Subscript o i pos'] value pos) (zW td ty tv):=by
 intro pins s σ H D I h
 refine wpAny_Assign_Subscript (thn (hv pins s σ H _ I h) λr s1 ⟨v,H1,I1,rv,q1⟩=>thn (ho pins s1 σ H1 _ I1 q1) λu s2 ⟨x,H2,I2,rx,q2⟩=>thn (hi pins s2 σ H2 _ I2 q2) λiv s3 ⟨y,H3,I3,ry,a,H4,ex,g,q3⟩=>?_) hs
 subst ex
 obtain rfl:u=Value.ref a:=rx
 exact rV hu I3 g ry rv λs4 I4=>⟨σ,H4,I4,q3⟩
end
theorem vg{P:Program}{w:World}{H:Hp}(h:Heap)(hb:sysModules<h.objs.size):ObjOk P w H (h.push {cls:=.type "dict",data:=.dict #[]}) h.objs.size (.dT []) :=
 ⟨Nat.zero_le _,beq_eq_false_iff_ne.mpr (Ne.symm (Φ hb)),[],.nil,_,#[],0,ψ _ rfl,⟨rfl,rfl,rfl⟩,rfl,rfl,List.nodup_nil⟩
def xV:TE:=λ_ H Q=>∀p,H p=none->Q (.ref p) (upd H p (.dT []))
section
variable {X:Cx}{pos:Pos}
theorem ig:PE X (.Dict [] [] pos) xV:=λpins s σ H Q I h =>
 wpAny_Dict_empty ⟨.ref s.heap.objs.size,_,I.laid (a:=s.heap.objs.size) (o:=.dT []) (t':=s.toks) (λ_ _ q=>ρ _ q) (ι _) (vg s.heap I.big),rfl,h _ (I.hok.fresh (ι _))⟩
end
structure M1(X:Cx)(o:Expr)(m:Str)(apos:Pos)(e:Expr)(cpos:Pos):Prop where
 base:attributeBase o m X.env (eval o X.env)=eval o X.env
 few:((backTo cpos (starEach [e] X.env)).all (λx=>!x.1)&&(backToKw cpos (keywordEach [] X.env)).all (λx=>x.1.isSome)
  && decide (([e]:List Expr).length+([]:List Keyword).length+(if ([]:List Keyword).isEmpty then 0 else 1)<30))=true
 line:(apos.endLine==cpos.line)=true
 trees:backTo cpos (starEach [e] X.env)=[(false,eval e X.env)]
def IsD(H:Hp)(a:Addr):Prop:=(∃kvs,Rd H a (.dK kvs))\/∃kvs,Rd H a (.dT kvs)
theorem zn{X:Cx}{pins:List (Addr×Obj)}{σ:St}{H:Hp}{s:Shared}{a:Addr}(I:Inv X pins σ H s)(d:IsD H a) :
  s.TypeIs (.ref a) "dict"/\(∀b,Value.ref a=.ref b->∃ob,s.heap.get? b=some ob/\ob.dict=none)/\(a==sysModules)=false:=by
 rcases d with ⟨kvs,e⟩ | ⟨kvs,e⟩
 ·obtain ⟨_,hd,vs,_,dd⟩:=xI I.hok e
  refine ⟨dd.typeIs,λb q=>?_,hd⟩
  cases q
  obtain ⟨ob,_,_,h1,h2,_⟩:=dd
  exact ⟨ob,h1,h2.2.1⟩
 ·obtain ⟨_,hd,xs,_,dd⟩:=xH I.hok e
  refine ⟨dd.typeIs,λb q=>?_,hd⟩
  cases q
  obtain ⟨ob,_,_,h1,h2,_⟩:=dd
  exact ⟨ob,h1,h2.2.1⟩
end L2
namespace Lo
open PySem L2
def sPa(_:Frag)(H:Hp)(x:Pa)(v:V):Prop:=∃a,v=.ref a/\H a=some (.tup [.int x.1,.int x.2])
theorem sPa.keep{K:Frag}{H H':Hp}{x:Pa}{v:V}(e:bh H H')(h:sPa K H x v):sPa K H' x v:=by
 obtain ⟨a,rfl,q⟩:=h
 exact ⟨a,rfl,e _ _ q⟩
def pk(x:Pa):List Key:=[.inl x.1,.inl x.2]
theorem ym{x y:Pa}(h:pk x=pk y):x=y:=by
 unfold pk at h
 simp only [List.cons.injEq,Sum.inl.injEq,and_true] at h
 exact Prod.ext h.1 h.2
end Lo
namespace L2
open PySem PySem.Spec PyProof.Rows
open Builtin Builtin.Str
theorem jY{y:Str}(hy:1<=y.length):∀ys:List Str,ys.length<=(Str.join y ys).length+1
 | []=>Nat.zero_le _
 | [_]=>by simp
 | a::u::ys=>by
  have ih:=jY hy (u::ys)
  rw [join_cons_cons]
  have e:(a++y++Str.join y (u::ys)).length=a.length+y.length+(Str.join y (u::ys)).length:=by
   show ((a.cps++y.cps)++(Str.join y (u::ys)).cps).size=_
   rw [Array.size_append,Array.size_append]
   rfl
  rw [e,List.length_cons]
  omega
section
variable {X:Cx}
theorem rE:MtR X "str.split" (λx vs H Q=>∃(z y:Str),x=.str z/\vs=[.str y]/\1<=y.length/\z.length<=1000000/\∀p,H p=none->Q (.ref p) (upd H p (.lst ((Txt.split z y).map V.str)))):=by
 intro pins s σ H x xs v us Q I rx r h
 obtain ⟨z,y,rfl,rfl,h1y,hz,q⟩:=h
 obtain ⟨t,rfl⟩:=rx
 obtain ⟨u,rfl,⟨t1,rfl⟩⟩:=cR r
 have hs:(1000002:Nat)<=sizeLine:=by decide
 have many:(Txt.split z y).length<=sizeLine:=by
  have:=jY h1y (Txt.split z y)
  rw [StrLaws.join_split] at this
  omega
 have fin:∀(l:List (Str×Tok)) (k:Nat),l.map (·.1)=Txt.split z y->EP X pins σ Q (.ref s.heap.objs.size) {s with toks:=k,heap:=s.heap.push {cls:=.type "list",data:=.seq (strValues l).toArray}}:=λl k el =>
  ⟨.ref s.heap.objs.size,_,I.laid (t':=k) (o:=.lst ((Txt.split z y).map V.str)) (λb o e=>ρ _ e) (ι _)
   (show ObjOk X.prog X.w _ _ _ (.lst ((Txt.split z y).map V.str)) from ⟨by rw [List.length_map];exact many,strValues l,0,el▸iC l,ψ _ rfl⟩),rfl,q _ (I.hok.fresh (ι _))⟩
 have hy:(y.length==0)=false:=by
  cases e:y.length with
  | zero=>omega
  | succ n=>rfl
 cases h1:(decide (z.length<y.length)||decide (strKind z<strKind y)) with
 | true =>
  have es:Txt.split z y=[z]:=by unfold Txt.split;rw [if_pos h1]
  exact call_meets F.slot_str_split (typeIs_str _ _ _) F.entry_str_split (F.args_str_split_2 _ _) (meets_str_split_cannot_occur z y t t1 h1) (fin [(z,t)] s.toks es.symm)
 | false =>
  cases hf:(occurrences z y 0 z.length (z.length+1)).isEmpty with
  | true =>
   have es:Txt.split z y=[z]:=by unfold Txt.split;rw [if_neg (by rw [h1];decide),if_pos hf]
   exact call_meets F.slot_str_split (typeIs_str _ _ _) F.entry_str_split (F.args_str_split_2 _ _) (meets_str_split_not_found z y t t1 h1 hy hf) (fin [(z,t)] s.toks es.symm)
  | false =>
   have es:Txt.split z y=partsBetween z (occurrences z y 0 z.length (z.length+1)) y.length:=by unfold Txt.split;rw [if_neg (by rw [h1];decide),if_neg (by rw [hf];decide)]
   refine call_meets F.slot_str_split (typeIs_str _ _ _) F.entry_str_split (F.args_str_split_2 _ _) (meets_str_split_sep z y t t1 h1 hy hf ω (by rw [← es];exact many)) ?_
   rw [strsFrom_eq]
   exact fin _ _ ((numbered_texts _ _).trans es.symm)
theorem wP:MtR X "str.partition" (λx vs H Q=>∃(z y:Str),x=.str z/\vs=[.str y]/\(y.length==0)=false/\z.length<=sizeLine /\
  ∀p,H p=none->Q (.ref p) (upd H p (.tup [.str (Txt.partition z y).1,.str (Txt.partition z y).2.1,.str (Txt.partition z y).2.2]))):=by
 intro pins s σ H x xs v us Q I rx r h
 obtain ⟨z,y,rfl,rfl,hy,hz,q⟩:=h
 obtain ⟨t,rfl⟩:=rx
 obtain ⟨u,rfl,⟨t1,rfl⟩⟩:=cR r
 have fin:∀(a b c:Str) (ta tb tc:Tok) (k:Nat),(∀p,H p=none->Q (.ref p) (upd H p (.tup [.str a,.str b,.str c]))) ->
   EP X pins σ Q (.ref s.heap.objs.size) {s with toks:=k,heap:=s.heap.push {cls:=.type "tuple",data:=.seq [Value.str a ta,Value.str b tb,Value.str c tc].toArray}}:=λa b c ta tb tc k hq =>
  ⟨.ref s.heap.objs.size,_,I.laid (t':=k) (o:=.tup [.str a,.str b,.str c]) (λb o e=>ρ _ e) (ι _)
   (show ObjOk X.prog X.w _ _ _ (.tup [.str a,.str b,.str c]) from ⟨by show 3<=sizeLine;decide,_,.cons ⟨ta,rfl⟩ (.cons ⟨tb,rfl⟩ (.cons ⟨tc,rfl⟩ .nil)),IsTup.new _ _⟩),rfl,hq _ (I.hok.fresh (ι _))⟩
 refine call_meets F.slot_str_partition (typeIs_str _ _ _) F.entry_str_partition (F.args_str_partition_2 _ _) (meets_str_partition z y t t1 hy hz) ?_
 unfold Txt.partition at q
 cases e:occurrences z y 0 z.length 1 with
 | nil=>rw [e] at q;exact fin _ _ _ _ _ _ _ q
 | cons i r=>rw [e] at q;exact fin _ _ _ _ _ _ _ q
end
end L2
namespace Km
open PySem PySem.NumText PyProof.Rows
def oa(c:Nat):Bool:=decide (48<=c)&&decide (c<=57)
def pB(c:Nat):Bool:=decide (32<=c)&&decide (c<=126)&&decide (c≠37)
def bq(m:Nat):List Nat:=(Nat.toDigits 10 m).map Char.toNat
def cg(n:Int):List Nat:=if n<0 then 45::bq n.natAbs else bq n.natAbs
theorem iu(m:Nat):AllDigits (bq m):=by
 intro c hc
 obtain ⟨ch,hch,e⟩:=List.mem_map.mp hc
 have r:=digit_range (Nat.isDigit_of_mem_toDigits ζ ζ hch)
 rw [← e]
 exact r
theorem mC(m:Nat):bq m≠[]:=by
 intro e
 have h:=toDigits_len_ge 10 m
 rw [List.map_eq_nil_iff.mp e] at h
 exact absurd h ζ
theorem iq(m:Nat):digitsVal (bq m)=m:=PySem.W.KIN.val_back m
theorem rS:bq 0=[48]:=rfl
theorem rT(m:Nat)(h:m≠0):∀c r,bq m=c::r->c≠48:=by
 induction m using Nat.strongRecOn with
 | _ m ih =>
  intro c r e
  by_cases hm:m<10
  ·unfold bq at e
   rw [Nat.toDigits_of_lt_base hm] at e
   have hc:(Nat.digitChar m).toNat=c:=by simpa using (List.cons.inj e).1
   have key:∀d:Nat,d<10->d≠0->(Nat.digitChar d).toNat≠48:=by decide
   rw [← hc]
   exact key m hm h
  ·have t:Nat.toDigits 10 (m/10)++Nat.toDigits 10 (m%10)=Nat.toDigits 10 (10*(m/10)+m%10):=Nat.toDigits_append_toDigits ζ ω (Nat.mod_lt m ζ)
   rw [Nat.div_add_mod] at t
   have e2:bq m=bq (m/10)++bq (m%10):=by unfold bq;rw [← t,List.map_append]
   cases q:bq (m/10) with
   | nil=>exact absurd q (mC _)
   | cons c' r' =>
    rw [e2,q] at e
    have:c'=c:=(List.cons.inj e).1
    rw [← this]
    exact ih (m/10) ω ω c' r' q
theorem ir{m k:Nat}(hk:1<=k)(h:m<10 ^ k):(bq m).length<=k:=by
 induction k generalizing m with
 | zero=>omega
 | succ k ih =>
  by_cases hm:m<10
  ·unfold bq
   rw [Nat.toDigits_of_lt_base hm]
   simp
  ·have hk1:1<=k:=by
    cases k with
    | zero=>exfalso;simp at h;omega
    | succ k=>omega
   have t:Nat.toDigits 10 (m/10)++Nat.toDigits 10 (m%10)=Nat.toDigits 10 (10*(m/10)+m%10):=Nat.toDigits_append_toDigits ζ ω (Nat.mod_lt m ζ)
   rw [Nat.div_add_mod] at t
   have e2:bq m=bq (m/10)++bq (m%10):=by unfold bq;rw [← t,List.map_append]
   have e3:bq (m%10)=[(Nat.digitChar (m%10)).toNat]:=by unfold bq;rw [Nat.toDigits_of_lt_base (Nat.mod_lt m ζ)];rfl
   have h2:m/10<10 ^ k:=by
    rw [Nat.pow_succ] at h
    exact Nat.div_lt_of_lt_mul (by rw [Nat.mul_comm];exact h)
   have:=ih hk1 h2
   rw [e2,e3,List.length_append]
   simpa using this
theorem jk(n:Int):(Str.ofString (toString n)).cps.toList=cg n:=by
 cases n with
 | ofNat m =>
  unfold cg
  rw [if_neg (show ¬Int.ofNat m<0 from Int.not_lt.mpr (Int.natCast_nonneg m))]
  exact PySem.W.KIN.signs_num m
 | negSucc m =>
  unfold cg
  rw [if_pos ω]
  have e:toString (Int.negSucc m)="-"++Nat.repr (m+1):=rfl
  rw [e,signs_ofString,String.toList_append,List.map_append,Nat.toList_repr]
  rfl
theorem yT{n:Int}(h:n.natAbs<10 ^ 400):n.natAbs.log2<1920:=by
 by_cases h0:n.natAbs=0
 ·rw [h0];decide
 ·exact (Nat.log2_lt h0).mpr (Nat.lt_of_lt_of_le h θ)
end Km
namespace Km
open PySem PySem.NumText L2
end Km
namespace Km
open PySem PySem.NumText L2 PyProof.Rows
def cm(c:Nat):List (List Nat)->List Nat
 | []=>[]
 | [x]=>x
 | x::y::r=>x++c::cm c (y::r)
theorem ck(c:Nat):∀ys:List Str,(Str.join ⟨#[c]⟩ ys).cps.toList=cm c (ys.map λy=>y.cps.toList)
 | []=>rfl
 | [y]=>rfl
 | y::u::ys=>by
  have ih:=ck c (u::ys)
  rw [join_cons_cons]
  show ((y.cps++#[c])++(Str.join ⟨#[c]⟩ (u::ys)).cps).toList=_
  rw [Array.toList_append,Array.toList_append,ih]
  simp [cm]
theorem ln{c:Nat}{a b a' b':List Nat}(ha:c∉a)(ha':c∉a')(e:a++c::b=a'++c::b'):a=a'/\b=b':=by
 induction a generalizing a' with
 | nil =>
  cases a' with
  | nil=>exact ⟨rfl,(List.cons.inj e).2⟩
  | cons x a'=>exact absurd (List.mem_cons.mpr (.inl (List.cons.inj e).1)) ha'
 | cons x a ih =>
  cases a' with
  | nil=>exact absurd (List.mem_cons.mpr (.inl (List.cons.inj e).1.symm)) ha
  | cons y a' =>
   obtain ⟨e1,e2⟩:=List.cons.inj e
   obtain ⟨r1,r2⟩:=ih (λh=>ha (Θ _ h)) (λh=>ha' (Θ _ h)) e2
   exact ⟨by rw [e1,r1],r2⟩
theorem k9{c:Nat}:∀{xs ys:List (List Nat)},xs≠[]->ys≠[]->(∀x∈xs,c∉x)->(∀y∈ys,c∉y)->cm c xs=cm c ys->xs=ys
 | [],_,h,_,_,_,_=>absurd rfl h
 | _::_,[],_,h,_,_,_=>absurd rfl h
 | [x],[y],_,_,_,_,e=>by rw [show x=y from e]
 | [x],y::u::ys,_,_,hx,_,e=>by
  have e':x=y++c::cm c (u::ys):=e
  exact absurd (by rw [e'];simp) (hx x List.mem_cons_self)
 | x::u::xs,[y],_,_,_,hy,e=>by
  have e':x++c::cm c (u::xs)=y:=e
  exact absurd (by rw [← e'];simp) (hy y List.mem_cons_self)
 | x::u::xs,y::v::ys,_,_,hx,hy,e=>by
  have e':x++c::cm c (u::xs)=y++c::cm c (v::ys):=e
  obtain ⟨e1,e2⟩:=ln (hx x Ω) (hy y Ω) e'
  rw [e1,k9 (by simp) (by simp) (λz hz=>hx z (List.mem_cons_of_mem _ hz)) (λz hz=>hy z (List.mem_cons_of_mem _ hz)) e2]
theorem sA{z:Str}{c:Nat}{ps:List (List Nat)}(ez:z.cps.toList=cm c ps)(h0:ps≠[])(hp:∀p∈ps,c∉p):Txt.split z ⟨#[c]⟩=ps.map λp=>(⟨p.toArray⟩:Str):=by
 have e1:=ck c (Txt.split z ⟨#[c]⟩)
 rw [StrLaws.join_split,ez] at e1
 have n1:(Txt.split z ⟨#[c]⟩).map (λy=>y.cps.toList)≠[]:=by
  intro e
  have:=split_pos z ⟨#[c]⟩
  rw [List.map_eq_nil_iff.mp e] at this
  exact absurd this ζ
 have e2:=k9 h0 n1 hp (λy hy=>by
  obtain ⟨p,hp',rfl⟩:=List.mem_map.mp hy
  exact StrLaws.split_free z c p hp') e1
 rw [e2,List.map_map]
 have e3:((λp:List Nat=>(⟨p.toArray⟩:Str))∘λy:Str=>y.cps.toList)=id:=by
  funext y
  obtain ⟨a⟩:=y
  simp
 rw [e3,List.map_id]
end Km
namespace St
open PySem L2 Lo Km PySem.NumText
inductive Wd where
 | take | mean | sum | give | add | plus | need
 deriving DecidableEq
def wS:Wd->Str
 | .take=>"take" | .mean=>"mean" | .sum=>"sum" | .give=>"give" | .add=>"add" | .plus=>"plus" | .need=>"need"
def wN:Wd->Str
 | .take=>"TakeStep" | .mean=>"MeanStep" | .sum=>"SumStep" | .give=>"GiveStep" | .add=>"AddStep" | .plus=>"PlusStep" | .need=>"NeedStep"
def inN(i:Int):Prop:=0<=i/\i<10 ^ 40
def inV(i:Int):Prop:=i.natAbs<10 ^ 40
theorem inN.v{i:Int}(h:inN i):inV i:=by
 unfold inN at h
 unfold inV
 omega
def Ar:Wd->List Int->Prop
 | .take,[h,c]=>inN h/\inN c
 | .mean,[h,c]=>inN h/\inN c
 | .give,[h,c]=>inN h/\inN c
 | .sum,[h,a,b]=>inN h/\inN a/\inN b/\a<=b
 | .add,[h,c,v]=>inN h/\inN c/\inV v
 | .plus,[v]=>inV v
 | .need,[v]=>inV v
 | _,_=>False
theorem Ar.all{w:Wd}{ns:List Int}(h:Ar w ns):∀i∈ns,inV i:=by
 unfold Ar at h
 split at h
 ·intro i hi;simp only [List.mem_cons,List.mem_nil_iff,or_false] at hi;rcases hi with rfl | rfl<;>first | exact h.1.v | exact h.2.v
 ·intro i hi;simp only [List.mem_cons,List.mem_nil_iff,or_false] at hi;rcases hi with rfl | rfl<;>first | exact h.1.v | exact h.2.v
 ·intro i hi;simp only [List.mem_cons,List.mem_nil_iff,or_false] at hi;rcases hi with rfl | rfl<;>first | exact h.1.v | exact h.2.v
 ·intro i hi;simp only [List.mem_cons,List.mem_nil_iff,or_false] at hi;rcases hi with rfl | rfl | rfl<;>first | exact h.1.v | exact h.2.1.v | exact h.2.2.1.v
 ·intro i hi;simp only [List.mem_cons,List.mem_nil_iff,or_false] at hi;rcases hi with rfl | rfl | rfl<;>first | exact h.1.v | exact h.2.1.v | exact h.2.2
 ·intro i hi;simp only [List.mem_cons,List.mem_nil_iff,or_false] at hi;rcases hi with rfl;exact h
 ·intro i hi;simp only [List.mem_cons,List.mem_nil_iff,or_false] at hi;rcases hi with rfl;exact h
 ·exact h.elim
def iS(i:Int):Str:=Str.ofString (toString i)
theorem g6{i:Int}(h:inV i):(iS i).length<=41:=by
 have e:(iS i).length=(cg i).length:=by
  unfold iS
  rw [← jk]
  simp [Str.length]
 rw [e]
 unfold cg
 have:=ir (k:=40) ζ h
 split
 ·rw [List.length_cons];omega
 ·omega
theorem yP(i:Int):32∉cg i:=by
 have hd:∀m,32∉bq m:=λm hm=>by
  have:=iu m
  have h:=this 32 hm
  omega
 unfold cg
 split
 ·intro hm
  rcases List.mem_cons.mp hm with e | e
  ·cases e
  ·exact hd _ e
 ·exact hd _
def txt(w:Wd)(ns:List Int):Str:=Str.join (Str.ofString " ") (wS w::ns.map iS)
theorem zB(w:Wd):32∉(wS w).cps.toList:=by cases w<;>decide +kernel
theorem r8(w:Wd):(wS w).length<=4:=by cases w<;>decide +kernel
theorem fy:(Str.ofString " ")=⟨#[32]⟩:=by decide +kernel
theorem qT(w:Wd)(ns:List Int):Txt.split (txt w ns) ⟨#[32]⟩=wS w::ns.map iS:=by
 have e:=ck 32 (wS w::ns.map iS)
 have e2:(txt w ns).cps.toList=cm 32 ((wS w::ns.map iS).map λy=>y.cps.toList):=by
  unfold txt
  rw [fy]
  exact e
 rw [sA e2 (by simp) (λp hp=>?_)]
 ·rw [List.map_map]
  have e3:((λp:List Nat=>(⟨p.toArray⟩:Str))∘λy:Str=>y.cps.toList)=id:=by
   funext y
   obtain ⟨a⟩:=y
   simp
  rw [e3,List.map_id]
 ·obtain ⟨y,hy,rfl⟩:=List.mem_map.mp hp
  rcases List.mem_cons.mp hy with e | hy
  ·rw [e];exact zB w
  ·obtain ⟨i,_,rfl⟩:=List.mem_map.mp hy
   have e4:(iS i).cps.toList=cg i:=jk i
   rw [e4]
   exact yP i
theorem Ar.len{w:Wd}{ns:List Int}(h:Ar w ns):1<=ns.length/\ns.length<=3:=by
 unfold Ar at h
 split at h<;>first | exact h.elim | (constructor<;>simp)
theorem sy{ys:List Str}{k:Nat}(h:∀y∈ys,y.length<=k):(ys.map (·.length)).sum<=ys.length*k:=by
 induction ys with
 | nil=>simp
 | cons y ys ih =>
  have h1:=h y Ω
  have h2:=ih λy hy=>h y (Θ _ hy)
  rw [List.map_cons,List.sum_cons,List.length_cons,Nat.succ_mul]
  omega
theorem rY{w:Wd}{ns:List Int}(h:Ar w ns):∀y∈wS w::ns.map iS,y.length<=41:=λy hy=>by
 rcases List.mem_cons.mp hy with e | hy
 ·rw [e];exact Λ (r8 w) ζ
 ·obtain ⟨i,hi,rfl⟩:=List.mem_map.mp hy
  exact g6 (h.all i hi)
theorem iA{w:Wd}{ns:List Int}(h:Ar w ns):((wS w::ns.map iS).map (·.length)).sum+(wS w::ns.map iS).length*(Str.ofString " ").length<=1000:=by
 have h1:=sy (rY h)
 have h2:=h.len
 have h3:(Str.ofString " ").length=1:=by decide +kernel
 rw [h3]
 have h4:(wS w::ns.map iS).length<=4:=by rw [List.length_cons,List.length_map];omega
 have h5:(wS w::ns.map iS).length*41<=4*41:=Nat.mul_le_mul_right _ h4
 omega
def u9:Wd->List Int->List (Str×V)
 | .take,[h,c]=>ao "cell" (.int c) (ao "where" (.int h) [])
 | .mean,[h,c]=>ao "cell" (.int c) (ao "where" (.int h) [])
 | .give,[h,c]=>ao "cell" (.int c) (ao "where" (.int h) [])
 | .sum,[h,a,b]=>ao "high" (.int b) (ao "low" (.int a) (ao "where" (.int h) []))
 | .add,[h,c,v]=>ao "amount" (.int v) (ao "cell" (.int c) (ao "where" (.int h) []))
 | .plus,[v]=>ao "amount" (.int v) []
 | .need,[v]=>ao "amount" (.int v) []
 | _,_=>[]
def StO(C:Wd->Addr)(H:Hp)(w:Wd)(ns:List Int)(v:V):Prop:=∃a dx,v=.ref a/\H a=some (.ins (C w) dx (u9 w ns))
theorem StO.keep{C:Wd->Addr}{H H':Hp}{w:Wd}{ns:List Int}{v:V}(e:Same H H')(h:StO C H w ns v):StO C H' w ns v:=by
 obtain ⟨a,dx,rfl,q⟩:=h
 exact ⟨a,dx,rfl,e _ _ q⟩
def aK:Wd->List Int->V
 | .plus,_=>.non
 | .need,_=>.non
 | _,h::_=>.int h
 | _,[]=>.non
end St
namespace L2
open PySem PySem.Spec PyProof.Rows
section
variable {X:Cx}{CX:CXT}{E:XK}{k:Nat}{C f:Addr}{fd:FuncData}{ps:List Str}{sp:Sp}{m:Str}{o e:Expr}{es:List Expr}{t:TA}{ty:TE}{pos apos cpos p:Pos}{mc:Value}
structure vy(K:Frag)(C:Addr)(m:Str)(f:Addr):Prop where
 ga:PySem.W.specialIn K (.ref C) "__getattribute__"=some (some (.builtin "type.__getattribute__"))
 rd:PySem.W.readsIn K C (.type "type")=true
 fc:PySem.W.findCls K (.ref C) (.type "type") m=some (.val (.ref f))
 hi:PySem.W.handedIn (.ref f)=true
 kp:PySem.W.keepIn K (.ref f)=true
theorem qo{pl:Sem Bool}(ho:PE X o (tC (.ref C)))(c:vy X.K C m f)(F:FnOk X.prog X.w X.K X.mg X.base CX k f fd ps sp)(hr:Room k X.A)(hb:Binds X.K fd ps [])(hx:dM CX X E)(ha:PA X (e::es) t)
  (hst:starEach (e::es) X.env=(false,eval e X.env)::starEach es X.env:=by rfl)(hpl:(backTo pos (starEach es X.env)).any (·.1)=false:=by rfl)
  (ht:eval (.Call (.Attribute o m apos) (e::es) [] pos) X.env=(do
   let ov ← eval o X.env
   standAt apos.atName
   let (f,first) ← holding [ov] (getMethod ov m pl)
   callWith pos f first (backTo pos (starEach (e::es) X.env)) (backToKw pos (keywordEach [] X.env))):=by rfl) :
  PE X (.Call (.Attribute o m apos) (e::es) [] pos) (su sp [] E t):=by
 intro pins s σ H Q I h
 refine PySem.W.methodCall_KW (pl:=pl) (thn (ho pins s σ H (λx H1=>x=.ref C/\t σ H1 λvs H2=>sp (vs++[]) H2 Q E) I ⟨rfl,h⟩) λu s1 ⟨x,H1,I1,rx,ex,q⟩=>?_) ht
 subst ex
 obtain rfl:u=Value.ref C:=rx
 refine PySem.W.method_cls I1.kIn c.ga (PySem.W.cls_value I1.kIn c.rd c.fc c.hi ?_)
 have I2:Inv X pins σ H1 {s1 with toks:=s1.toks+1}:=I1.tok _
 refine PySem.W.callWith_K (first:=[]) (h₀:=X.base) I.ok.mod.kin c.kp (thn (ha pos pins _ σ H1 _ I2 q) λus s2 ⟨vs,H2,I3,r,q2⟩=>⟨I3.kIn,?_⟩) hst hpl
 exact mi (us:=us) (vs:=vs) F hr hb .nil hx I3 r q2
theorem wl{a:Addr}{D:List (Str×KTD.Dat)}(ho:PE X o (tC (.ref a)))(he:PE X e ty)(mm:M1 X o "get" apos e cpos)(ht:TabK X.K a D) :
  PE X (.Call (.Attribute o "get" apos) [e] [] cpos) (fun σ H Q=>ty σ H λy H1=>∃k z,y=.str k/\KTD.datumAt k D=some (.flat (.str z))/\Q (.str z) H1):=by
 intro pins s σ H Q I h
 refine wpAny_Call_method mm.base mm.few mm.line PySem.F.plainAttrs_dict PySem.F.slot_dict_get PySem.F.type_dict_get (thn (ho pins s σ H (λx H1=>x=.ref a/\ty σ H1 λy H1=>∃k z,y=.str k/\KTD.datumAt k D=some (.flat (.str z))/\Q (.str z) H1) I ⟨rfl,h⟩) λu s1 ⟨x,H1,I1,rx,ex,q1⟩=>?_)
 subst ex
 obtain rfl:u=Value.ref a:=rx
 have T1:KTD.Here s1.heap s1.heap a D:=⟨ht.at I1.kIn,λ_ _ e=>e⟩
 refine ⟨T1.typeIs,T1.noDict,?_⟩
 rw [mm.trees]
 refine Calls.callWith_builtin rfl (Calls.evalArgs_plain (Calls.spliced_cons (thn (he pins s1 σ H1 _ I1 q1) λiv s2 ⟨y,H2,I2,ry,k,z,ek,hd,q2⟩=>Calls.spliced_nil ?_)))
 subst ek
 obtain ⟨tk,rfl⟩:=ry
 refine KTD.get1_textL (h₀:=s2.heap) ⟨ht.at I2.kIn,λ_ _ e=>e⟩ ?_ (qA hd (KTD.opened_str λt'=>⟨.str z,H2,I2.tok _,⟨_,rfl⟩,q2⟩))
 rw [← KTD.isSome_datumAt,hd]
 rfl
theorem pC:MtR X "str.lstrip" (λx vs H Q=>∃z y,x=.str z/\vs=[.str y]/\z.length<=sizeLine/\Q (.str (Txt.lstripChars z y)) H):=by
 intro pins s σ H x xs v us Q I rx r h
 obtain ⟨z,y,rfl,rfl,hz,q⟩:=h
 obtain ⟨t,rfl⟩:=rx
 obtain ⟨u,rfl,⟨t1,rfl⟩⟩:=cR r
 exact SC.lstripChars (λt' k=>⟨.str _,H,I.tok _,⟨_,rfl⟩,q⟩) hz
theorem yo{te:TE}(h:PE X.nox e te):PEX X e (fun σ H Q _=>te σ H Q):=by
 intro pins s σ H Q E I q
 exact nox (h pins s σ H _ (I.wish _) q) λv s1 ⟨x,H1,I1,r,q1⟩=>⟨x,H1,I1.unwish,r,q1⟩
end
end L2
namespace St
open PySem L2 Lo Km PySem.NumText
structure TxW(K:Frag)(CW:Wd->Addr):Prop where
 cl:∀w,Cls K (CW w)
 nW:∀w,NoAttr K (CW w) "where"
 nC:∀w,NoAttr K (CW w) "cell"
 nL:∀w,NoAttr K (CW w) "low"
 nH:∀w,NoAttr K (CW w) "high"
 nA:∀w,NoAttr K (CW w) "amount"
def isC:Wd->Bool
 | .take=>true | .mean=>true | .give=>true | _=>false
theorem bQ{f:Str}{v:V}{fs:List (Str×V)}:(ao f v fs).lookup f=some v:=by rw [az,if_pos rfl]
theorem bn{f g:Str}{v:V}{fs:List (Str×V)}(h:¬g=f):(ao f v fs).lookup g=fs.lookup g:=by rw [az,if_neg h]
section
variable (CW:Wd->Addr)
def gn(w:Wd):Sp:=λvs H Q _=>∃a dx ns,vs=.ref a::(ns:List Int).map V.int/\Ar w ns/\H a=some (.ins (CW w) dx [])/\∀H',H' a=some (.ins (CW w) dx (u9 w ns))->Kp a H H'->Q .non H'
def lR:Sp:=λvs H Q _=>∃a dx w h c,vs=[.ref a,.int h,.int c]/\H a=some (.ins (CW w) dx [])/\∀H',H' a=some (.ins (CW w) dx (ao "cell" (.int c) (ao "where" (.int h) [])))->Kp a H H'->Q .non H'
def dQ(w:Wd):Sp:=λvs H Q _=>∃v ns,vs=[v]/\Ar w ns/\StO CW H w ns v/\Q (aK w ns) H
def lG(w:Wd):Sp:=λvs H Q _=>∃v,vs=[v]/\Q (.bl (decide (w=.give))) H
def bX(w:Wd):Sp:=λvs H Q _=>∃v ns,vs=[v]/\Ar w ns/\StO CW H w ns v/\∀H',Same H H'->Q (.str (txt w ns)) H'
end
def dq:Sp:=λvs H Q _=>∃w q ns,vs=[.str (wS w),.ref q]/\H q=some (.lst ((ns:List Int).map V.int))/\Ar w ns/\∀H',Same H H'->Q (.str (txt w ns)) H'
theorem jV{i:Int}(h:inV i):i.natAbs.log2<1920:=by
 by_cases h0:i.natAbs=0
 ·rw [h0];decide
 ·exact (Nat.log2_lt h0).mpr (Nat.lt_trans h θ)
theorem Ar.c{w:Wd}{ns:List Int}(hw:isC w=true)(h:Ar w ns):∃a b,ns=[a,b]/\inN a/\inN b/\u9 w ns=ao "cell" (.int b) (ao "where" (.int a) []):=by
 cases w<;>first | cases hw | skip
 all_goals
  match ns,h with
  | [a,b],h=>exact ⟨a,b,rfl,h.1,h.2,rfl⟩
theorem Ar.s{ns:List Int}(h:Ar .sum ns):∃a b c,ns=[a,b,c]/\inN a/\inN b/\inN c/\b<=c:=by
 match ns,h with
 | [a,b,c],h=>exact ⟨a,b,c,rfl,h⟩
theorem Ar.a{ns:List Int}(h:Ar .add ns):∃a b c,ns=[a,b,c]/\inN a/\inN b/\inV c:=by
 match ns,h with
 | [a,b,c],h=>exact ⟨a,b,c,rfl,h⟩
theorem Ar.p{ns:List Int}(h:Ar .plus ns):∃a,ns=[a]/\inV a:=by
 match ns,h with
 | [a],h=>exact ⟨a,rfl,h⟩
theorem Ar.n{ns:List Int}(h:Ar .need ns):∃a,ns=[a]/\inV a:=by
 match ns,h with
 | [a],h=>exact ⟨a,rfl,h⟩
end St
namespace St
open PySem PySem.Spec PyProof.Rows L2 Lo Km PySem.NumText
section
variable {K:Frag}{H:Hp}{a:Addr}{bl:L2.St}{te:TE}{Fin:List V->Hp->Prop}
theorem wR{g:Int->V}{ns:List Int}(hq:SqL K H a (ns.map V.int))(hn:ns.length<=sizeLine)
  (he:∀i H1 (Q:VK),i∈ns->Same H H1->(∀H2,Same H1 H2->Q (g i) H2)->te (some (.int i)::bl) H1 Q)
  (hd:∀H1,Same H H1->Fin (ns.map g) H1) :
  ∃(W:Nat->List V->Hp->Prop) (n:Nat),W 0 [] H/\n<=sizeLine/\∀i ys H,W i ys H->((Itl K a).stop i H/\Fin ys H) \/
   ((Itl K a).go i H/\i<n/\∀x H',(Itl K a).yld i H x H'->vK (some x::bl) H' λc H2=>if c=true then te (some x::bl) H2 λy H3=>W (i+1) (ys++[y]) H3 else W (i+1) ys H2):=by
 refine mv (tt:=vK) (xs:=ns.map V.int) (λi ys H1=>Same H H1/\ys=(ns.take i).map g) ⟨Same.refl _,rfl⟩ (by rw [List.length_map];exact hn) (λi ys H1 _ z=>z.1.seq hq) ?_ ?_
 ·rintro i x ys H1 hx ⟨s1,rfl⟩
  rw [List.getElem?_map] at hx
  obtain ⟨n,hn,rfl⟩:=Option.map_eq_some_iff.mp hx
  refine kN (he n H1 _ (List.mem_of_getElem? hn) s1 λH2 s2=>⟨s1.trans s2,?_⟩)
  rw [List.take_add_one,hn]
  simp
 ·rintro ys H1 ⟨s1,rfl⟩
  rw [List.length_map,List.take_length]
  exact hd H1 s1
end
theorem at0{x:V}{xs:List V}:atI (x::xs) 0=some x:=aU (j:=0) rfl
theorem at1{x y:V}{xs:List V}:atI (x::y::xs) 1=some y:=aU (j:=1) rfl
theorem at2{x y z:V}{xs:List V}:atI (x::y::z::xs) 2=some z:=aU (j:=2) rfl
theorem xO{a b:Wd}(h:wS a=wS b):a=b:=by
 cases a<;>cases b<;>first | rfl | exact absurd h θ
theorem g9{a b:Wd}(c:decide (V.str (wS a)=V.str (wS b))=true):a=b:=xO (V.str.inj (Ξ c))
theorem iB{a b:Wd}(c:¬decide (V.str (wS a)=V.str (wS b))=true):a≠b:=λe=>c (by rw [e];exact τ rfl)
theorem xM{a:Wd}(h1:a≠.take)(h2:a≠.mean)(h3:a≠.sum)(h4:a≠.give)(h5:a≠.add)(h6:a≠.plus):a=.need:=by
 cases a<;>first | rfl | contradiction
def shp:Wd->Str
 | .take=>"HC" | .mean=>"HC" | .sum=>"HAB" | .give=>"HC" | .add=>"HCV" | .plus=>"V" | .need=>"V"
def jt:List (Str×PyProof.Rows.KTD.Dat):=[("take",.flat (.str "HC")),("mean",.flat (.str "HC")),("sum",.flat (.str "HAB")),("give",.flat (.str "HC")),("add",.flat (.str "HCV")),("plus",.flat (.str "V")),("need",.flat (.str "V"))]
theorem sW(w:Wd):PyProof.Rows.KTD.datumAt (wS w) jt=some (.flat (.str (shp w))):=by
 cases w<;>kernel_rfl
theorem vR{w:Wd}{ns:List Int}(h:Ar w ns):(shp w).length=ns.length:=by
 unfold Ar at h
 split at h<;>first | exact h.elim | kernel_rfl
theorem jF(w:Wd):(shp w).length<=sizeLine:=by cases w<;>decide +kernel
theorem dD{i:Int}{p:Prop}(h:inN i):i<0->p:=λz=>absurd z (by unfold inN at h;omega)
theorem yd{w:Wd}{ns:List Int}{k:Nat}{i:Int}(h:Ar w ns)(hi:ns[k]?=some i):∃c,(shp w).cps.toList[k]?=some c/\(i<0->c=86):=by
 unfold Ar at h
 split at h
 ·rcases k with _ | _ | k
  ·cases hi;exact ⟨72,θ,dD h.1⟩
  ·cases hi;exact ⟨67,θ,dD h.2⟩
  ·simp at hi
 ·rcases k with _ | _ | k
  ·cases hi;exact ⟨72,θ,dD h.1⟩
  ·cases hi;exact ⟨67,θ,dD h.2⟩
  ·simp at hi
 ·rcases k with _ | _ | k
  ·cases hi;exact ⟨72,θ,dD h.1⟩
  ·cases hi;exact ⟨67,θ,dD h.2⟩
  ·simp at hi
 ·rcases k with _ | _ | _ | k
  ·cases hi;exact ⟨72,θ,dD h.1⟩
  ·cases hi;exact ⟨65,θ,dD h.2.1⟩
  ·cases hi;exact ⟨66,θ,dD h.2.2.1⟩
  ·simp at hi
 ·rcases k with _ | _ | _ | k
  ·cases hi;exact ⟨72,θ,dD h.1⟩
  ·cases hi;exact ⟨67,θ,dD h.2.1⟩
  ·cases hi;exact ⟨86,θ,λ_=>rfl⟩
  ·simp at hi
 ·rcases k with _ | k
  ·cases hi;exact ⟨86,θ,λ_=>rfl⟩
  ·simp at hi
 ·rcases k with _ | k
  ·cases hi;exact ⟨86,θ,λ_=>rfl⟩
  ·simp at hi
 ·exact h.elim
theorem og(i:Int):(iS i).cps.toList=cg i:=jk i
theorem uI{i:Int}{c:Nat}(h:c∈cg i):c=45\/(48<=c/\c<=57):=by
 have hd:∀m,c∈bq m->48<=c/\c<=57:=λm hm=>iu m c hm
 unfold cg at h
 split at h
 ·rcases List.mem_cons.mp h with e | e
  ·exact .inl e
  ·exact .inr (hd _ e)
 ·exact .inr (hd _ h)
theorem pG{i:Int}(h:inV i):(Txt.lstripChars (iS i) (Str.ofString "-")).length<=40:=by
 have e:(Str.ofString "-")=⟨#[45]⟩:=by decide +kernel
 have hd:=ir (k:=40) ζ h
 have hs:(iS i).cps.size=(cg i).length:=by rw [← og];simp
 rw [e]
 unfold Txt.lstripChars
 rw [stripBy_eq]
 generalize hL:stripLo ((⟨#[45]⟩:Str).cps.contains) true (iS i)=lo
 show ((iS i).cps.extract lo (iS i).length).size<=40
 rw [Array.size_extract]
 by_cases hi:i<0
 ·have h1:1<=lo:=by
   rw [← hL]
   show 1<=((iS i).cps.toList.takeWhile (λc=>(⟨#[45]⟩:Str).cps.contains c)).length
   rw [og]
   unfold cg
   rw [if_pos hi,List.takeWhile_cons,if_pos θ]
   simp
  have h2:(cg i).length<=41:=by
   unfold cg
   rw [if_pos hi,List.length_cons]
   omega
  omega
 ·have h2:(cg i).length<=40:=by
   unfold cg
   rw [if_neg hi]
   exact hd
  omega
theorem wW{i:Int}(h:inV i):(iS i).length<=100000:=Λ (g6 h) ζ
theorem iV(c:Nat):∀ls:List (List Nat),(cm c ls).length<=(ls.map (·.length)).sum+ls.length
 | []=>Nat.zero_le _
 | [x]=>by simp [cm]
 | x::y::r=>by
  have h:=iV c (y::r)
  show (x++c::cm c (y::r)).length<=_
  rw [List.length_append,List.length_cons,List.map_cons,List.sum_cons,List.length_cons (a:=x)]
  omega
theorem vG{wd:Wd}{ns:List Int}(h:Ar wd ns):(txt wd ns).length<=1000000:=by
 have e2:(txt wd ns).cps.toList=cm 32 ((wS wd::ns.map iS).map λy=>y.cps.toList):=by
  unfold txt
  rw [fy]
  exact ck 32 _
 have e3:(txt wd ns).length=(txt wd ns).cps.toList.length:=by simp [Str.length]
 have h1:=iV 32 ((wS wd::ns.map iS).map λy=>y.cps.toList)
 have h2:=iA h
 have e4:((wS wd::ns.map iS).map λy=>y.cps.toList).map (·.length)=(wS wd::ns.map iS).map (·.length):=by
  rw [List.map_map]
  refine List.map_congr_left λy _=>?_
  simp [Str.length]
 have e5:(Str.ofString " ").length=1:=by decide +kernel
 rw [e4,List.length_map] at h1
 rw [e5,Nat.mul_one] at h2
 rw [e3,e2]
 omega
theorem Ar.home{w:Wd}{ns:List Int}(h1:w≠.plus)(h2:w≠.need)(h:Ar w ns):∃x r,ns=x::r/\aK w ns=.int x:=by
 unfold Ar at h
 split at h<;>first | contradiction | exact h.elim | exact ⟨_,_,rfl,rfl⟩
theorem Ar.homeless{w:Wd}{ns:List Int}(h1:w=.plus\/w=.need):aK w ns=.non:=by
 rcases h1 with rfl | rfl<;>rfl
theorem jb{m:Str}(h1:¬m="where")(h2:¬m="cell")(h3:¬m="low")(h4:¬m="high")(h5:¬m="amount")(w:Wd)(ns:List Int):(u9 w ns).lookup m=none:=by
 unfold u9
 split<;>simp only [bn h1,bn h2,bn h3,bn h4,bn h5,List.lookup_nil]
theorem fT{H H':Hp}{x dx:Addr}{o1 o2:HO}(nx:H x=none)(nd:H dx=none)(k:Kp x (upd (upd H dx o1) x o2) H'):Same H H':=λb o e=>by
 have hx:b≠x:=λz=>by rw [z,nx] at e;cases e
 have hd:b≠dx:=λz=>by rw [z,nd] at e;cases e
 exact k b o hx (by rw [aw hx,aw hd];exact e)
structure WI(P:Program)(w:World)(K:Frag)(mg:Str->Option Value)(base:Heap)(CW:Wd->Addr)(wd:Wd) where
 fI:Addr
 dI:FuncData
 ps:List Str
 M:Mk K (CW wd) fI
 ok:FnOk P w K mg base CX0 2 fI dI ps (gn CW wd)
 b:Binds K dI ps []
 m:mg (wN wd)=some (.ref (CW wd))
section
variable (CW:Wd->Addr)
def oQ:Sp:=λvs H Q _=>∃wd q ns,vs=[.str (wS wd),.ref q]/\H q=some (.lst ((ns:List Int).map V.int))/\Ar wd ns/\∀v H',Same H H'->StO CW H' wd ns v->Q v H'
def oR:Sp:=λvs H Q _=>∃x y z,vs=[.int x,.int y,.int z]/\Ar .sum [x,y,z]/\∀v H',Same H H'->StO CW H' .sum [x,y,z] v->Q v H'
def lJ:Sp:=λvs H Q _=>∃wd ns,vs=[.str (txt wd ns)]/\Ar wd ns/\∀v H',Same H H'->StO CW H' wd ns v->Q v H'
end
def oP:Sp:=λvs H Q _=>∃i c,vs=[.str (iS i),.str ⟨#[c]⟩]/\inV i/\(i<0->c=86)/\∀H',Same H H'->Q (.int i) H'
end St
namespace Km
open PySem PySem.NumText L2 PyProof.Rows
open Builtin Builtin.Str
def eK(c d:Nat):List (List Nat)->List Nat
 | []=>[]
 | [x]=>x
 | x::y::r=>x++c::d::eK c d (y::r)
theorem gg(c d:Nat):∀ys:List Str,(Str.join ⟨#[c,d]⟩ ys).cps.toList=eK c d (ys.map λy=>y.cps.toList)
 | []=>rfl
 | [y]=>rfl
 | y::u::ys=>by
  have ih:=gg c d (u::ys)
  rw [join_cons_cons]
  show ((y.cps++#[c,d])++(Str.join ⟨#[c,d]⟩ (u::ys)).cps).toList=_
  rw [Array.toList_append,Array.toList_append,ih]
  simp [eK]
theorem kZ{c d:Nat}:∀{xs ys:List (List Nat)},xs≠[]->ys≠[]->(∀x∈xs,c∉x)->(∀y∈ys,c∉y)->eK c d xs=eK c d ys->xs=ys
 | [],_,h,_,_,_,_=>absurd rfl h
 | _::_,[],_,h,_,_,_=>absurd rfl h
 | [x],[y],_,_,_,_,e=>by rw [show x=y from e]
 | [x],y::u::ys,_,_,hx,_,e=>by
  have e':x=y++c::d::eK c d (u::ys):=e
  exact absurd (by rw [e'];simp) (hx x List.mem_cons_self)
 | x::u::xs,[y],_,_,_,hy,e=>by
  have e':x++c::d::eK c d (u::xs)=y:=e
  exact absurd (by rw [← e'];simp) (hy y List.mem_cons_self)
 | x::u::xs,y::v::ys,_,_,hx,hy,e=>by
  have e':x++c::d::eK c d (u::xs)=y++c::d::eK c d (v::ys):=e
  obtain ⟨e1,e2⟩:=ln (hx x Ω) (hy y Ω) e'
  rw [e1,kZ (by simp) (by simp) (λz hz=>hx z (List.mem_cons_of_mem _ hz)) (λz hz=>hy z (List.mem_cons_of_mem _ hz)) (List.cons.inj e2).2]
def zy(c d:Nat)(l:List Nat):Prop:=∀k,l[k]?=some c->l[k+1]?=some d
theorem li{c d:Nat}(hcd:c≠d):∀{ps:List (List Nat)},(∀p∈ps,c∉p)->zy c d (eK c d ps)
 | [],_,k,h=>by cases h
 | [x],hp,k,h=>absurd (List.mem_of_getElem? h) (hp x Ω)
 | x::y::r,hp,k,h=>by
  have ih:=li hcd (ps:=y::r) λp hp'=>hp p (Θ _ hp')
  have h':(x++c::d::eK c d (y::r))[k]?=some c:=h
  show (x++c::d::eK c d (y::r))[k+1]?=some d
  by_cases h1:k<x.length
  ·rw [List.getElem?_append_left h1] at h'
   exact absurd (List.mem_of_getElem? h') (hp x Ω)
  ·rw [List.getElem?_append_right ω] at h' ⊢
   obtain ⟨m,hm⟩:∃m,k=x.length+m:=⟨k-x.length,ω⟩
   subst hm
   rw [Nat.add_sub_cancel_left] at h'
   rw [show x.length+m+1-x.length=m+1 from by omega]
   match m,h' with
   | 0,_=>rfl
   | 1,h'=>exact absurd (Δ h').symm hcd
   | m+2,h'=>exact ih m h'
theorem qS(x:Str)(c d i:Nat):(i+(⟨#[c,d]⟩:Str).length<=x.length/\subAt x ⟨#[c,d]⟩ i=true)↔(x.cps.toList[i]?=some c/\x.cps.toList[i+1]?=some d):=by
 rw [StrLaws.subAt_eq]
 have hl:x.length=x.cps.toList.length:=by simp [Str.length]
 have e2:(⟨#[c,d]⟩:Str).length=2:=rfl
 rw [e2,hl]
 generalize x.cps.toList=l
 show (i+2<=l.length/\(((l.drop i).take 2)==[c,d])=true)↔_
 rw [beq_iff_eq]
 constructor
 ·rintro ⟨h1,h2⟩
  have a0:((l.drop i).take 2)[0]?=l[i]?:=by rw [List.getElem?_take_of_lt ω,List.getElem?_drop,Nat.add_zero]
  have a1:((l.drop i).take 2)[1]?=l[i+1]?:=by rw [List.getElem?_take_of_lt ω,List.getElem?_drop]
  rw [h2] at a0 a1
  exact ⟨a0.symm,a1.symm⟩
 ·rintro ⟨h1,h2⟩
  have hb:=(List.getElem?_eq_some_iff.mp h2).1
  refine ⟨ω,?_⟩
  have e:=List.drop_eq_getElem_cons (l:=l) (i:=i) ω
  have e':=List.drop_eq_getElem_cons (l:=l) (i:=i+1) ω
  rw [e,e',(List.getElem?_eq_some_iff.mp h1).2,(List.getElem?_eq_some_iff.mp h2).2]
  rfl
section
variable {x:Str}{c d:Nat}(hF:zy c d x.cps.toList)
include hF
theorem Ay{k:Nat}(h:x.cps.toList[k]?=some c):StrLaws.At x ⟨#[c,d]⟩ x.length k:=(qS x c d k).mpr ⟨h,hF k h⟩
theorem gV(a b:Nat)(hb:b<=x.length)(hn:∀k,a<=k->k<b->¬StrLaws.At x ⟨#[c,d]⟩ x.length k):c∉(strSub x a b).cps.toList:=by
 intro hm
 rw [StrLaws.strSub_toList] at hm
 obtain ⟨j,hj⟩:=List.getElem?_of_mem hm
 have hlt:j<b-a:=by
  have h1:j<((x.cps.toList.drop a).take (b-a)).length:=(List.getElem?_eq_some_iff.mp hj).1
  rw [List.length_take] at h1
  omega
 rw [List.getElem?_take_of_lt hlt,List.getElem?_drop] at hj
 exact hn (a+j) ω ω (Ay hF hj)
theorem i6:∀(cuts:List Nat) (a f:Nat),StrLaws.ChainG x ⟨#[c,d]⟩ x.length a cuts f->(∀k,f<=k->¬StrLaws.At x ⟨#[c,d]⟩ x.length k)->∀p∈StrLaws.partsFrom x (⟨#[c,d]⟩:Str).length a cuts,c∉p.cps.toList
 | [],a,f,h,hn,p,hp=>by
  have e:f=a:=h
  subst e
  rw [List.mem_singleton.mp hp]
  exact gV hF f x.length (ι _) λk h1 _=>hn k h1
 | i::r,a,f,h,hn,p,hp=>by
  rcases List.mem_cons.mp hp with rfl | hp'
  ·exact gV hF a i (by have:=h.2.1.1;omega) h.2.2.1
  ·exact i6 r _ f h.2.2.2 hn p hp'
theorem mV(hk:Builtin.Str.strKind x<Builtin.Str.strKind ⟨#[c,d]⟩->False):∀p∈Txt.split x ⟨#[c,d]⟩,c∉p.cps.toList:=by
 obtain ⟨f,hG,hn⟩:=StrLaws.occ_tight x ⟨#[c,d]⟩ (by show 1<=2;decide)
 unfold Txt.split
 split
 ·rename_i hc
  intro p hp
  rw [List.mem_singleton.mp hp]
  intro hm
  obtain ⟨j,hj⟩:=List.getElem?_of_mem hm
  have hA:=Ay hF hj
  rw [Bool.or_eq_true,decide_eq_true_eq,decide_eq_true_eq] at hc
  rcases hc with h | h
  ·have:=hA.1;omega
  ·exact hk h
 ·split
  ·rename_i he
   intro p hp
   rw [List.mem_singleton.mp hp]
   have e0:occurrences x ⟨#[c,d]⟩ 0 x.length (x.length+1)=[]:=List.isEmpty_iff.mp he
   rw [e0] at hG
   have ef:f=0:=hG
   subst ef
   rw [← StrLaws.sub_whole x]
   exact gV hF 0 x.length (ι _) λk h1 _=>hn k h1
  ·rw [StrLaws.partsBetween_eq]
   exact i6 hF _ 0 f hG hn
end
theorem pI{c d:Nat}(hc:c<256)(hd:d<256)(x:Str):¬Builtin.Str.strKind x<Builtin.Str.strKind ⟨#[c,d]⟩:=by
 have k1:(#[c,d]:Array Nat).all (·<256)=true:=by simp [hc,hd]
 unfold Builtin.Str.strKind
 rw [if_pos k1]
 split
 ·omega
 ·split<;>omega
theorem qU{z:Str}{c d:Nat}{ps:List (List Nat)}(hcd:c≠d)(hc:c<256)(hd:d<256)(ez:z.cps.toList=eK c d ps)(h0:ps≠[])(hp:∀p∈ps,c∉p):Txt.split z ⟨#[c,d]⟩=ps.map λp=>(⟨p.toArray⟩:Str):=by
 have e1:=gg c d (Txt.split z ⟨#[c,d]⟩)
 rw [StrLaws.join_split,ez] at e1
 have n1:(Txt.split z ⟨#[c,d]⟩).map (λy=>y.cps.toList)≠[]:=by
  intro e
  have:=split_pos z ⟨#[c,d]⟩
  rw [List.map_eq_nil_iff.mp e] at this
  exact absurd this ζ
 have hF:zy c d z.cps.toList:=by rw [ez];exact li hcd hp
 have e2:=kZ h0 n1 hp (λy hy=>by
  obtain ⟨p,hp',rfl⟩:=List.mem_map.mp hy
  exact mV hF (pI hc hd z) p hp') e1
 rw [e2,List.map_map]
 have e3:((λp:List Nat=>(⟨p.toArray⟩:Str))∘λy:Str=>y.cps.toList)=_root_.id:=by
  funext y
  obtain ⟨a⟩:=y
  simp
 rw [e3,List.map_id]
theorem wm{z x y:Str}{c:Nat}(ez:z.cps.toList=x.cps.toList++c::y.cps.toList)(hx:c∉x.cps.toList):Txt.partition z ⟨#[c]⟩=(x,⟨#[c]⟩,y):=by
 have lx:x.length=x.cps.toList.length:=by simp [Str.length]
 have hl:z.length=x.length+1+y.length:=by
  have e1:z.length=z.cps.toList.length:=by simp [Str.length]
  have e2:y.length=y.cps.toList.length:=by simp [Str.length]
  rw [e1,ez,e2,lx,List.length_append,List.length_cons]
  omega
 have ha:z.cps.toList[x.length]?=some c:=by rw [ez,lx,List.getElem?_append_right (ι _),Nat.sub_self];rfl
 have hA:=(StrLaws.subAt_one z c x.length).mpr ha
 have no:∀k,k<x.length->¬StrLaws.At z ⟨#[c]⟩ z.length k:=λk hk hAk=>by
  have e:=(StrLaws.subAt_one z c k).mp hAk
  rw [ez,List.getElem?_append_left ω] at e
  exact hx (List.mem_of_getElem? e)
 obtain ⟨i,r,e,hi,hk⟩:∃i r,occurrences z ⟨#[c]⟩ 0 z.length 1=i::r/\StrLaws.At z ⟨#[c]⟩ z.length i/\∀k,k<i->¬StrLaws.At z ⟨#[c]⟩ z.length k :=
  (StrLaws.occ_head z ⟨#[c]⟩ 1 (ι _)).resolve_left λh=>h.2 _ hA
 have ei:i=x.length:=by
  rcases Nat.lt_trichotomy i x.length with h | h | h
  ·exact absurd hi (no _ h)
  ·exact h
  ·exact absurd hA (hk _ h)
 subst ei
 unfold Txt.partition
 rw [e]
 have ea:z.cps=(x.cps.toList++c::y.cps.toList).toArray:=by
  apply Array.toList_inj.mp
  rw [ez]
 have e1:strSub z 0 x.length=x:=by
  unfold strSub
  rw [ea,lx]
  obtain ⟨xs⟩:=x
  congr 1
  apply Array.toList_inj.mp
  simp
 have e2:strSub z (x.length+(⟨#[c]⟩:Str).length) z.length=y:=by
  unfold strSub
  rw [ea,hl]
  have e3:(⟨#[c]⟩:Str).length=1:=rfl
  rw [e3]
  obtain ⟨xs⟩:=x
  obtain ⟨ys⟩:=y
  congr 1
  apply Array.toList_inj.mp
  simp [Str.length]
  have e4:xs.toList++c::ys.toList=(xs.toList++[c])++ys.toList:=by simp
  rw [e4,List.drop_left' (by simp)]
  exact List.take_of_length_le (by simp)
 show (strSub z 0 x.length,(⟨#[c]⟩:Str),strSub z (x.length+(⟨#[c]⟩:Str).length) z.length)=_
 rw [e1,e2]
end Km
namespace Tb
open PySem PySem.SetTable
theorem mx(xs:Array Nat)(j:Nat):∀fuel lo hi:Nat,hi-lo<=fuel->lo<=hi->hi<=xs.size->(∀(i k a b:Nat),i<=k->xs[i]?=some a->xs[k]?=some b->a<=b)->(∀(i a:Nat),i<lo->xs[i]?=some a->a<j)->(∀(i a:Nat),hi<=i->xs[i]?=some a->j<=a) ->
  below.go xs j fuel lo hi<=xs.size/\(∀(i a:Nat),i<below.go xs j fuel lo hi->xs[i]?=some a->a<j)/\∀(i a:Nat),below.go xs j fuel lo hi<=i->xs[i]?=some a->j<=a
 | 0,lo,hi,hf,hl,hh,_,h1,h2=>by
  have e:lo=hi:=by omega
  subst e
  exact ⟨hh,h1,h2⟩
 | fuel+1,lo,hi,hf,hl,hh,hm,h1,h2=>by
  unfold below.go
  by_cases hlt:lo<hi
  ·rw [if_pos hlt]
   have hmid:(lo+hi)/2<xs.size:=by omega
   have e:xs[(lo+hi)/2]?=some xs[(lo+hi)/2]:=Array.getElem?_eq_getElem hmid
   have eg:xs.getD ((lo+hi)/2) j=xs[(lo+hi)/2]:=by simp [Array.getD,hmid]
   dsimp only
   rw [eg]
   by_cases hc:xs[(lo+hi)/2]<j
   ·rw [if_pos hc]
    refine mx xs j fuel _ hi ω ω hh hm (λi a hi' ea=>?_) h2
    exact Nat.lt_of_le_of_lt (hm i _ a _ ω ea e) hc
   ·rw [if_neg hc]
    refine mx xs j fuel lo _ ω ω ω hm h1 (λi a hi' ea=>?_)
    exact Λ (Nat.not_lt.mp hc) (hm _ i _ a hi' e ea)
  ·rw [if_neg hlt]
   have e:lo=hi:=by omega
   subst e
   exact ⟨hh,h1,h2⟩
def Rs(l:List Nat):Prop:=l.Pairwise (·<·)
theorem Rs.mono{xs:Array Nat}(h:Rs xs.toList):∀(i k a b:Nat),i<=k->xs[i]?=some a->xs[k]?=some b->a<=b:=by
 intro i k a b hik ea eb
 rcases Nat.lt_or_eq_of_le hik with hlt | rfl
 ·rw [← Array.getElem?_toList] at ea eb
  obtain ⟨h1,e1⟩:=List.getElem?_eq_some_iff.mp ea
  obtain ⟨h2,e2⟩:=List.getElem?_eq_some_iff.mp eb
  have:=List.pairwise_iff_getElem.mp h i k h1 h2 hlt
  rw [← e1,← e2]
  exact Nat.le_of_lt this
 ·rw [ea] at eb;cases eb;exact ι _
theorem dL{xs:Array Nat}(h:Rs xs.toList)(j:Nat):below xs j<=xs.size/\(∀a∈xs.toList.take (below xs j),a<j)/\∀a∈xs.toList.drop (below xs j),j<=a:=by
 obtain ⟨h1,h2,h3⟩:=mx xs j xs.size 0 xs.size ω (Nat.zero_le _) (ι _) h.mono (λi a hi=>absurd hi ω) (λi a hi e=>by rw [Array.getElem?_eq_none hi] at e;cases e)
 refine ⟨h1,λa ha=>?_,λa ha=>?_⟩
 ·obtain ⟨i,hi⟩:=List.getElem?_of_mem ha
  rw [List.getElem?_take] at hi
  split at hi
  ·rename_i hlt
   exact h2 i a hlt (by rw [← Array.getElem?_toList];exact hi)
  ·cases hi
 ·obtain ⟨i,hi⟩:=List.getElem?_of_mem ha
  rw [List.getElem?_drop] at hi
  exact h3 (below xs j+i) a (by show below xs j<=_;omega) (by rw [← Array.getElem?_toList];exact hi)
theorem vp{xs:Array Nat}(h:Rs xs.toList){j:Nat}(hj:j∈xs.toList):xs[below xs j]?=some j:=by
 obtain ⟨h1,h2,h3⟩:=dL h j
 have hj':j∈xs.toList.take (below xs j)++xs.toList.drop (below xs j):=by rw [List.take_append_drop];exact hj
 rcases List.mem_append.mp hj' with z | z
 ·exact absurd (h2 j z) (Nat.lt_irrefl _)
 ·cases e:xs.toList.drop (below xs j) with
  | nil=>rw [e] at z;cases z
  | cons b r =>
   have eb:xs.toList[below xs j]?=some b:=by
    have:(xs.toList.drop (below xs j))[0]?=some b:=by rw [e];rfl
    rw [List.getElem?_drop] at this
    simpa using this
   have hb:j<=b:=h3 b (by rw [e];exact Ω)
   have:b=j:=by
    rw [e] at z
    rcases List.mem_cons.mp z with rfl | z
    ·rfl
    ·have hs:Rs (b::r):=by
      have:Rs (xs.toList.drop (below xs j)):=List.Pairwise.sublist (List.drop_sublist _ _) h
      rw [e] at this;exact this
     have:=(List.pairwise_cons.mp hs).1 j z
     omega
   rw [← Array.getElem?_toList,eb,this]
theorem vo{xs:Array Nat}(h:Rs xs.toList){j:Nat}(hj:j∉xs.toList):(xs[below xs j]?==some j)=false:=by
 refine beq_eq_false_iff_ne.mpr λe=>hj ?_
 rw [← Array.getElem?_toList] at e
 exact List.mem_of_getElem? e
theorem rM{xs:Array Nat}(h:Rs xs.toList){j:Nat}(hj:j∉xs.toList):Rs (insertAt xs (below xs j) j).toList:=by
 obtain ⟨h1,h2,h3⟩:=dL h j
 rw [toList_insertAt]
 refine List.pairwise_append.mpr ⟨List.Pairwise.sublist (List.take_sublist _ _) h,List.pairwise_cons.mpr ⟨λa ha=>?_,List.Pairwise.sublist (List.drop_sublist _ _) h⟩,λa ha b hb=>?_⟩
 ·have:=h3 a ha
  have hne:a≠j:=λe=>hj (e▸List.mem_of_mem_drop ha)
  omega
 ·have ha':=h2 a ha
  rcases List.mem_cons.mp hb with rfl | hb
  ·exact ha'
  ·exact Nat.lt_of_lt_of_le ha' (h3 b hb)
theorem pT{xs:Array Nat}(h:Rs xs.toList){k p:Nat}(hp:xs[k]?=some p):below xs (p+1)=k+1:=by
 obtain ⟨h1,h2,h3⟩:=dL h (p+1)
 have hk:k<xs.size:=(Array.getElem?_eq_some_iff.mp hp).1
 have hp':xs.toList[k]?=some p:=by rw [Array.getElem?_toList];exact hp
 have lo:k<below xs (p+1):=by
  refine Nat.lt_of_not_le λhle=>?_
  have:p∈xs.toList.drop (below xs (p+1)):=by
   refine List.mem_of_getElem? (i:=k-below xs (p+1)) ?_
   rw [List.getElem?_drop]
   rw [show below xs (p+1)+(k-below xs (p+1))=k by omega]
   exact hp'
  have:=h3 p this
  omega
 refine Nat.le_antisymm (Nat.le_of_not_lt λhlt=>?_) lo
 have hk1:k+1<xs.toList.length:=by rw [Array.length_toList];omega
 have e1:xs.toList[k+1]?=some xs.toList[k+1]:=ξ hk1
 have m:xs.toList[k+1]∈xs.toList.take (below xs (p+1)):=by
  refine List.mem_of_getElem? (i:=k+1) ?_
  rw [List.getElem?_take,if_pos hlt]
  exact e1
 have a1:=h2 _ m
 obtain ⟨g1,g2⟩:=List.getElem?_eq_some_iff.mp hp'
 have a2:=List.pairwise_iff_getElem.mp h k (k+1) g1 hk1 (Nat.lt_succ_self _)
 rw [g2] at a2
 omega
theorem pS{xs:Array Nat}(h:Rs xs.toList):below xs 0=0:=by
 obtain ⟨h1,h2,h3⟩:=dL h 0
 refine Nat.eq_zero_of_not_pos λhpos=>?_
 have hl:0<xs.toList.length:=by rw [Array.length_toList];omega
 have:xs.toList[0]∈xs.toList.take (below xs 0):=by
  refine List.mem_of_getElem? (i:=0) ?_
  rw [List.getElem?_take,if_pos hpos]
  exact ξ hl
 exact absurd (h2 _ this) (Nat.not_lt_zero _)
end Tb
namespace Tb
open PySem PySem.SetTable
def adv(t:SetTable)(p:Probe):Nat->Probe
 | 0=>p
 | n+1=>adv t (t.advance p) n
def wk(t:SetTable)(p:Probe):Nat->List Nat
 | 0=>[]
 | n+1=>p.j::wk t (t.advance p) n
theorem qG(t:SetTable):∀(m n:Nat) (p:Probe),adv t p (m+n)=adv t (adv t p m) n
 | 0,n,p=>by rw [Nat.zero_add];rfl
 | m+1,n,p=>by rw [show m+1+n=(m+n)+1 by omega];exact qG t m n (t.advance p)
theorem lD(t:SetTable):∀(m n:Nat) (p:Probe),wk t p (m+n)=wk t p m++wk t (adv t p m) n
 | 0,n,p=>by rw [Nat.zero_add];rfl
 | m+1,n,p=>by
  rw [show m+1+n=(m+n)+1 by omega]
  show p.j::wk t (t.advance p) (m+n)=p.j::(wk t (t.advance p) m++_)
  rw [lD t m n (t.advance p)]
  rfl
theorem rZ{t:SetTable}{p:Probe}{m n:Nat}(h:m<=n){s:Nat}(hs:s∈wk t p m):s∈wk t p n:=by
 obtain ⟨d,rfl⟩:∃d,n=m+d:=⟨n-m,ω⟩
 rw [lD]
 exact List.mem_append_left _ hs
theorem lC(t:SetTable):∀(n:Nat) (p:Probe),(adv t p n).dummy=p.dummy
 | 0,_=>rfl
 | n+1,p=>by
  show (adv t (t.advance p) n).dummy=_
  rw [lC t n]
  unfold advance
  split<;>rfl
def ix(mask i q:Nat):Probe:={j:=i,more:=runEnd mask i-i,i:=i,perturb:=q,dummy:=none}
theorem gm(t:SetTable)(h:Int):t.probeStart h=ix t.mask (bits h%(t.mask+1)) (bits h):=rfl
theorem iJ(t:SetTable):∀(m:Nat) (p:Probe),p.more=m->p.dummy=none->wk t p (m+1)=List.range' p.j (m+1)/\adv t p (m+1)=ix t.mask (leap t.mask p.i p.perturb).1 (leap t.mask p.i p.perturb).2
 | 0,p,hm,hd=>by
  refine ⟨rfl,?_⟩
  show t.advance p=_
  unfold advance
  rw [if_neg ω]
  unfold ix
  simp only [hd]
 | m+1,p,hm,hd=>by
  have e:t.advance p={p with j:=p.j+1,more:=m}:=by
   unfold advance
   rw [if_pos ω,hm]
   rfl
  obtain ⟨h1,h2⟩:=iJ t m {p with j:=p.j+1,more:=m} rfl hd
  constructor
  ·show p.j::wk t (t.advance p) (m+1)=List.range' p.j (m+1+1)
   rw [e,h1]
   exact (List.range'_succ ..).symm
  ·show adv t (t.advance p) (m+1)=_
   rw [e,h2]
theorem qZ(mask i:Nat):runEnd mask i-i<=9:=by
 unfold runEnd
 split<;>omega
def rq(h:Int)(n:Nat):Nat:=bits h/32 ^ n
def ri(mask:Nat)(h:Int):Nat->Nat
 | 0=>bits h%(mask+1)
 | n+1=>(ri mask h n*5+1+rq h (n+1))%(mask+1)
theorem vq(t:SetTable)(h:Int):∀n:Nat,∃l,l<=10*n/\adv t (t.probeStart h) l=ix t.mask (ri t.mask h n) (rq h n)
 | 0=>⟨0,Nat.le_refl _,by rw [gm];unfold rq;rw [Nat.pow_zero,Nat.div_one];rfl⟩
 | n+1=>by
  obtain ⟨l,hl,e⟩:=vq t h n
  obtain ⟨_,h2⟩:=iJ t (runEnd t.mask (ri t.mask h n)-ri t.mask h n) (ix t.mask (ri t.mask h n) (rq h n)) rfl rfl
  have:=qZ t.mask (ri t.mask h n)
  refine ⟨l+(runEnd t.mask (ri t.mask h n)-ri t.mask h n+1),ω,?_⟩
  rw [qG,e,h2]
  have eq:(ix t.mask (ri t.mask h n) (rq h n)).perturb/32=rq h (n+1):=by
   show bits h/32 ^ n/32=bits h/32 ^ (n+1)
   rw [Nat.div_div_eq_div_mul,← Nat.pow_succ]
  unfold leap
  rw [eq]
  rfl
theorem yi(t:SetTable)(h:Int)(n:Nat):ri t.mask h n∈wk t (t.probeStart h) (10*n+1):=by
 obtain ⟨l,hl,e⟩:=vq t h n
 refine rZ (m:=l+1) ω ?_
 rw [lD,e]
 exact Ψ _ Ω
theorem xa(h:Int):bits h<2 ^ 64:=by
 unfold bits
 have h1:0<=h%(2 ^ 64:Int):=Int.emod_nonneg _ ζ
 have h2:h%(2 ^ 64:Int)<2 ^ 64:=Int.emod_lt_of_pos _ ζ
 omega
theorem wb(h:Int){n:Nat}(hn:13<=n):rq h n=0:=by
 unfold rq
 refine Nat.div_eq_of_lt (Nat.lt_of_lt_of_le (xa h) ?_)
 exact Λ (by decide:2 ^ 64<=32 ^ 13) (Nat.pow_le_pow_right ζ hn)
def cyc(m:Nat):Nat->Nat
 | 0=>0
 | n+1=>(cyc m n*5+1)%m
def kK(mask:Nat):Prop:=mask=7\/mask=31\/mask=127
theorem mD{mask:Nat}(g:kK mask):(∀s,s<mask+1->∃n,n<mask+1/\cyc (mask+1) n=s)/\cyc (mask+1) (mask+1)=0:=by
 rcases g with rfl | rfl | rfl<;>exact ⟨θ,θ⟩
theorem oo{mask:Nat}(g:kK mask):∀n,cyc (mask+1) (mask+1+n)=cyc (mask+1) n
 | 0=>(mD g).2
 | n+1=>by show (cyc (mask+1) (mask+1+n)*5+1)%(mask+1)=_;rw [oo g n];rfl
theorem o7{mask:Nat}(h:Int){a:Nat}(ha:ri mask h 12=cyc (mask+1) a):∀n,ri mask h (12+n)=cyc (mask+1) (a+n)
 | 0=>ha
 | n+1=>by
  show (ri mask h (12+n)*5+1+rq h (12+n+1))%(mask+1)=(cyc (mask+1) (a+n)*5+1)%(mask+1)
  rw [o7 h ha n,wb h ω,Nat.add_zero]
theorem zZ(mask:Nat)(h:Int):∀n,ri mask h n<mask+1
 | 0=>Nat.mod_lt _ (Nat.succ_pos _)
 | _+1=>Nat.mod_lt _ (Nat.succ_pos _)
theorem Ao{mask:Nat}(g:kK mask)(h:Int){s:Nat}(hs:s<=mask):∃n,n<=12+mask/\ri mask h n=s:=by
 obtain ⟨a,ha,ea⟩:=(mD g).1 (ri mask h 12) (zZ mask h 12)
 obtain ⟨b,hb,eb⟩:=(mD g).1 s ω
 by_cases hab:a<=b
 ·refine ⟨12+(b-a),ω,?_⟩
  rw [o7 h ea.symm,show a+(b-a)=b by omega,eb]
 ·refine ⟨12+(mask+1+b-a),ω,?_⟩
  rw [o7 h ea.symm,show a+(mask+1+b-a)=mask+1+b by omega,oo g,eb]
theorem zu{t:SetTable}(g:kK t.mask)(h:Int){s:Nat}(hs:s<=t.mask):s∈wk t (t.probeStart h) (10*(t.mask+14)):=by
 obtain ⟨n,hn,e⟩:=Ao g h hs
 refine rZ (m:=10*n+1) ω ?_
 rw [← e]
 exact yi t h n
theorem j9{l:List Nat}{mask:Nat}(hl:l.length<=mask):∃s,s<=mask/\s∉l:=by
 refine Classical.byContradiction λhc=>?_
 have all:∀s,s<=mask->s∈l:=λs hs=>Classical.byContradiction λz=>hc ⟨s,hs,z⟩
 have:(List.range (mask+1)).length<=l.length:=List.Nodup.length_le_of_subset List.nodup_range λs hs=>all s (by have:=List.mem_range.mp hs;omega)
 rw [List.length_range] at this
 omega
theorem rQ{l path:List Nat}(h:∃s,s∈path/\s∉l):∃pre e post,path=pre++e::post/\(∀s∈pre,s∈l)/\e∉l:=by
 induction path with
 | nil=>obtain ⟨s,hs,_⟩:=h;cases hs
 | cons a r ih =>
  by_cases ha:a∈l
  ·obtain ⟨s,hs,hn⟩:=h
   rcases List.mem_cons.mp hs with rfl | hs
   ·exact absurd ha hn
   ·obtain ⟨pre,e,post,e1,e2,e3⟩:=ih ⟨s,hs,hn⟩
    exact ⟨a::pre,e,post,by rw [e1];rfl,λs hs=>(List.mem_cons.mp hs).elim (λz=>z▸ha) (e2 s),e3⟩
  ·exact ⟨[],a,r,rfl,λ_ hs=>(nomatch hs),ha⟩
section
variable {t:SetTable}
theorem oi(j:Nat):has #[] j=false:=rfl
theorem qX(h:Rs t.place.toList){j:Nat}(hj:j∈t.place.toList):t.slot j=.live (below t.place j):=by
 unfold slot
 dsimp only
 rw [vp h hj,if_pos (by simp)]
theorem oW(h:Rs t.place.toList)(hd:t.dummies=#[]){j:Nat}(hj:j∉t.place.toList):t.slot j=.empty:=by
 unfold slot
 dsimp only
 rw [vo h hj,hd,oi]
 rfl
theorem nE{hashAt:Nat->Int}{h:Int}(hr:Rs t.place.toList)(hd:t.dummies=#[]):∀(pre:List Nat) (e:Nat) (post:List Nat) (fuel:Nat) (p:Probe),wk t p fuel=pre++e::post->(∀s∈pre,s∈t.place.toList)->e∉t.place.toList->p.dummy=none ->
  ((∀s∈pre,(hashAt (below t.place s)==h)=false)/\probe.go t hashAt h fuel p=some (.empty e none)) \/
  ∃pre1 j pre2,pre=pre1++j::pre2/\(∀s∈pre1,(hashAt (below t.place s)==h)=false)/\(hashAt (below t.place j)==h)=true/\probe.go t hashAt h fuel p=some (.candidate j (below t.place j) (adv t p (pre1.length+1)))
 | [],e,post,0,p,hw,_,_,_=>by cases hw
 | _::_,e,post,0,p,hw,_,_,_=>by cases hw
 | [],e,post,fuel+1,p,hw,_,he,hp=>by
  have e1:p.j=e:=(List.cons.inj hw).1
  refine .inl ⟨(λ_ hs=>nomatch hs),?_⟩
  unfold probe.go
  rw [e1,oW hr hd he,hp]
 | a::pre,e,post,fuel+1,p,hw,ha,he,hp=>by
  obtain ⟨e1,e2⟩:=List.cons.inj hw
  have ha':a∈t.place.toList:=ha a Ω
  unfold probe.go
  rw [show p.j=a from e1,qX hr ha']
  dsimp only
  cases hc:hashAt (below t.place a)==h with
  | true =>
   refine .inr ⟨[],a,pre,rfl,(λ_ hs=>nomatch hs),hc,?_⟩
   rfl
  | false =>
   have hp':(t.advance p).dummy=none:=by have:=lC t 1 p;rw [hp] at this;exact this
   rcases nE hr hd pre e post fuel (t.advance p) e2 (λs hs=>ha s (Θ _ hs)) he hp' with ⟨h1,h2⟩ | ⟨pre1,j,pre2,h1,h2,h3,h4⟩
   ·refine .inl ⟨λs hs=>(List.mem_cons.mp hs).elim (λz=>z▸hc) (h1 s),?_⟩
    rw [if_neg ζ]
    exact h2
   ·refine .inr ⟨a::pre1,j,pre2,by rw [h1];rfl,λs hs=>(List.mem_cons.mp hs).elim (λz=>z▸hc) (h2 s),h3,?_⟩
    rw [if_neg ζ,h4]
    rfl
end
end Tb
namespace Tb
open PySem PySem.SetTable
theorem kJ{t t':SetTable}(e:t.mask=t'.mask)(p:Probe):t.advance p=t'.advance p:=by
 unfold advance
 rw [e]
theorem mO{t t':SetTable}(e:t.mask=t'.mask):∀(n:Nat) (p:Probe),wk t p n=wk t' p n
 | 0,_=>rfl
 | n+1,p=>by show p.j::_=p.j::_;rw [kJ e,mO e n]
theorem mU{t t':SetTable}(e:t.mask=t'.mask)(h:Int):t.probeStart h=t'.probeStart h:=by rw [gm,gm,e]
def Rch(t:SetTable)(P:List Nat)(h:Int)(s:Nat):Prop:=∃n pre post,wk t (t.probeStart h) n=pre++s::post/\∀a∈pre,a∈P
theorem Rch.mono{t t':SetTable}{P P':List Nat}{h:Int}{s:Nat}(e:t.mask=t'.mask)(hs:∀a∈P,a∈P')(r:Rch t P h s):Rch t' P' h s:=by
 obtain ⟨n,pre,post,e1,e2⟩:=r
 exact ⟨n,pre,post,by rw [← mO e,← mU e];exact e1,λa ha=>hs a (e2 a ha)⟩
structure TOk(t:SetTable)(es:List (Int×Value)):Prop where
 gd:kK t.mask
 rs:Rs t.place.toList
 du:t.dummies=#[]
 sz:t.place.toList.length=es.length
 fl:es.length<=t.mask
 rc:∀x∈t.place.toList.zip es,Rch t t.place.toList x.2.1 x.1
theorem qP(f m:Nat)(led:Bool):TOk (.fresh f m led) []:=⟨.inl rfl,.nil,rfl,rfl,Nat.zero_le _,λx hx=>nomatch hx⟩
section
variable {t:SetTable}{es:List (Int×Value)}
theorem TOk.fits(k:TOk t es){n:Nat}(hn:es.length=n):t.fits n=true:=by
 unfold SetTable.fits fill
 have h1:=k.sz
 have h2:=k.fl
 rw [Array.length_toList] at h1
 rw [k.du]
 simp
 omega
theorem TOk.free(k:TOk t es)(h:Int):∃pre e post,wk t (t.probeStart h) (10*turns t.mask)=pre++e::post/\(∀s∈pre,s∈t.place.toList)/\e∉t.place.toList:=by
 obtain ⟨s,hs,hn⟩:=j9 (l:=t.place.toList) (mask:=t.mask) (by rw [k.sz];exact k.fl)
 refine rQ ⟨s,rZ (m:=10*(t.mask+14)) (by show _<=10*(t.mask+15);omega) (zu k.gd h hs),hn⟩
theorem TOk.freeSlot(k:TOk t es)(h:Int):∃e,t.freeSlot h=some (e,false)/\e∉t.place.toList/\Rch t t.place.toList h e:=by
 obtain ⟨pre,e,post,ew,hp,he⟩:=k.free h
 refine ⟨e,?_,he,⟨_,pre,post,ew,hp⟩⟩
 unfold SetTable.freeSlot probe
 rcases nE (hashAt:=λ_=>h+1) (h:=h) k.rs k.du pre e post _ _ ew hp he rfl with ⟨_,q⟩ | ⟨_,j,_,_,_,hj,_⟩
 ·rw [q];rfl
 ·have:h+1=h:=by simpa using hj
  omega
theorem tI(k:TOk t es)(s:Nat):t.put s=({t with place:=insertAt t.place (below t.place s) s},below t.place s):=by
 unfold put
 dsimp only
 rw [k.du,oi]
 cases t
 have:=k.du
 simp only at this
 subst this
 rfl
theorem TOk.put(k:TOk t es){s:Nat}{h:Int}{x:Value}(hs:s∉t.place.toList)(r:Rch t t.place.toList h s)(hl:es.length+1<=t.mask){ea:Array (Int×Value)}(ee:ea.toList=es) :
  TOk (t.put s).1 (insertAt ea (t.put s).2 (h,x)).toList:=by
 rw [tI k]
 have hb:=(dL k.rs s).1
 have el:(insertAt ea (below t.place s) (h,x)).toList=es.take (below t.place s)++(h,x)::es.drop (below t.place s):=by rw [toList_insertAt,ee]
 have pl:(insertAt t.place (below t.place s) s).toList=t.place.toList.take (below t.place s)++s::t.place.toList.drop (below t.place s):=toList_insertAt ..
 have sub:∀a∈t.place.toList,a∈(insertAt t.place (below t.place s) s).toList:=λa ha=>by
  rw [pl]
  have ha':a∈t.place.toList.take (below t.place s)++t.place.toList.drop (below t.place s):=by rw [List.take_append_drop];exact ha
  rcases List.mem_append.mp ha' with z | z
  ·exact List.mem_append_left _ z
  ·exact Ψ _ (Θ _ z)
 refine ⟨k.gd,rM k.rs hs,k.du,?_,?_,λy hy=>?_⟩
 ·show (insertAt t.place (below t.place s) s).toList.length=_
  have h1:=k.sz
  rw [pl,el]
  simp only [List.length_append,List.length_cons,List.length_take,List.length_drop]
  omega
 ·show (insertAt ea (below t.place s) (h,x)).toList.length<=t.mask
  rw [el]
  simp only [List.length_append,List.length_cons,List.length_take,List.length_drop]
  omega
 ·have hy':y∈(insertAt t.place (below t.place s) s).toList.zip (insertAt ea (below t.place s) (h,x)).toList:=hy
  rw [pl,el,List.zip_append (by simp only [List.length_take];rw [k.sz])] at hy'
  have mn:∀{g a},Rch t t.place.toList g a->Rch {t with place:=insertAt t.place (below t.place s) s} (insertAt t.place (below t.place s) s).toList g a:=λz=>Rch.mono (t:=t) rfl sub z
  rcases List.mem_append.mp hy' with z | z
  ·exact mn (k.rc y (by
    have e1:t.place.toList=t.place.toList.take (below t.place s)++t.place.toList.drop (below t.place s):=(List.take_append_drop _ _).symm
    have e2:es=es.take (below t.place s)++es.drop (below t.place s):=(List.take_append_drop _ _).symm
    rw [e1,e2,List.zip_append (by simp only [List.length_take];rw [k.sz])]
    exact List.mem_append_left _ z))
  ·rcases List.mem_cons.mp (show y∈(s,(h,x))::_ from z) with rfl | z
   ·exact mn r
   ·exact mn (k.rc y (by
     have e1:t.place.toList=t.place.toList.take (below t.place s)++t.place.toList.drop (below t.place s):=(List.take_append_drop _ _).symm
     have e2:es=es.take (below t.place s)++es.drop (below t.place s):=(List.take_append_drop _ _).symm
     rw [e1,e2,List.zip_append (by simp only [List.length_take];rw [k.sz])]
     exact Ψ _ z))
end
end Tb
namespace Tb
open PySem PySem.SetTable
def rn(mask:Nat):Nat->Nat×Nat->Nat×Nat
 | 0,s=>s
 | m+1,s=>rn mask m (leap mask s.1 s.2)
theorem qh(mask:Nat):∀(m:Nat) (s:Nat×Nat),rn mask (m+1) s=leap mask (rn mask m s).1 (rn mask m s).2
 | 0,_=>rfl
 | m+1,s=>by show rn mask (m+1) (leap mask s.1 s.2)=_;rw [qh mask m];rfl
theorem tD(mask:Nat)(h:Int):∀m,rn mask m (bits h%(mask+1),bits h)=(ri mask h m,rq h m)
 | 0=>by unfold rq;rw [Nat.pow_zero,Nat.div_one];rfl
 | m+1=>by
  rw [qh,tD mask h m]
  show ((ri mask h m*5+1+rq h m/32)%(mask+1),rq h m/32)=_
  have e:rq h m/32=rq h (m+1):=by
   show bits h/32 ^ m/32=bits h/32 ^ (m+1)
   rw [Nat.div_div_eq_div_mul,← Nat.pow_succ]
  rw [e]
  rfl
def Tk(owner:Array (Option Nat))(j:Nat):Prop:=∃i,owner[j]?=some (some i)
theorem so{owner:Array (Option Nat)}{j:Nat}(hj:j<owner.size):(owner.getD j (some 0)).isNone=true\/Tk owner j:=by
 have e:owner[j]?=some owner[j]:=Array.getElem?_eq_getElem hj
 have eg:owner.getD j (some 0)=owner[j]:=by simp [Array.getD,hj]
 rw [eg]
 cases q:owner[j] with
 | none=>exact .inl rfl
 | some i=>exact .inr ⟨i,by rw [e,q]⟩
theorem nR{owner:Array (Option Nat)}{j:Nat}(h:(owner.getD j (some 0)).isNone=true):j<owner.size/\¬Tk owner j/\owner[j]?=some none:=by
 by_cases hj:j<owner.size
 ·have e:owner[j]?=some owner[j]:=Array.getElem?_eq_getElem hj
  have eg:owner.getD j (some 0)=owner[j]:=by simp [Array.getD,hj]
  rw [eg] at h
  have q:owner[j]=none:=Option.isNone_iff_eq_none.mp h
  refine ⟨hj,λ⟨i,z⟩=>?_,by rw [e,q]⟩
  rw [e,q] at z
  cases z
 ·have eg:owner.getD j (some 0)=some 0:=by simp [Array.getD,hj]
  rw [eg] at h
  cases h
theorem kR{mask i:Nat}(h:i<=mask):runEnd mask i<=mask/\i<=runEnd mask i:=by
 unfold runEnd
 split<;>omega
theorem va(t:SetTable)(owner:Array (Option Nat))(ho:owner.size=t.mask+1):∀(n fuel i q:Nat),n<fuel->i<=t.mask->(∃m,m<=n/\¬Tk owner (rn t.mask m (i,q)).1/\(rn t.mask m (i,q)).1<=t.mask) ->
  ∃l pre j post,layClean.free t.mask owner fuel i q=some j/\wk t (ix t.mask i q) l=pre++j::post/\(∀a∈pre,Tk owner a)/\owner[j]?=some none:=by
 intro n
 induction n with
 | zero =>
  intro fuel i q hf hi ⟨m,hm,hn,_⟩
  obtain rfl:m=0:=by omega
  obtain ⟨fuel,rfl⟩:∃f,fuel=f+1:=⟨fuel-1,ω⟩
  have h0:(owner.getD i (some 0)).isNone=true:=(so ω).resolve_right hn
  refine ⟨1,[],i,[],?_,rfl,(λ_ h=>nomatch h),(nR h0).2.2⟩
  unfold layClean.free
  obtain ⟨r1,r2⟩:=kR hi
  have e:runEnd t.mask i+1-i=(runEnd t.mask i-i)+1:=by omega
  rw [e,List.range_succ_eq_map,List.find?_cons]
  simp only [Nat.add_zero,h0]
 | succ n ih =>
  intro fuel i q hf hi ⟨m,hm,hn,hk⟩
  obtain ⟨fuel,rfl⟩:∃f,fuel=f+1:=⟨fuel-1,ω⟩
  obtain ⟨r1,r2⟩:=kR hi
  obtain ⟨w1,w2⟩:=iJ t (runEnd t.mask i-i) (ix t.mask i q) rfl rfl
  have el:runEnd t.mask i+1-i=runEnd t.mask i-i+1:=by omega
  unfold layClean.free
  cases hf2:(List.range (runEnd t.mask i+1-i)).find? λk=>(owner.getD (i+k) (some 0)).isNone with
  | some k =>
   obtain ⟨hp,as,bs,e1,e2⟩:=List.find?_eq_some_iff_append.mp hf2
   refine ⟨runEnd t.mask i-i+1,as.map (i+·),i+k,bs.map (i+·),rfl,?_,λa ha=>?_,(nR hp).2.2⟩
   ·rw [w1]
    show List.range' i (runEnd t.mask i-i+1)=_
    rw [List.range'_eq_map_range,← el,e1,List.map_append,List.map_cons]
   ·obtain ⟨b,hb,rfl⟩:=List.mem_map.mp ha
    have hb2:b∈List.range (runEnd t.mask i+1-i):=by rw [e1];exact List.mem_append_left _ hb
    have:=List.mem_range.mp hb2
    rcases so (owner:=owner) (j:=i+b) ω with z | z
    ·have:=e2 b hb
     rw [z] at this
     cases this
    ·exact z
  | none =>
   dsimp only
   have all:∀k,k<runEnd t.mask i+1-i->Tk owner (i+k):=λk hk=>by
    have:=List.find?_eq_none.mp hf2 k (List.mem_range.mpr hk)
    exact (so ω).resolve_left this
   cases m with
   | zero=>exact absurd (all 0 ω) hn
   | succ m =>
    obtain ⟨l,pre,j,post,h1,h2,h3,h4⟩:=ih fuel (leap t.mask i q).1 (leap t.mask i q).2 ω (by have:=Nat.mod_lt (i*5+1+q/32) (show 0<t.mask+1 by omega);show (i*5+1+q/32)%(t.mask+1)<=t.mask;omega) ⟨m,ω,hn,hk⟩
    refine ⟨runEnd t.mask i-i+1+l,List.range' i (runEnd t.mask i-i+1)++pre,j,post,h1,?_,λa ha=>?_,h4⟩
    ·rw [lD,w1,w2]
     show List.range' i (runEnd t.mask i-i+1)++wk t (ix t.mask (leap t.mask i q).1 (leap t.mask i q).2) l=_
     rw [h2,List.append_assoc]
    ·rcases List.mem_append.mp ha with z | z
     ·obtain ⟨h5,h6⟩:=List.mem_range'_1.mp z
      have:=all (a-i) ω
      rw [show i+(a-i)=a by omega] at this
      exact this
     ·exact h3 a z
structure Own(t:SetTable)(hs:List Int)(owner:Array (Option Nat))(A:List (Nat×Nat))(k:Nat):Prop where
 sz:owner.size=t.mask+1
 iff:∀j i,owner[j]?=some (some i)↔(j,i)∈A
 sn:A.map (·.2)=List.range k
 nd:(A.map (·.1)).Nodup
 rc:∀x∈A,∃h,hs[x.2]?=some h/\Rch t (A.map (·.1)) h x.1
theorem wo(t:SetTable)(hs:List Int):Own t hs (Array.replicate (t.mask+1) none) [] 0:=by
 refine ⟨by simp,λj i=>⟨λh=>?_,λh=>nomatch h⟩,rfl,.nil,λx hx=>nomatch hx⟩
 rw [Array.getElem?_replicate] at h
 split at h<;>cases h
theorem fQ{t:SetTable}{hs:List Int}{owner:Array (Option Nat)}{A:List (Nat×Nat)}{k:Nat}{h:Int}(g:kK t.mask)(o:Own t hs owner A k)(hh:hs[k]?=some h)(hk:k<=t.mask) :
  ∃j,layClean.free t.mask owner (turns t.mask) (bits h%(t.mask+1)) (bits h)=some j/\Own t hs (owner.setIfInBounds j (some k)) (A++[(j,k)]) (k+1):=by
 have la:A.length=k:=by
  have:=congrArg List.length o.sn
  simpa using this
 have tkA:∀a,Tk owner a↔a∈A.map (·.1):=λa=>⟨λ⟨i,z⟩=>List.mem_map.mpr ⟨(a,i),(o.iff a i).mp z,rfl⟩,λz=>by
  obtain ⟨x,hx,rfl⟩:=List.mem_map.mp z
  exact ⟨x.2,(o.iff x.1 x.2).mpr hx⟩⟩
 obtain ⟨s,hs1,hs2⟩:=j9 (l:=A.map (·.1)) (mask:=t.mask) (by rw [List.length_map];omega)
 obtain ⟨m,hm,em⟩:=Ao g h hs1
 obtain ⟨l,pre,j,post,h1,h2,h3,h4⟩:=va t owner o.sz (12+t.mask) (turns t.mask) (bits h%(t.mask+1)) (bits h) (by show 12+t.mask<t.mask+15;omega) (by have:=Nat.mod_lt (bits h) (show 0<t.mask+1 by omega);omega)
  ⟨m,hm,by rw [tD,em,tkA];exact hs2,by rw [tD,em];exact hs1⟩
 have hj:j<owner.size:=(Array.getElem?_eq_some_iff.mp h4).1
 have nj:j∉A.map (·.1):=λz=>by
  obtain ⟨i,e⟩:=(tkA j).mpr z
  rw [h4] at e
  cases e
 refine ⟨j,h1,⟨by rw [Array.size_setIfInBounds];exact o.sz,λa i=>?_,?_,?_,λx hx=>?_⟩⟩
 ·rw [Array.getElem?_setIfInBounds]
  by_cases ea:j=a
  ·subst ea
   rw [if_pos rfl,if_pos hj]
   constructor
   ·intro e
    cases e
    exact Ψ _ Ω
   ·intro e
    rcases List.mem_append.mp e with z | z
    ·exact absurd (List.mem_map.mpr ⟨_,z,rfl⟩) nj
    ·cases List.mem_singleton.mp z
     rfl
  ·rw [if_neg ea,o.iff]
   constructor
   ·exact λz=>List.mem_append_left _ z
   ·intro e
    rcases List.mem_append.mp e with z | z
    ·exact z
    ·cases List.mem_singleton.mp z
     exact absurd rfl ea
 ·rw [List.map_append,o.sn,List.range_succ]
  rfl
 ·rw [List.map_append]
  refine List.nodup_append.mpr ⟨o.nd,by simp,λa ha b hb e=>?_⟩
  have:b=j:=by simpa using hb
  rw [e,this] at ha
  exact nj ha
 ·have up:∀a∈A.map (·.1),a∈(A++[(j,k)]).map (·.1):=λa ha=>by rw [List.map_append];exact List.mem_append_left _ ha
  rcases List.mem_append.mp hx with z | z
  ·obtain ⟨h',e1,e2⟩:=o.rc x z
   exact ⟨h',e1,e2.mono rfl up⟩
  ·cases List.mem_singleton.mp z
   exact ⟨h,hh,l,pre,post,by rw [gm];exact h2,λa ha=>up a ((tkA a).mp (h3 a ha))⟩
theorem nK{t:SetTable}{hs:List Int}(g:kK t.mask)(hl:hs.length<=t.mask+1):∀(r:List Int) (owner:Array (Option Nat)) (A:List (Nat×Nat)) (k:Nat),hs.drop k=r->Own t hs owner A k ->
  ∃owner' A',r.foldl (λacc h=>do
   let (owner,k) ← acc
   let j ← layClean.free t.mask owner (turns t.mask) (bits h%(t.mask+1)) (bits h)
   pure (owner.setIfInBounds j (some k),k+1)) (some (owner,k))=some (owner',k+r.length)/\Own t hs owner' A' (k+r.length)
 | [],owner,A,k,_,o=>⟨owner,A,rfl,o⟩
 | h::r,owner,A,k,hd,o=>by
  have hh:hs[k]?=some h:=by
   have:(hs.drop k)[0]?=some h:=by rw [hd];rfl
   rw [List.getElem?_drop] at this
   simpa using this
  have hk:k<hs.length:=(List.getElem?_eq_some_iff.mp hh).1
  obtain ⟨j,e1,o1⟩:=fQ g o hh ω
  have hd1:hs.drop (k+1)=r:=by rw [← List.drop_drop,hd];rfl
  obtain ⟨owner',A',e2,o2⟩:=nK g hl r _ _ (k+1) hd1 o1
  refine ⟨owner',A',?_,by rw [List.length_cons,show k+(r.length+1)=k+1+r.length by omega];exact o2⟩
  rw [List.foldl_cons]
  show List.foldl _ ((layClean.free t.mask owner (turns t.mask) (bits h%(t.mask+1)) (bits h)).bind λj=>some (owner.setIfInBounds j (some k),k+1)) r=_
  rw [e1]
  show List.foldl _ (some (owner.setIfInBounds j (some k),k+1)) r=_
  rw [e2,List.length_cons,show k+(r.length+1)=k+1+r.length by omega]
end Tb
namespace Tb
open PySem PySem.SetTable
theorem wT{mask f m:Nat}{led plain:Bool}{hashes:Array Int}{es:List (Int×Value)}(g:kK mask)(hh:hashes.toList=es.map (·.1))(hl:es.length<=mask) :
  ∃t order,laid mask f m led plain hashes=some (t,order)/\t.mask=mask/\t.led=led/\t.plain=plain/\order.toList.Perm (List.range es.length)/\TOk t (order.toList.filterMap (es[·]?)):=by
 let t0:SetTable:={mask:=mask,place:=#[],dummies:=#[],finger:=f,led:=led,moves:=m,plain:=plain}
 have hn:hashes.toList.length=es.length:=by rw [hh,List.length_map]
 obtain ⟨owner,A,e,o⟩:=nK (t:=t0) (hs:=hashes.toList) g (by rw [hn];show es.length<=mask+1;omega) hashes.toList _ [] 0 rfl (wo t0 hashes.toList)
 rw [Nat.zero_add,hn] at e o
 have ec:layClean mask hashes=some owner:=by
  unfold layClean
  rw [← Array.foldl_toList]
  have e':=congrArg (Option.map (·.1)) e
  exact e'
 let Lv:List (Nat×Nat):=(List.range (mask+1)).filterMap λj=>(owner.getD j none).map (j,·)
 have mem:∀x,x∈Lv↔x∈A:=λx=>by
  obtain ⟨j,i⟩:=x
  rw [← o.iff]
  constructor
  ·intro hx
   obtain ⟨a,ha,ea⟩:=List.mem_filterMap.mp hx
   obtain ⟨b,eb,ex⟩:=Option.map_eq_some_iff.mp ea
   cases ex
   by_cases hj:j<owner.size
   ·have:owner.getD j none=owner[j]:=by simp [Array.getD,hj]
    rw [this] at eb
    rw [Array.getElem?_eq_getElem hj,eb]
   ·have:owner.getD j none=none:=by simp [Array.getD,hj]
    rw [this] at eb
    cases eb
  ·intro hx
   obtain ⟨hj,eb⟩:=Array.getElem?_eq_some_iff.mp hx
   refine List.mem_filterMap.mpr ⟨j,List.mem_range.mpr (by have:=o.sz;show j<t0.mask+1;omega),?_⟩
   have:owner.getD j none=owner[j]:=by simp [Array.getD,hj]
   rw [this,eb]
   rfl
 have rs:(Lv.map (·.1)).Pairwise (·<·):=by
  rw [List.pairwise_map,List.pairwise_filterMap]
  refine List.pairwise_lt_range.imp ?_
  intro a b hab x hx y hy
  obtain ⟨_,_,rfl⟩:=Option.map_eq_some_iff.mp hx
  obtain ⟨_,_,rfl⟩:=Option.map_eq_some_iff.mp hy
  exact hab
 have ndL:Lv.Nodup:=(List.pairwise_map.mp rs).imp λh e=>by rw [e] at h;exact Nat.lt_irrefl _ h
 have ndA:A.Nodup:=(List.pairwise_map.mp (show (A.map (·.1)).Pairwise (·≠·) from o.nd)).imp λh e=>h (by rw [e])
 have perm:Lv.Perm A:=(List.perm_ext_iff_of_nodup ndL ndA).mpr mem
 have p2:(Lv.map (·.2)).Perm (List.range es.length):=by rw [← o.sn];exact perm.map _
 have inr:∀x∈Lv,x.2<es.length:=λx hx=>List.mem_range.mp (p2.mem_iff.mp (List.mem_map.mpr ⟨x,hx,rfl⟩))
 refine ⟨{mask:=mask,place:=(Lv.map (·.1)).toArray,dummies:=#[],finger:=f,led:=led,moves:=m,plain:=plain},(Lv.map (·.2)).toArray,?_,rfl,rfl,rfl,by simpa using p2,?_⟩
 ·unfold laid
  rw [ec]
  rfl
 ·have es':((Lv.map (·.2)).toArray.toList.filterMap (es[·]?))=Lv.map λx=>(es[x.2]?).getD (0,.none):=by
   show (Lv.map (·.2)).filterMap (es[·]?)=_
   rw [List.filterMap_map]
   clear perm mem ndL p2 rs
   generalize Lv=L at inr
   induction L with
   | nil=>rfl
   | cons x r ih =>
    have hx:=inr x Ω
    have ex:es[x.2]?=some es[x.2]:=ξ hx
    rw [List.filterMap_cons_some (f:=(λx=>es[x]?)∘λx:Nat×Nat=>x.2) (a:=x) (b:=es[x.2]) ex,ih λy hy=>inr y (Θ _ hy),List.map_cons,ex]
    rfl
  rw [es']
  have pl:(Lv.map (·.1)).toArray.toList=Lv.map (·.1):=rfl
  have ll:Lv.length=es.length:=by
   have:=p2.length_eq
   simpa using this
  refine ⟨g,rs,rfl,by rw [pl,List.length_map,List.length_map],by rw [List.length_map,ll];exact hl,λy hy=>?_⟩
  have hy':y∈(Lv.map (·.1)).zip (Lv.map λx=>(es[x.2]?).getD (0,.none)):=hy
  rw [List.zip_map'] at hy'
  obtain ⟨x,hx,rfl⟩:=List.mem_map.mp hy'
  obtain ⟨h,e1,e2⟩:=o.rc x ((mem x).mp hx)
  have e3:((es[x.2]?).getD (0,.none)).1=h:=by
   rw [hh,List.getElem?_map] at e1
   obtain ⟨z,ez,rfl⟩:=Option.map_eq_some_iff.mp e1
   rw [ez]
   rfl
  show Rch _ _ ((es[x.2]?).getD (0,.none)).1 x.1
  rw [e3]
  exact Rch.mono (t:=t0) rfl (λa ha=>(perm.map (·.1)).mem_iff.mpr ha) e2
structure SOk(t:SetTable)(es:List (Int×Value)):Prop where
 ok:TOk t es
 nf:es.length*5<t.mask*3
theorem qW(f m:Nat)(led:Bool):SOk (.fresh f m led) []:=⟨qP f m led,by show 0*5<7*3;decide⟩
theorem SOk.room{t:SetTable}{es:List (Int×Value)}(k:SOk t es):es.length+1<=t.mask:=by
 have:=k.nf
 rcases k.ok.gd with h | h | h<;>omega
theorem u8{t:SetTable}{es:List (Int×Value)}(k:TOk t es):t.tooFull=decide (t.mask*3<=es.length*5):=by
 unfold tooFull fill
 have h1:=k.sz
 rw [Array.length_toList] at h1
 rw [k.du,h1]
 rfl
theorem uZ{mask n:Nat}(g:kK mask)(hf:mask*3<=n*5)(hp:(n-1)*5<mask*3)(hn:n<=76):kK (sizeAbove (grown n)-1)/\n*5<(sizeAbove (grown n)-1)*3/\n<=sizeAbove (grown n)-1/\sizeAbove (grown n)<=128:=by
 rcases g with h | h | h
 ·have:n=5:=by omega
  subst this
  exact ⟨.inr (.inl θ),θ,θ,θ⟩
 ·have:n=19:=by omega
  subst this
  exact ⟨.inr (.inr θ),θ,θ,θ⟩
 ·omega
theorem ra{t:SetTable}{ea:Array (Int×Value)}(k:TOk t ea.toList)(hf:t.mask*3<=ea.size*5)(hp:(ea.size-1)*5<t.mask*3)(hn:ea.size<=76) :
  ∃t' order,t.relaid (ea.map (·.1)) (grown ea.size)=some (t',order)/\t'.led=t.led/\t'.plain=t.plain/\order.toList.Perm (List.range ea.size)/\SOk t' (order.filterMap (ea[·]?)).toList:=by
 obtain ⟨g1,g2,g3,_⟩:=uZ k.gd hf hp hn
 obtain ⟨t',order,e1,e2,e3,e4,e5,e6⟩:=wT (f:=t.finger) (m:=t.movedTo (sizeAbove (grown ea.size)-1)) (led:=t.led) (plain:=t.plain) (hashes:=ea.map (·.1)) (es:=ea.toList) g1 (by simp) (by rw [Array.length_toList];exact g3)
 rw [Array.length_toList] at e5
 have e7:(order.filterMap (ea[·]?)).toList=order.toList.filterMap (ea.toList[·]?):=by
  rw [Array.toList_filterMap]
  congr 1
  funext i
  exact (Array.getElem?_toList ..).symm
 refine ⟨t',order,e1,e3,e4,e5,?_⟩
 rw [e7]
 refine ⟨e6,?_⟩
 have hlen:(order.toList.filterMap (ea.toList[·]?)).length=ea.size:=by
  have:=(e5.filterMap (ea.toList[·]?)).length_eq
  rw [this]
  have:=filterMap_getElem?_range ea
  have e8:(λi:Nat=>ea.toList[i]?)=λi:Nat=>ea[i]?:=by funext i;exact Array.getElem?_toList ..
  rw [e8,this,Array.length_toList]
 rw [hlen,e2]
 exact g2
end Tb
namespace Tb
open PySem PySem.SetTable
end Tb
namespace Tb
open PySem PySem.SetTable
section
variable {prog:Program}{w:World}{K:Type} [DecidableEq K] {knd:KeyKind prog w K}{A:Around}{E:Value->Shared->Prop}{s:Shared}
theorem rb{t:SetTable}{es:List (Int×Value)}(k:TOk t es)(e:Nat):(t.put e).1.plain=t.plain/\(t.put e).1.led=t.led/\(t.put e).1.mask=t.mask:=by
 rw [tI k]
 exact ⟨rfl,rfl,rfl⟩
end
end Tb
namespace Tb
open PySem PySem.SetTable
theorem yY{t:SetTable}{ea:Array (Int×Value)}(k:SOk t ea.toList)(h:Int)(x:Value) :
  ∃e,e∉t.place.toList/\Rch t t.place.toList h e/\TOk (t.put e).1 (insertAt ea (t.put e).2 (h,x)).toList/\layNew t ea h x=(insertAt ea (t.put e).2 (h,x),(t.put e).1,false,false):=by
 obtain ⟨e,e1,e2,e3⟩:=k.ok.freeSlot h
 have k1:TOk (t.put e).1 (insertAt ea (t.put e).2 (h,x)).toList:=k.ok.put e2 e3 k.room rfl
 have hf:=k1.fits (n:=(insertAt ea (t.put e).2 (h,x)).size) (Array.length_toList ..)
 refine ⟨e,e2,e3,k1,?_⟩
 unfold layNew
 rw [e1]
 dsimp only
 unfold SetTable.orStandIn
 rw [if_pos hf,hf]
 rfl
theorem tF{t:SetTable}{ea:Array (Int×Value)}(k:TOk t ea.toList)(hf:t.mask*3<=ea.size*5)(hp:(ea.size-1)*5<t.mask*3)(hn:ea.size<=76) :
  ∃t' es',relayAll t ea (grown ea.size)=(es',t',false)/\t'.led=t.led/\t'.plain=t.plain/\es'.toList.Perm ea.toList/\SOk t' es'.toList:=by
 obtain ⟨t',order,r1,r2,r3,r4,r5⟩:=ra k hf hp hn
 have r6:(order.filterMap (ea[·]?)).toList.Perm ea.toList:=by
  rw [Array.toList_filterMap]
  exact (r4.filterMap _).trans (by rw [filterMap_getElem?_range])
 refine ⟨t',_,?_,r2,r3,r6,r5⟩
 unfold relayAll
 rw [r1]
 dsimp only
 have c1:coversAll order ea.size=true:=by
  unfold coversAll
  exact List.isPerm_iff.mpr r4
 rw [c1,r5.ok.fits (n:=(order.filterMap (ea[·]?)).size) (Array.length_toList ..)]
 rfl
section
variable {prog:Program}{w:World}{K:Type} [DecidableEq K] {knd:KeyKind prog w K}{A:Around}{E:Value->Shared->Prop}{s:Shared}
def VSet(knd:KeyKind prog w K)(h:Heap)(a:Addr)(led:Bool)(vs:List (K×Value)):Prop :=
 ∃o es ep t,h.get? a=some o/\o.ExactSet/\o.data=.set es ep t/\SOk t es.toList/\t.led=led/\t.plain=true/\es.toList.Perm (vs.map λx=>(knd.hash x.1,x.2))/\(vs.map (·.1)).Nodup/\∀x∈vs,knd.is x.1 x.2=true/\x.2.scannable=true/\plainKind x.2=true
def pV(vs:List (K×Value))(k:K)(x:Value):List (K×Value):=if k∈vs.map (·.1) then vs else vs++[(k,x)]
theorem se{a:Addr}{x:Value}{led:Bool}{k:K}{vs:List (K×Value)}{Q:Bool->Shared->Prop}(hS:VSet knd s.heap a led vs)(hkey:knd.is k x=true)(hsc:x.scannable=true)(hpk:plainKind x=true)(hn:vs.length<=60)
  (q:∀b h',Heap.SameBut a s.heap h'->VSet knd h' a led (pV vs k x)->Q b {s with heap:=h'}):wpAny (model prog w) A (setAddHashed a x (knd.hash k)) Q E s:=by
 have hS0:=hS
 obtain ⟨o,es,ep,t,ho,hex,hd,hk,hl,hpl,hp,hnd,hx⟩:=hS
 have hsz:es.size=vs.length:=by have:=hp.length_eq;rw [Array.length_toList,List.length_map] at this;exact this
 have hf:=hk.ok.fits (n:=es.size) (Array.length_toList ..)
 have hel:ElemsOf knd es.toList:=λe he=>by
  obtain ⟨y,hy,rfl⟩:=List.mem_map.mp (hp.mem_iff.mp he)
  exact ⟨⟨y.1,(hx y hy).1,rfl⟩,(hx y hy).2.1⟩
 have sb:(64:Nat)<=scanBound:=by decide
 have hb:es.size<scanBound:=by omega
 unfold setAddHashed setAddHashedIn
 refine wpAny_holding (ε (wpAny_setState_of ho hd hf ?_))
 dsimp only
 rw [byScan_of hsc hb hel]
 simp only [↓reduceIte]
 unfold setAddByScan
 refine ε ?_
 refine ε (wpAny_rule ?_)
 refine ε (wpAny_setScan_of hkey ho hd hf hel ?_)
 cases hr:List.findIdx? (λe=>knd.is k e.2) es.toList with
 | some j =>
  dsimp only
  obtain ⟨hj,hpj,_⟩:=List.findIdx?_eq_some_iff_getElem.mp hr
  obtain ⟨y,hy,ey⟩:=List.mem_map.mp (hp.mem_iff.mp (List.getElem_mem hj))
  have hin:k∈vs.map (·.1):=by
   have h2:knd.is k y.2=true:=by rw [← ey] at hpj;exact hpj
   exact List.mem_map.mpr ⟨y,hy,(knd.inj y.2 k y.1 h2 (hx y hy).1).symm⟩
  refine π (π ?_)
  have e1:s={s with heap:=s.heap}:=by cases s;rfl
  rw [e1]
  refine q _ s.heap (Heap.SameBut.refl a s.heap) ?_
  unfold pV
  rw [if_pos hin]
  exact hS0
 | none =>
  dsimp only
  have hni:k∉vs.map (·.1):=λhin=>by
   obtain ⟨y,hy,ey⟩:=List.mem_map.mp hin
   have:=List.findIdx?_eq_none_iff.mp hr (knd.hash y.1,y.2) (hp.mem_iff.mpr (List.mem_map.mpr ⟨y,hy,rfl⟩))
   rw [← ey,(hx y hy).1] at this
   cases this
  obtain ⟨e,he,hrc,k1,el⟩:=yY hk (knd.hash k) x
  rw [el]
  dsimp only
  obtain ⟨p1,p2,p3⟩:=rb hk.ok e
  refine ε (π ?_)
  rw [p1,hpl,if_pos rfl]
  refine ε ?_
  rw [hashByValue_scannable 8 hsc,hpk]
  refine π ?_
  rw [if_pos rfl]
  have hp1:(insertAt es (t.put e).2 (knd.hash k,x)).toList.Perm ((vs++[(k,x)]).map λx=>(knd.hash x.1,x.2)):=by
   refine (insertAt_perm ..).trans ?_
   rw [Array.toList_push,List.map_append]
   exact hp.append_right _
  generalize hE:insertAt es (t.put e).2 (knd.hash k,x)=es1 at k1 hp1 ⊢
  have hsz1:es1.size=vs.length+1:=by have:=hp1.length_eq;rw [Array.length_toList,List.length_map,List.length_append] at this;exact this
  have sl:es1.size<=sizeLine:=by rw [sizeLine_eq];omega
  refine ε (wpAny_storeSet_of ho hd ?_ sl)
  have g1:(s.heap.update a (Obj.putSet es1 (t.put e).1)).get? a=some {o with data:=.set es1 (ep+1) (t.put e).1}:=by
   have:=Heap.get?_update_self (Obj.putSet es1 (t.put e).1) ho (by rw [putSet_of es1 (t.put e).1 hd];rfl)
   rw [putSet_of es1 (t.put e).1 hd] at this;exact this
  have sb1:=Heap.SameBut.update s.heap a (Obj.putSet es1 (t.put e).1)
  have ax:pV vs k x=vs++[(k,x)]:=if_neg hni
  have nd1:((vs++[(k,x)]).map (·.1)).Nodup:=by
   rw [List.map_append]
   refine List.nodup_append.mpr ⟨hnd,by simp,λu hu1 v hv e5=>?_⟩
   have:v=k:=by simpa using hv
   exact hni (by rw [← this,← e5];exact hu1)
  have keys:∀y∈vs++[(k,x)],knd.is y.1 y.2=true/\y.2.scannable=true/\plainKind y.2=true:=λy hy=>by
   rcases List.mem_append.mp hy with z | z
   ·exact hx y z
   ·cases List.mem_singleton.mp z
    exact ⟨hkey,hsc,hpk⟩
  have full:=u8 k1
  rw [Array.length_toList,hsz1,p3] at full
  rw [Bool.not_false,Bool.true_and,full]
  have nf:=hk.nf
  rw [Array.length_toList,hsz] at nf
  by_cases hfull:t.mask*3<=(vs.length+1)*5
  ·rw [τ hfull,if_pos rfl]
   obtain ⟨t',es2,r1,r2,r3,r4,r5⟩:=tF (t:=(t.put e).1) (ea:=es1) k1 (by rw [p3,hsz1];exact hfull) (by rw [p3,hsz1];omega) ω
   rw [r1]
   dsimp only
   have r7:es2.size=es1.size:=by have:=r4.length_eq;rw [Array.length_toList,Array.length_toList] at this;exact this
   refine ε (π ?_)
   refine ε (wpAny_storeSet_of g1 rfl ?_ (by rw [r7];exact sl))
   have g2:((s.heap.update a (Obj.putSet es1 (t.put e).1)).update a (Obj.putSet es2 t')).get? a=some {o with data:=.set es2 (ep+1+1) t'}:=by
    have:=Heap.get?_update_self (Obj.putSet es2 t') g1 (by rw [putSet_of es2 t' rfl];rfl)
    rw [putSet_of es2 t' rfl] at this;exact this
   have sb2:=sb1.trans (Heap.SameBut.update (s.heap.update a (Obj.putSet es1 (t.put e).1)) a (Obj.putSet es2 t'))
   refine π (π (q _ _ sb2 ?_))
   rw [ax]
   exact ⟨_,es2,ep+1+1,t',g2,hex,rfl,r5,by rw [r2,p2];exact hl,by rw [r3,p1];exact hpl,r4.trans hp1,nd1,keys⟩
  ·rw [Γ hfull,if_neg ζ]
   refine π (π (q _ _ sb1 ?_))
   rw [ax]
   exact ⟨_,es1,ep+1,(t.put e).1,g1,hex,rfl,⟨k1,by rw [Array.length_toList,hsz1,p3];omega⟩,by rw [p2];exact hl,by rw [p1];exact hpl,hp1,nd1,keys⟩
end
end Tb
namespace Tb
open PySem PySem.SetTable
theorem slot_sin:Slot "set_iterator" "__next__" "set_iterator.__next__" :=
 .of (owner:="set_iterator") (n:="__next__") (by rw [typeLookup_type,builtinLookup_eq_fast];kernel_rfl) θ θ θ (.inl θ) (by rw [isSubtype_type];kernel_rfl)
theorem ni:Slot "set_iterator" "__iter__" "set_iterator.__iter__" :=
 .of (owner:="set_iterator") (n:="__iter__") (by rw [typeLookup_type,builtinLookup_eq_fast];kernel_rfl) θ θ θ (.inl θ) (by rw [isSubtype_type];kernel_rfl)
theorem lj : entryFor table "set_iterator.__next__" = some Builtin.«set_iterator.__next__» := entryFor_of_tree (by kernel_rfl)
theorem rR : entryFor table "set_iterator.__iter__" = some Builtin.«dict_keyiterator.__iter__» :=
 entryFor_alias (id':="dict_keyiterator.__iter__") (by kernel_rfl) rfl θ (by kernel_rfl)
theorem on : entryFor table "set.__iter__" = some Builtin.«frozenset.__iter__» :=
 entryFor_alias (id':="frozenset.__iter__") (by kernel_rfl) rfl θ (by kernel_rfl)
theorem nJ:Manifest.owners.lookup (String.ofList ("set_iterator".toList.reverse).reverse)=some Manifest.sig_set_iterator:=by kernel_rfl
theorem oz(a:Value):argsOk "set_iterator.__next__" ⟨[a],[]⟩:=by
 unfold argsOk;rw [signature?_of (id:="set_iterator.__next__") (n:="__next__".toList.reverse) (o:="set_iterator".toList.reverse) (by kernel_rfl) nJ];kernel_rfl
theorem vt(a:Value):argsOk "set_iterator.__iter__" ⟨[a],[]⟩:=by
 unfold argsOk;rw [signature?_of (id:="set_iterator.__iter__") (n:="__iter__".toList.reverse) (o:="set_iterator".toList.reverse) (by kernel_rfl) nJ];kernel_rfl
theorem ka{α:Type}:∀(l:List α) (i:Nat) (h:i<l.length),(l[i]::l.eraseIdx i).Perm l
 | _::_,0,_=>List.Perm.refl _
 | a::l,i+1,h=>(List.Perm.swap a _ _).trans ((ka l i (Nat.lt_of_succ_lt_succ h)).cons a)
theorem ql{α:Type}(next:Nat->Nat):∀(fuel k:Nat) (left:List α) (out:Array α),left.length=fuel->(pickOrder.go next fuel k left out).toList.Perm (out.toList++left)
 | 0,k,left,out,h=>by
  rw [List.length_eq_zero_iff.mp h,List.append_nil]
  exact List.Perm.refl _
 | fuel+1,k,left,out,h=>by
  have hi:next k%left.length<left.length:=Nat.mod_lt _ ω
  have e:left[next k%left.length]?=some left[next k%left.length]:=ξ hi
  unfold pickOrder.go
  rw [e]
  dsimp only
  refine (ql next fuel (k+1) _ _ (by rw [List.length_eraseIdx_of_lt hi];omega)).trans ?_
  rw [Array.toList_push,List.append_assoc]
  exact List.Perm.append_left _ (ka left _ hi)
theorem rh{α:Type}(next:Nat->Nat)(xs:Array α):(pickOrder next xs).toList.Perm xs.toList:=by
 have:=ql next xs.size 0 xs.toList #[] (Array.length_toList ..)
 simpa [pickOrder] using this
def AB(h:Heap)(a:Addr)(es:Array (Int×Value))(ep:Nat)(t:SetTable):Prop:=∃o,h.get? a=some o/\o.ExactSet/\o.data=.set es ep t
def dv(P:Params)(a ep:Nat)(es:Array (Int×Value)):Array (Int×Value):=if P.followText "set-order"=true then pickOrder (P.setOrder a ep) es else es
theorem kL(P:Params)(a ep:Nat)(es:Array (Int×Value)):(dv P a ep es).toList.Perm es.toList:=by
 unfold dv
 split
 ·exact rh _ _
 ·exact List.Perm.refl _
theorem gj(P:Params)(a ep:Nat)(es:Array (Int×Value)):(dv P a ep es).size=es.size:=by
 have:=(kL P a ep es).length_eq
 rw [Array.length_toList,Array.length_toList] at this
 exact this
def SetIt(P:Params)(h:Heap)(it a:Addr)(t:SetTable)(i n ep:Nat):Prop:=∃slot:Nat,h.get? it=some {cls:=.type "set_iterator",dict:=none,data:=.fields #[.int (slot:Int) 0,.int (i:Int) 0,.ref a,.int (n:Int) 0,.int (ep:Int) 0],slots:=#[]}/\(P.followText "set-order"=false->below t.place slot=i)
section
variable {prog:Program}{w:World}{A:Around}{E:Value->Shared->Prop}{s:Shared}{a it:Addr}{es:Array (Int×Value)}{ep i:Nat}{t:SetTable}
theorem mH{Q:Bool->Shared->Prop}(h:Q (w.params.followText "set-order") s):wpAny (model prog w) A setsByText Q E s:=by
 unfold setsByText
 exact ε (wpAny_askSetting (π h))
theorem nk{Q:Option (Value×Nat)->Shared->Prop}{slot:Nat}(hS:AB s.heap a es ep t)(hk:SOk t es.toList)(hl:t.led=!w.params.followText "set-order")(hp:t.plain=true)(hb:w.params.followText "set-order"=false->below t.place slot=i)
  (q:∀nx:Nat,(w.params.followText "set-order"=false->i<es.size->below t.place nx=i+1)->Q (((dv w.params a ep es)[i]?).map λe=>(e.2,nx)) s):wpAny (model prog w) A (setNext a slot i ep) Q E s:=by
 obtain ⟨o,ho,hx,hd⟩:=hS
 have hf:=hk.ok.fits (n:=es.size) (Array.length_toList ..)
 unfold setNext
 refine ε (wpAny_setState_of ho hd hf (ε (mH ?_)))
 dsimp only
 cases hT:w.params.followText "set-order" with
 | true =>
  rw [if_pos rfl,bne_self_eq_false,if_neg ζ]
  unfold setWalk
  refine ε (ε (wpAny_setState_of ho hd hf (ε (mH ?_))))
  rw [hT,if_pos rfl]
  refine ε (wpAny_askSetting (π (π ?_)))
  have:=q slot (λz=>by rw [hT] at z;cases z)
  unfold dv at this
  rw [hT,if_pos rfl] at this
  exact this
 | false =>
  rw [if_neg ζ]
  have hl1:t.led=true:=by rw [hl,hT];rfl
  split
  ·rename_i z
   have z1:(!t.plain&&decide (es.size>1))=true:=z
   rw [hp] at z1
   cases z1
  ·refine ε (show wpAny _ _ (if (!t.led&&!es.isEmpty)=true then unsupported "set:maker-not-led" else pure ()) _ _ _ from ?_)
   rw [hl1,if_neg (by simp)]
   refine π (π ?_)
   rw [hb hT]
   have ew:dv w.params a ep es=es:=by unfold dv;rw [hT,if_neg ζ]
   rw [ew] at q
   by_cases hi:i<es.size
   ·have h1:=hk.ok.sz
    rw [Array.length_toList,Array.length_toList] at h1
    have hj:i<t.place.size:=by omega
    have e1:es[i]?=some es[i]:=Array.getElem?_eq_getElem hi
    have e2:t.place[i]?=some t.place[i]:=Array.getElem?_eq_getElem hj
    have:=q (t.place[i]+1) (λ_ _=>pT hk.ok.rs e2)
    rw [e1] at this ⊢
    rw [e2]
    exact this
   ·have e1:es[i]?=none:=Array.getElem?_eq_none ω
    have:=q 0 (λ_ z=>absurd z hi)
    rw [e1] at this ⊢
    exact this
end
end Tb
namespace Tb
open PySem PySem.SetTable
section
variable {prog:Program}{w:World}{A:Around}{E:Value->Shared->Prop}{s:Shared}{a it:Addr}{es:Array (Int×Value)}{ep i:Nat}{t:SetTable}
theorem sV{P:Params}{n:Nat}(h:SetIt P s.heap it a t i n ep):s.TypeIs (.ref it) "set_iterator":=let ⟨_,e,_⟩:=h;⟨_,e,rfl⟩
structure WOk(P:Params)(h:Heap)(a:Addr)(es:Array (Int×Value))(ep:Nat)(t:SetTable):Prop where
 raw:AB h a es ep t
 sok:SOk t es.toList
 led:t.led=!P.followText "set-order"
 pl:t.plain=true
theorem WOk.at{P:Params}{h h':Heap}(x:WOk P h a es ep t)(k:∀o,h.get? a=some o->h'.get? a=some o):WOk P h' a es ep t:=⟨let ⟨o,e,r⟩:=x.raw;⟨o,k o e,r⟩,x.sok,x.led,x.pl⟩
theorem SetIt.at{P:Params}{h h':Heap}{n:Nat}(x:SetIt P h it a t i n ep)(k:∀o,h.get? it=some o->h'.get? it=some o):SetIt P h' it a t i n ep:=let ⟨sl,e,r⟩:=x;⟨sl,k _ e,r⟩
theorem vP{e:Int×Value}{Q:Option Value->Shared->Prop}(hit:SetIt w.params s.heap it a t i es.size ep)(hw:WOk w.params s.heap a es ep t)(hx:(dv w.params a ep es)[i]?=some e)
  (hQ:∀h',SetIt w.params h' it a t (i+1) es.size ep->Heap.SameBut it s.heap h'->Q (some e.2) {s with heap:=h'}):wpAny (model prog w) A (pyNext (.ref it)) Q E s:=by
 have ty:=sV hit
 obtain ⟨slot,h1,hb⟩:=hit
 obtain ⟨o,ho,hex,hd⟩:=id hw.raw
 have hf:=hw.sok.ok.fits (n:=es.size) (Array.length_toList ..)
 have hi:i<es.size:=by rw [← gj w.params a ep es];exact (Array.getElem?_eq_some_iff.mp hx).1
 unfold pyNext
 refine ε (wpAny_attempt (wpAny_callSpecial?_slot (name:=Str.ofString "__next__") ty slot_sin (wpAny_call_entry slot_sin ty lj ?_ (oz _))))
 unfold Builtin.«set_iterator.__next__»
 refine ε (π ?_)
 try dsimp only
 refine ε (wpAny_fieldsOf h1 rfl ?_)
 try dsimp only
 refine ε (wpAny_setEntries_of ho hd hf ?_)
 rw [if_neg (by simp)]
 try dsimp only
 rw [Int.toNat_natCast,Int.toNat_natCast,Int.toNat_natCast]
 refine ε (nk (i:=i) hw.raw hw.sok hw.led hw.pl hb λnx hnx=>?_)
 rw [hx]
 dsimp only [Option.map]
 refine wpAny_bind (wpAny_setField_rec h1 (by simp) λh2 e2 s2=>wpAny_bind (wpAny_setField_rec e2 (by simp) λh3 e3 s3=>?_))
 refine π ⟨_,rfl,π (hQ h3 ⟨nx,?_,λz=>hnx z hi⟩ (s2.trans s3))⟩
 have z:((i+1:Nat):Int)=(i:Int)+1:=by omega
 rw [z]
 simpa [rawInt] using e3
theorem yc{Q:Option Value->Shared->Prop}(hh:A.handled=none)(hit:SetIt w.params s.heap it a t i es.size ep)(hw:WOk w.params s.heap a es ep t)(hx:(dv w.params a ep es)[i]?=none)
  (hQ:∀h',Heap.ExtBut it s.heap h'->Q none {s with heap:=h'}):wpAny (model prog w) A (pyNext (.ref it)) Q E s:=by
 have ty:=sV hit
 obtain ⟨slot,h1,hb⟩:=hit
 obtain ⟨o,ho,hex,hd⟩:=id hw.raw
 have hf:=hw.sok.ok.fits (n:=es.size) (Array.length_toList ..)
 unfold pyNext
 refine ε (wpAny_attempt (wpAny_callSpecial?_slot (name:=Str.ofString "__next__") ty slot_sin (wpAny_call_entry slot_sin ty lj ?_ (oz _))))
 unfold Builtin.«set_iterator.__next__»
 refine ε (π ?_)
 try dsimp only
 refine ε (wpAny_fieldsOf h1 rfl ?_)
 try dsimp only
 refine ε (wpAny_setEntries_of ho hd hf ?_)
 rw [if_neg (by simp)]
 try dsimp only
 rw [Int.toNat_natCast,Int.toNat_natCast,Int.toNat_natCast]
 refine ε (nk (i:=i) hw.raw hw.sok hw.led hw.pl hb λnx hnx=>?_)
 rw [hx]
 dsimp only [Option.map]
 refine wpAny_bind (wpAny_setField h1 rfl (by simp) ?_)
 show wpAny _ _ (newExc (.type "StopIteration") [] >>= λ_=>_) _ _ _
 refine ε ?_
 simp only [newExc,newTuple]
 refine wpAny_bind (wpAny_newObj_type (wpAny_bind (m:=firstArgMember _ _) (wpAny_of_eq (a:=Value.none) (by first | rfl | (simp only [firstArgMember];rfl)) (wpAny_newObj_type ?_ (by size_fits)))) (by size_fits))
 simp only [raiseNew]
 refine ε (wpAny_handled ?_)
 rw [show A.in1.handled=none from hh]
 refine ε (π (wpAny_throw ?_));refine ε (wpAny_isInstance (T:="StopIteration") (b:=true) ⟨_,ψ _ rfl,rfl⟩ isSubtype_stop ?_)
 exact π (hQ _ (((Heap.SameBut.update ..).extBut.push _).push _))
theorem vO{n:Nat}{P:Params}{Q:Value->Shared->Prop}(hit:SetIt P s.heap it a t i n ep)(h:Q (.ref it) s):wpAny (model prog w) A (pyIter (.ref it)) Q E s:=by
 have ty:=sV hit
 refine wpAny_pyIter_slot ty ni (wpAny_call_entry ni ty rR ?_ (vt _))
 exact π ⟨_,rfl,"set_iterator",_,ty,slot_sin.lookup,h⟩
theorem vQ{Q:Value->Shared->Prop}(hw:WOk w.params s.heap a es ep t)(hQ:∀h',h'=s.heap.push {cls:=.type "set_iterator",dict:=none,data:=.fields #[.int ((0:Nat):Int) 0,.int ((0:Nat):Int) 0,.ref a,.int (es.size:Int) 0,.int (ep:Int) 0],slots:=#[]}->SetIt w.params h' s.heap.objs.size a t 0 es.size ep->Q (.ref s.heap.objs.size) {s with heap:=h'}) :
  wpAny (model prog w) A (pyIter (.ref a)) Q E s:=by
 obtain ⟨o,ho,hex,hd⟩:=id hw.raw
 have ty:s.TypeIs (.ref a) "set":=⟨o,ho,hex.1⟩
 have hf:=hw.sok.ok.fits (n:=es.size) (Array.length_toList ..)
 refine wpAny_pyIter_slot ty F.slot_set_iter (wpAny_call_entry F.slot_set_iter ty on ?_ (F.args_set_iter_1 _))
 unfold Builtin.«frozenset.__iter__» Builtin.Frozenset.slot0 slotArgs
 simp only [List.isEmpty_nil,Bool.not_true,Bool.false_eq_true,↓reduceIte,bind_assoc,List.length_nil,bne_self_eq_false]
 unfold Builtin.Frozenset.addrOf Builtin.Frozenset.sizeOf
 refine ε (π (ε (π (ε (ε (wpAny_setEntries_of ho hd hf (π ?_)))))))
 unfold setDrawn
 refine ε (ε (wpAny_setState_of ho hd hf (ε (mH (π ?_)))))
 rw [if_neg (show ¬_ from λz=>by
  have z1:(!w.params.followText "set-order"&&(!t.plain&&decide (es.size>1)))=true:=z
  rw [hw.pl] at z1
  simp at z1)]
 refine ε (π (ε (wpAny_setEpoch_of ho hd hf (ε ?_))))
 refine wpAny_newObj_type (π ⟨_,rfl,"set_iterator",_,⟨_,ψ _ rfl,rfl⟩,slot_sin.lookup,hQ _ rfl ⟨0,ψ _ rfl,λ_=>pS hw.sok.ok.rs⟩⟩)
theorem sU(hh:A.handled=none)(hne:a≠it):Walks prog w A it [it,a] [it] es.size (λi v=>∃e,(dv w.params a ep es)[i]?=some e/\v=e.2) (λi h=>SetIt w.params h it a t i es.size ep/\WOk w.params h a es ep t) where
 sub:=λb hb=>by simp at hb;simp [hb]
 frame:=λ_ _ _ st hk=>⟨st.1.at λo e=>hk it (by simp) o e,st.2.at λo e=>hk a (by simp) o e⟩
 item:=λi s Q E hi st hQ=>by
  have hz:=gj w.params a ep es
  have hx:(dv w.params a ep es)[i]?=some (dv w.params a ep es)[i]:=Array.getElem?_eq_getElem ω
  refine vP st.1 st.2 hx λh' hit' hs'=>?_
  exact hQ _ h' s.toks ⟨_,hx,rfl⟩ ⟨hit',st.2.at λo e=>(hs'.2 a hne).trans e⟩ λb o hb e=>hs'.extBut b o (λh=>hb (by simp [h])) e
 done:=λs Q E st hQ=>yc hh st.1 st.2 (Array.getElem?_eq_none (by rw [gj];exact Nat.le_refl _)) λh' he'=>hQ h' s.toks λb o hb e=>he' b o (λh=>hb (by simp [h])) e
 self:=λ_ _ _ _ st hQ=>vO st.1 hQ
end
end Tb
namespace Tb
open PySem PySem.SetTable
theorem pJ{M:Model}{A:Around}{α:Type}{c:Prop} [Decidable c]{x y:Sem α}{Q:α->Shared->Prop}{E:Value->Shared->Prop}{s:Shared}(h1:c->wpAny M A x Q E s)(h2:¬c->wpAny M A y Q E s):wpAny M A (if c then x else y) Q E s:=by
 by_cases h:c
 ·rw [if_pos h];exact h1 h
 ·rw [if_neg h];exact h2 h
section
variable {prog:Program}{w:World}{A:Around}{E:Value->Shared->Prop}{s:Shared}{a:Addr}{es:Array (Int×Value)}{ep:Nat}{t:SetTable}
theorem sX{Q:Bool->Shared->Prop}(ty:s.TypeIs (.ref a) "set")(h:Q false s):wpAny (model prog w) A (Builtin.List.listLengthHint (.ref a)) Q E s:=by
 unfold Builtin.List.listLengthHint
 refine ε (wpAny_specialOf ty PySem.F.slot_set_len.lookup ?_)
 generalize hid:("set.__len__":String)=id0
 wp_delta
 rw [show splitId id0=some ("set","__len__") from by subst hid;decide +kernel]
 subst hid
 refine ε (wpAny_isInstance (T:="set") (b:=true) ty (by rw [isSubtype_type];kernel_rfl) ?_)
 refine pJ (λz=>absurd z ζ) (λ_=>pJ (λ_=>?_) (λz=>absurd θ z))
 exact ε (wpAny_typeOf ty (π h))
theorem nt{R:List Value->Shared->Prop}(hh:A.handled=none)(hw:WOk w.params s.heap a es ep t)(hn:es.size<=sizeLine)
  (hR:∀(h':Heap) (tk:Nat),(∀b o,s.heap.get? b=some o->h'.get? b=some o)->R ((dv w.params a ep es).toList.map (·.2)) {s with heap:=h',toks:=tk}):wpAny (model prog w) A (collect (.ref a)) R E s:=by
 obtain ⟨o,ho,hex,hd⟩:=id hw.raw
 have la:a<s.heap.objs.size:=η ho
 unfold collect
 refine ε (wpAny_runValue (codeAny_builtin PySem.F.entry_proto_collect ?_))
 rw [Around.under_plainId PySem.F.plain_proto_collect _]
 show wpAny _ A.in1 (newList [] >>= λl=>again (.builtin "list.__iadd__" (Args.mk [l,.ref a] []))) _ _ s
 refine ε (wpAny_newObj_type (π ⟨plainId_quiet PySem.F.plain_list_iadd _,codeAny_builtin PySem.F.entry_list_iadd ?_⟩))
 rw [Around.under_plainId PySem.F.plain_list_iadd _]
 show wpAny _ A.in1 (Builtin.List.listExtendWith (.ref s.heap.objs.size) (.ref a) (.ref s.heap.objs.size)) _ _ _
 have hw1:WOk w.params (s.heap.push {cls:=.type "list",data:=.seq ([]:List Value).toArray}) a es ep t:=hw.at λo e=>ρ _ e
 have ty1:Shared.TypeIs {s with heap:=s.heap.push {cls:=.type "list",data:=.seq ([]:List Value).toArray}} (.ref a) "set":=⟨o,ρ _ ho,hex.1⟩
 unfold Builtin.List.listExtendWith
 refine ε (wpAny_typeOf (T:="set") ty1 ?_)
 have b1:Builtin.List.listSameRef (.ref s.heap.objs.size) (.ref a)=false:=by simp only [Builtin.List.listSameRef,beq_eq_false_iff_ne];exact Nat.ne_of_gt la
 rw [b1,if_neg ζ]
 refine ε (vQ (s:={s with heap:=s.heap.push {cls:=.type "list",data:=.seq ([]:List Value).toArray}}) hw1 λh2 e2 it2=>?_)
 have k2:∀b o,(s.heap.push {cls:=.type "list",data:=.seq ([]:List Value).toArray}).get? b=some o->h2.get? b=some o:=λb o e=>by rw [e2];exact ρ _ e
 have hw2:WOk w.params h2 a es ep t:=hw1.at λo e=>k2 _ _ e
 have eI:(s.heap.push {cls:=.type "list",data:=.seq ([]:List Value).toArray}).objs.size=s.heap.objs.size+1:=Heap.size_push ..
 refine ε (wpAny_holding (sX (s:={s with heap:=h2}) ⟨o,k2 _ _ (ρ _ ho),hex.1⟩ ?_))
 refine pJ (λ_=>?_) (λz=>absurd θ z)
 refine ε (wpAny_rule (ε ?_))
 have eS:h2.get? s.heap.objs.size=some {cls:=.type "list",data:=.seq ([]:List Value).toArray}:=k2 _ _ (ψ _ rfl)
 show wpAny _ _ (updateSeq s.heap.objs.size (·.push .none) >>= λ_=>updateSeq s.heap.objs.size (·.pop)) _ _ _
 have eS2:=Heap.get?_update_self (Obj.mapSeq (·.push Value.none)) eS rfl
 have eS3:=Heap.get?_update_self (Obj.mapSeq (·.pop)) eS2 rfl
 have up:∀b o,b≠s.heap.objs.size->h2.get? b=some o->((h2.update s.heap.objs.size (Obj.mapSeq (·.push Value.none))).update s.heap.objs.size (Obj.mapSeq (·.pop))).get? b=some o:=λb o nb e=>(Heap.get?_update_other _ _ (Ne.symm nb)).trans ((Heap.get?_update_other _ _ (Ne.symm nb)).trans e)
 have W:=(sU (prog:=prog) (w:=w) (A:=A.in1) (a:=a) (it:=(s.heap.push {cls:=.type "list",data:=.seq ([]:List Value).toArray}).objs.size) (es:=es) (ep:=ep) (t:=t) hh (by rw [eI];exact Φ (Nat.lt_succ_of_lt la))).toS
 refine ε (wpAny_updateSeq eS rfl (wpAny_updateSeq (hz:=by seq_fits) eS2 rfl (π ⟨plainId_quiet PySem.F.plain_extend_loop _,?_⟩)))
 refine codeAny_extend_loopS W hn s.heap.objs.size (by rw [eI];simp only [List.mem_cons,List.not_mem_nil,or_false,not_or];exact ⟨Nat.ne_of_lt (Nat.lt_succ_self _),Nat.ne_of_gt la⟩) _ es.size 0 _ _ _ (Nat.sub_zero _) (Nat.zero_le _) ⟨it2.at λo e=>up _ _ (by rw [eI];exact Nat.ne_of_gt (Nat.lt_succ_self _)) e,hw2.at λo e=>up _ _ (Nat.ne_of_lt la) e⟩ eS3 (ItemsOf.nil _) λs' acc c hm hS ia=>?_
 obtain ⟨h',g',d',tk',os'⟩:=s'
 obtain rfl:g'=s.gens:=hm.gens
 obtain rfl:d'=s.drawn:=hm.drawn
 obtain rfl:os'=s.os:=hm.os
 show wpAny _ A (load s.heap.objs.size >>= λ_=>_) _ _ _
 refine ε (wpAny_load hS (π ?_))
 have ea:acc.toList=(dv w.params a ep es).toList.map (·.2):=by
  apply List.ext_getElem?
  intro j
  rw [List.getElem?_map,Array.getElem?_toList,Array.getElem?_toList]
  cases hj:acc[j]? with
  | some v =>
   obtain ⟨e,e1,rfl⟩:=ia.2 j v hj
   rw [e1]
   rfl
  | none =>
   have h1:=Array.getElem?_eq_none_iff.mp hj
   rw [ia.1] at h1
   rw [Array.getElem?_eq_none (by rw [gj];exact h1)]
   rfl
 show R acc.toList _
 rw [ea]
 refine hR h' tk' λb o e=>hm.heap b o ?_ (up b o (Φ (η e)) (k2 b o (ρ _ e)))
 have lb:=η e
 rw [eI]
 simp only [List.mem_cons,List.not_mem_nil,or_false,not_or]
 exact ⟨Φ lb,Φ (Nat.lt_succ_of_lt lb)⟩
end
end Tb
namespace Tb
open PySem PySem.SetTable
end Tb
namespace Tb
open PySem PySem.SetTable
abbrev dJ(P:Params):Obj:={cls:=.type "set",dict:=none,data:=.set #[] 0 (.fresh 0 0 (!P.followText "set-order"))}
section
variable {prog:Program}{w:World}{K:Type} [DecidableEq K] {knd:KeyKind prog w K}{A:Around}{E:Value->Shared->Prop}{s:Shared}
theorem vU(x:Value){Q:Value->Shared->Prop}(q:Q (.ref s.heap.objs.size) {s with heap:=s.heap.push (dJ w.params)}) :
  codeAny (model prog w) A (.call (.builtin "set.__new__") ⟨[.type "set",x],[]⟩) (wants Q E) s:=by
 refine codeAny_of_tree (show wpAny _ A.in1 (do checkBuiltinCall "set.__new__" ⟨[.type "set",x],[]⟩;again (.builtin "set.__new__" ⟨[.type "set",x],[]⟩)) _ _ s from ?_)
 refine ε (wpAny_of_eq (PySem.F.newCall_set_1 x) (π ⟨plainId_quiet PySem.F.plain_set_new _,codeAny_builtin PySem.F.entry_set_new ?_⟩))
 rw [Around.under_plainId PySem.F.plain_set_new _]
 unfold Builtin.«set.__new__» Builtin.Frozenset.newClass
 have hsub:=sub_set_self
 obtain ⟨hp,g,d,tk,os⟩:=s
 dsimp only
 wp_walk
 refine wpAny_askSetting (π ?_)
 dsimp only
 simp only [newObj]
 exact ε (wpAny_alloc (π (π q)))
end
end Tb
namespace Tb
open PySem PySem.SetTable
section
variable {prog:Program}{w:World}{K:Type} [DecidableEq K] {knd:KeyKind prog w K}{A:Around}{E:Value->Shared->Prop}{s:Shared}
def jg(l:List (K×Value)):List (K×Value):=l.foldl (λvs x=>pV vs x.1 x.2) []
theorem iP(l:List (K×Value))(x:K×Value):jg (l++[x])=pV (jg l) x.1 x.2:=by
 unfold jg
 rw [List.foldl_append]
 rfl
theorem n0:∀(n:Nat) (l:List (K×Value)),l.length=n->(jg l).length<=n
 | 0,l,h=>by rw [List.length_eq_zero_iff.mp h];exact ι _
 | n+1,l,h=>by
  obtain ⟨r,x,rfl⟩:∃r x,l=r++[x]:=⟨l.dropLast,l.getLast (by intro z;rw [z] at h;cases h),(List.dropLast_concat_getLast _).symm⟩
  have h2:=n0 n r (by rw [List.length_append] at h;exact Nat.succ.inj h)
  rw [iP]
  unfold pV
  split
  ·omega
  ·rw [List.length_append];exact Nat.succ_le_succ h2
theorem nZ:∀(n:Nat) (l:List (K×Value)),l.length=n->∀k,k∈(jg l).map (·.1)↔k∈l.map (·.1)
 | 0,l,h=>by rw [List.length_eq_zero_iff.mp h];exact λk=>Iff.rfl
 | n+1,l,h=>by
  obtain ⟨r,x,rfl⟩:∃r x,l=r++[x]:=⟨l.dropLast,l.getLast (by intro z;rw [z] at h;cases h),(List.dropLast_concat_getLast _).symm⟩
  have ih:=nZ n r (by rw [List.length_append] at h;exact Nat.succ.inj h)
  intro k
  rw [iP,List.map_append,List.mem_append]
  unfold pV
  split
  ·rename_i hin
   rw [ih]
   refine ⟨.inl,λz=>z.elim id λz=>?_⟩
   rw [show k=x.1 by simpa using z]
   exact (ih x.1).mp hin
  ·rw [List.map_append,List.mem_append,ih]
theorem VSet.at{h h':Heap}{a:Addr}{led:Bool}{vs:List (K×Value)}(S:VSet knd h a led vs)(k:∀o,h.get? a=some o->h'.get? a=some o):VSet knd h' a led vs:=by
 obtain ⟨o,es,ep,t,ho,r⟩:=S
 exact ⟨o,es,ep,t,k o ho,r⟩
def vx(knd:KeyKind prog w K)(items:List (K×Value)):Prop:=∀x∈items,knd.is x.1 x.2=true/\x.2.scannable=true/\plainKind x.2=true
theorem qJ{R:Result->Shared->Prop}{I:Addr}{fp wr:List Addr}{G:Array GenState->Array GenState->Prop}{P:Nat->Value->Prop}{St:Nat->Shared->Prop}{items:List (K×Value)}(W:WalksS prog w A.in1 I fp wr G items.length P St)(S:Addr)(hSf:S∉fp)(led:Bool)
  (hval:∀i v,P i v->∃x,items[i]?=some x/\v=x.2)(hb:items.length<=60)(hc:vx knd items) :
  ∀(k i:Nat) (s:Shared),items.length-i=k->i<=items.length->St i s->VSet knd s.heap S led (jg (items.take i)) ->
   (∀s',Moved (S::wr) G s s'->VSet knd s'.heap S led (jg items)->R (.ok (.ret .none)) s') ->
   codeAny (model prog w) A (.builtin "set.update.loop" (Args.mk [.ref S,.ref I] [])) R s:=by
 have nw:S∉wr:=λh=>hSf (W.sub _ h)
 have up:∀b∈wr,b∈S::wr:=λb hb=>Θ _ hb
 intro k
 induction k with
 | zero =>
  intro i s hk hi hst hS hR
  obtain rfl:i=items.length:=by omega
  refine codeAny_builtin PyProof.Rows.F.entry_set_update_loop ?_
  rw [Around.under_plainId PyProof.Rows.F.plain_set_update_loop _]
  show wpAny _ A.in1 (pyNext (.ref I) >>= λ_=>_) _ _ s
  refine ε (W.done s _ _ hst λs' hm=>?_)
  rw [List.take_length] at hS
  exact π (hR s' (hm.mono up) (hS.at λo e=>hm.heap S _ nw e))
 | succ k ih =>
  intro i s hk hi hst hS hR
  have hlt:i<items.length:=by omega
  refine codeAny_builtin PyProof.Rows.F.entry_set_update_loop ?_
  rw [Around.under_plainId PyProof.Rows.F.plain_set_update_loop _]
  show wpAny _ A.in1 (pyNext (.ref I) >>= λ_=>_) _ _ s
  refine ε (W.item i s _ _ hlt hst λv s' hP hst' hm=>?_)
  obtain ⟨x,hx,rfl⟩:=hval i v hP
  obtain ⟨c1,c2,c3⟩:=hc x (List.mem_of_getElem? hx)
  have hS':VSet knd s'.heap S led (jg (items.take i)):=hS.at λo e=>hm.heap S _ nw e
  show wpAny _ A.in1 (holding [x.2] (setAdd S x.2) >>= λ_=>_) _ _ s'
  refine ε (wpAny_holding ?_)
  unfold setAdd
  refine wpAny_holding (ε (knd.pyHash c1 ?_))
  have ml:=n0 _ (items.take i) rfl
  rw [List.length_take] at ml
  refine se (s:={s' with toks:=s'.toks+1}) hS' c1 c2 c3 ω λb h' hsb hS2=>?_
  have et:items.take (i+1)=items.take i++[x]:=by rw [List.take_add_one,hx];rfl
  have hS3:VSet knd h' S led (jg (items.take (i+1))):=by rw [et,iP];exact hS2
  have kp:∀c o,c≠S->s'.heap.get? c=some o->h'.get? c=some o:=λc o nc e=>(hsb.2 c nc).trans e
  refine π ⟨plainId_quiet PyProof.Rows.F.plain_set_update_loop _,ih (i+1) _ ω hlt (W.frame _ s' _ _ hst' (Nat.le_add_right _ _) λc hc0 o e=>kp c o (λz=>hSf (z▸hc0)) e) hS3 λs'' hm'' hS''=>?_⟩
  exact hR s'' (Moved.trans W.gtrans ((hm.mono up).then_heap (Nat.le_add_right _ _) λc o hc0 e=>kp c o (λz=>hc0 (by rw [z];exact Ω)) e) hm'') hS''
theorem oE{h:Heap}{a:Addr}(P:Params)(e:h.get? a=some (dJ P)):VSet knd h a (!P.followText "set-order") [] :=
 ⟨_,#[],0,_,e,⟨rfl,rfl,rfl⟩,rfl,qW 0 0 _,rfl,rfl,List.Perm.refl _,.nil,λ_ hx=>nomatch hx⟩
set_option maxHeartbeats 3200000 in
theorem kE{l:Addr}{vs:Array Value}{items:List (K×Value)}{Q:Value->Shared->Prop}(hh:A.handled=none)(hl:s.heap.IsList l vs)(hi:vs.toList=items.map λx=>x.2)(hb:items.length<=60)(hc:vx knd items)
  (q:∀(h':Heap) (tk:Nat),VSet knd h' s.heap.objs.size (!w.params.followText "set-order") (jg items)->(∀b o,b<s.heap.objs.size->s.heap.get? b=some o->h'.get? b=some o)->Q (.ref s.heap.objs.size) {s with heap:=h',toks:=tk}) :
  wpAny (model prog w) A (call (.type "set") [.ref l]) Q E s:=by
 obtain ⟨c,tl,hmro⟩:=PySem.F.called_set.mro
 have hmade:=PySem.F.called_set.made
 have hsub:=PySem.F.called_set.sub
 refine wpAny_call (codeAny_of_tree (show wpAny _ _ (callAny (.type "set") _) _ _ _ from ?_))
 refine π ⟨Code.quiet_builtin _ θ,codeAny_builtin PySem.F.entry_type_call ?_⟩
 rw [Around.under_plain (weight_type_call_type "set" [.ref l] []) rfl]
 have h1:=PySem.F.called_set.notType
 have h2:=PySem.F.called_set.canCreate
 have hct:=PySem.F.typeCall_set_1 (.ref l)
 repeat (any_goals (first | assumption | wp_step))
 refine codeAny_mono (vU (.ref l) (E:=E) (Q:=λobj s₁=>obj=.ref s.heap.objs.size/\s₁={s with heap:=s.heap.push (dJ w.params)}) ⟨rfl,rfl⟩) λr s₁ hr=>?_
 cases r with
 | error e=>exact hr
 | ok fl =>
  cases fl with
  | ret obj =>
   obtain ⟨rfl,rfl⟩:=hr
   have eS:(s.heap.push (dJ w.params)).get? s.heap.objs.size=some (dJ w.params):=ψ _ rfl
   have hT:Shared.TypeIs {s with heap:=s.heap.push (dJ w.params)} (.ref s.heap.objs.size) "set":=⟨_,eS,rfl⟩
   have hli:=PySem.F.called_set.init.lookup
   have hbi:=PySem.F.called_set.init.bind (.ref s.heap.objs.size)
   repeat (any_goals (first | assumption | wp_step))
   refine codeAny_mono (codeAny_call_builtin (R:=wants (λr s₂=>r=.none/\∃h' tk,s₂={s with heap:=h',toks:=tk}/\VSet knd h' s.heap.objs.size (!w.params.followText "set-order") (jg items) /\
     (∀b o,b<s.heap.objs.size->s.heap.get? b=some o->h'.get? b=some o)) E) PySem.F.called_set.init.plain PySem.F.entry_set_init (check_set_init_1 hT ?_)) λr₂ s₂ hr₂=>?_
   ·obtain ⟨ol,e0,hcl,nl,hdl⟩:=hl
    obtain ⟨ocls,odict,odata,oslots⟩:=ol
    simp only at hcl hdl
    subst hcl;subst hdl
    have e1:(s.heap.push (dJ w.params)).get? l=some {cls:=.type "list",dict:=odict,data:=.seq vs nl,slots:=oslots}:=ρ _ e0
    have hsls:=PySem.F.sub_list_set
    have hslf:=PySem.F.sub_list_frozenset
    have nd:(Value.type "list"==Value.type "dict")=false:=by decide
    have l1:(s.heap.push (dJ w.params)).IsList l vs:=⟨_,e1,rfl,nl,rfl⟩
    unfold Builtin.«set.__init__» noKeywords Builtin.Frozenset.updateFrom
    generalize hJ:pyIter=J0
    wp_walk
    subst hJ
    refine wpAny_pyIter_list l1 (ε (wpAny_runValue ?_))
    have lS:l<s.heap.objs.size:=η e0
    have h3:A.in1.in1.in1.handled=none:=by simp [hh]
    have eI:(s.heap.push (dJ w.params)).objs.size=s.heap.objs.size+1:=Heap.size_push ..
    have nI:l≠(s.heap.push (dJ w.params)).objs.size:=by rw [eI];exact Φ (Nat.lt_succ_of_lt lS)
    have nS:s.heap.objs.size∉[(s.heap.push (dJ w.params)).objs.size,l]:=by
     rw [eI]
     simp only [List.mem_cons,List.not_mem_nil,or_false,not_or]
     exact ⟨Φ (Nat.lt_succ_self _),Nat.ne_of_gt lS⟩
    have sz:vs.size=items.length:=by rw [← Array.length_toList,hi,List.length_map]
    have W:=(Walks.list (prog:=prog) (w:=w) h3 _ l nI vs).toS
    rw [sz] at W
    refine qJ (knd:=knd) (items:=items) W s.heap.objs.size nS (!w.params.followText "set-order") (λi v hv=>?_) hb hc items.length 0 _ (Nat.sub_zero _) (Nat.zero_le _)
     ⟨⟨_,ψ _ rfl,rfl,rfl⟩,l1.push _⟩ (oE w.params (ρ _ eS)) λs' hm hS'=>?_
    ·have hv':vs.toList[i]?=some v:=by rw [Array.getElem?_toList];exact hv
     rw [hi,List.getElem?_map] at hv'
     obtain ⟨x,ex,rfl⟩:=Option.map_eq_some_iff.mp hv'
     exact ⟨x,ex,rfl⟩
    ·obtain ⟨h',g',d',tk',os'⟩:=s'
     obtain rfl:g'=s.gens:=hm.gens
     obtain rfl:d'=s.drawn:=hm.drawn
     obtain rfl:os'=s.os:=hm.os
     show wpAny _ _ _ _ _ _
     refine π (show wpAny _ _ (ret Value.none) _ _ _ from π ⟨rfl,h',tk',rfl,hS',λb o hb0 e=>?_⟩)
     refine hm.heap b o ?_ (ρ _ (ρ _ e))
     rw [eI]
     simp only [List.mem_cons,List.not_mem_nil,or_false,not_or]
     exact ⟨Φ hb0,Φ (Nat.lt_succ_of_lt hb0)⟩
   ·cases r₂ with
    | error e=>exact hr₂
    | ok fl₂ =>
     cases fl₂ with
     | ret r =>
      obtain ⟨rfl,h',tk,rfl,hS',hk'⟩:=hr₂
      repeat (any_goals (first | assumption | wp_step))
      exact q _ _ hS' hk'
     | _=>exact hr₂.elim
  | _=>exact hr.elim
end
end Tb
namespace L2
open PySem PySem.Spec PyProof.Rows PySem.W Tb
section
variable {X:Cx}{pins:List (Addr×Obj)}{σ:St}{H:Hp}{s:Shared}
def xJ(ns ns':List Int):Prop:=ns'.Perm ns/\ns'.Pairwise (·<=·)
theorem lT{vs:List Value}{ns:List Int}{Q:VK}{E:Value->Shared->Prop}(I:Inv X pins σ H s)(hI:IntsAre vs ns)(h64:vs.length<64)
  (q:∀l ns',H l=none->xJ ns ns'->Q (.ref l) (upd H l (.lst (ns'.map V.int)))) :
  wpAny (model X.prog X.w) X.A.in1 (newList vs >>= λl=>holding [l] (call (.builtin "list.sort") [l] []) >>= λ_=>ret l) (λfin s'=>∃v,fin=.done (.ret v)/\EP X pins σ Q v s') E s:=by
 have zl:vs.length<=sizeLine:=by rw [sizeLine_eq];omega
 refine ε (wpAny_newList ?_ zl)
 have oL:(s.heap.push (seqObj "list" vs.toArray 0)).get? s.heap.objs.size=some (seqObj "list" vs.toArray 0):=ψ _ rfl
 have hnone:H s.heap.objs.size=none:=I.hok.fresh (ι _)
 refine ε (wpAny_holding (wpAny_call_entry slot_list_sort ⟨_,oL,rfl⟩ entry_list_sort (list_sort_tree (s:={s with heap:=s.heap.push (seqObj "list" vs.toArray 0)}) oL hI h64 λout ns' a1 a2 a3=>⟨_,rfl,?_⟩) (args_list_sort _)))
 refine π ⟨_,rfl,?_⟩
 obtain ⟨e,he⟩:=sortedHeap_at (out:=out) oL
 have lv:vs.length=ns.length:=by have:=(gk hI).length;rw [List.length_map] at this;exact this.symm
 refine ⟨.ref s.heap.objs.size,_,I.laid (a:=s.heap.objs.size) (o:=.lst (ns'.map V.int)) (t':=s.toks) (λb o eb=>?_) (ι _) ?_,rfl,q _ ns' hnone ⟨a2,a3⟩⟩
 ·have lt:=η eb
  rw [sortedHeap_old (Φ lt) (by rw [Heap.size_push];exact Nat.lt_succ_of_lt lt)]
  exact ρ _ eb
 ·exact ⟨by rw [List.length_map,a2.length_eq,sizeLine_eq];omega,out.toList,e,gk a1,he⟩
end
def Fq(a:Addr)(o:Obj):HO:=.ext λh=>h.get? a=some o
def AA(P:Program)(w:World)(o:Obj)(xs:List (Int×Value)):Prop :=
 ∃es ep t,o.ExactSet/\o.data=.set es ep t/\SOk t es.toList/\t.led=!w.params.followText "set-order"/\t.plain=true/\es.toList.Perm (xs.map λx=>((intKind P w).hash x.1,x.2))/\(xs.map (·.1)).Nodup/\∀x∈xs,∃t,x.2=Value.int x.1 t
section
variable {X:Cx}
theorem rW(hc:X.calm=true):dY X (.type "set") (λxs H Q=>∃(p:Addr) (ns:List Int),xs=[.ref p]/\SqL X.K H p (ns.map V.int)/\ns.length<=60 /\
  ∀a o ys,H a=none->AA X.prog X.w o ys->(∀n,n∈ys.map (·.1)↔n∈ns)->Q (.ref a) (upd H a (Fq a o))):=by
 intro pins s σ H xs us Q I r h
 obtain ⟨p,ns,rfl,hq,h60,q⟩:=h
 obtain ⟨u,rfl,rx⟩:=cR r
 cases (show u=Value.ref p from rx)
 obtain ⟨its,rv,pl,hz⟩:=I.list hq
 obtain ⟨items,ei,en,hi⟩:∃items:List (Int×Value),its=items.map (·.2)/\ns=items.map (·.1)/\∀x∈items,∃t,x.2=Value.int x.1 t:=by
  clear pl hz hq q h60 r
  induction ns generalizing its with
  | nil=>cases rv;exact ⟨[],rfl,rfl,λx hx=>nomatch hx⟩
  | cons n ns ih =>
   cases rv with
   | cons r1 r2 =>
    obtain ⟨t,rfl⟩:=r1
    obtain ⟨items,e1,e2,h3⟩:=ih _ r2
    exact ⟨(n,.int n t)::items,by rw [e1];rfl,by rw [e2];rfl,λx hx=>(List.mem_cons.mp hx).elim (λz=>⟨t,by rw [z]⟩) (h3 x)⟩
 have hcm:vx (intKind X.prog X.w) items:=λx hx=>by
  obtain ⟨t,e⟩:=hi x hx
  rw [e]
  exact ⟨intKind_is _ _ _ _,rfl,rfl⟩
 refine kE (knd:=intKind X.prog X.w) (items:=items) (I.ok.hd hc) pl.isList ei (by rw [en,List.length_map] at h60;exact h60) hcm λh' tk hS hk=>?_
 obtain ⟨o,es,ep,t,ho,hex,hd,hk1,hl,hp,h1,h2,h3⟩:=hS
 have hn:H s.heap.objs.size=none:=I.hok.fresh (ι _)
 refine ⟨.ref s.heap.objs.size,_,I.laid (a:=s.heap.objs.size) (o:=Fq s.heap.objs.size o) (t':=tk) (λb ob e=>hk b ob (η e) e) (ι _) ⟨ho,⟨_,ho⟩,λg1 g2 p k=>k _ p⟩,rfl,q _ o (jg items) hn ⟨es,ep,t,hex,hd,hk1,hl,hp,h1,h2,λx hx=>?_⟩ λn=>?_⟩
 ·exact Value.isInt_shape (h3 x hx).1
 ·rw [en]
  exact nZ _ items rfl n
theorem nF{α β:Type}(f:α->β):∀{xs:List α} {l:List β},l.Perm (xs.map f)->∃ys:List α,ys.Perm xs/\l=ys.map f
 | [],l,h=>⟨[],List.Perm.refl _,List.Perm.eq_nil h⟩
 | x::xs,l,h=>by
  have hm:f x∈l:=h.symm.mem_iff.mp Ω
  obtain ⟨s,t,rfl⟩:=List.append_of_mem hm
  have h2:(s++t).Perm (xs.map f):=List.Perm.cons_inv (List.perm_middle.symm.trans h)
  obtain ⟨ys,p,e⟩:=nF f h2
  have e1:(ys.take s.length).map f=s:=by rw [List.map_take,← e,List.take_left]
  have e2:(ys.drop s.length).map f=t:=by rw [List.map_drop,← e,List.drop_left]
  refine ⟨ys.take s.length++x::ys.drop s.length,?_,by rw [List.map_append,List.map_cons,e1,e2]⟩
  refine List.perm_middle.trans (List.Perm.cons x ?_)
  rw [List.take_append_drop]
  exact p
theorem kD(hc:X.calm=true):dY X (.builtin "sorted") (λxs H Q=>∃a o items,xs=[.ref a]/\H a=some (Fq a o)/\AA X.prog X.w o items/\items.length<64/\∀l ns',H l=none->xJ (items.map (·.1)) ns'->Q (.ref l) (upd H l (.lst (ns'.map V.int)))):=by
 intro pins s σ H xs us Q I r h
 obtain ⟨a,o,items,rfl,ha,⟨es,ep,t,hex,hd,hk,hl,hp,pm,ndp,hv⟩,h64,q⟩:=h
 obtain ⟨u,rfl,rx⟩:=cR r
 cases (show u=Value.ref a from rx)
 obtain ⟨ho,_⟩:=(show ObjOk X.prog X.w H s.heap a (Fq a o) from I.hok a _ ha)
 have hsz:es.size=items.length:=by have:=pm.length_eq;rw [Array.length_toList,List.length_map] at this;exact this
 refine Calls.call_function_entry kind_sorted plain_sorted entry_sorted (args_sorted1 _) ?_
 unfold Builtin.«sorted»
 refine ε (m:=checkCount "sorted" 1 1 _) (π (ε (nt (A:=X.A.in1) (I.ok.hd hc) ⟨⟨o,ho,hex,hd⟩,hk,hl,hp⟩ (by rw [hsz,sizeLine_eq];omega) λh' tk k'=>?_)))
 obtain ⟨ys,p1,e1⟩:=nF (λx:Int×Value=>((intKind X.prog X.w).hash x.1,x.2)) ((kL X.w.params a ep es).trans pm)
 have e2:(dv X.w.params a ep es).toList.map (·.2)=ys.map (·.2):=by rw [e1,List.map_map];rfl
 rw [e2]
 have rv:Vals ((ys.map (·.1)).map V.int) (ys.map (·.2)):=by
  have hy:∀x∈ys,∃t,x.2=Value.int x.1 t:=λx hx=>hv x (p1.mem_iff.mp hx)
  clear e1 e2 p1
  induction ys with
  | nil=>exact .nil
  | cons y r ih=>exact .cons (hy y Ω) (ih λx hx=>hy x (Θ _ hx))
 refine lT (I.kept (t':=tk) k') (pL rv) (by rw [List.length_map,p1.length_eq];exact h64) λl ns' hl2 hs=>q l ns' hl2 ⟨hs.1.trans (p1.map _),hs.2⟩
end
end L2
namespace St
open PySem PySem.Spec PyProof.Rows L2 Lo Km PySem.NumText
def tEx{ι:Type}(t:ι->TE):TE:=fun σ H Q=>∃i,t i σ H Q
theorem i5{X:Cx}{e:Expr}{ι:Type}{t:ι->TE}(h:∀i,PE X e (t i)):PE X e (tEx t):=λpins s σ H Q I q=>by
 obtain ⟨i,q⟩:=q
 exact h i pins s σ H Q I q
abbrev Stp:=Wd×List Int
def StsP(CW:Wd->Addr)(H:Hp)(xs:List Stp)(us:List V):Prop:=Paired (λ(x:Stp) v=>StO CW H x.1 x.2 v) xs us
theorem StsP.keep{CW:Wd->Addr}{H H':Hp}{xs:List Stp}{us:List V}(e:Same H H')(h:StsP CW H xs us):StsP CW H' xs us:=Paired.mapP h λ_ _ z=>z.keep e
def ArS(xs:List Stp):Prop:=∀x∈xs,Ar x.1 x.2
def sx(x:Stp):Str:=txt x.1 x.2
def pf(m:Str)(sl tp:Addr):List (Str×V):=ao "parts" (.ref tp) (ao "steps" (.ref sl) (ao "manner" (.str m) []))
theorem tR(m:Str)(sl tp:Addr):(pf m sl tp).lookup ("parts":Str)=some (.ref tp):=bQ
structure PaU(CP:Addr)(CW:Wd->Addr)(H:Hp)(m:Str)(xs:List Stp)(a dx sl tp:Addr)(us:List V):Prop where
 ins:H a=some (.ins CP dx (pf m sl tp))
 sl:H sl=some (.lst us)
 tp:H tp=some (.tup us)
 st:StsP CW H xs us
theorem PaU.keep{CP:Addr}{CW:Wd->Addr}{H H':Hp}{m:Str}{xs:List Stp}{a dx sl tp:Addr}{us:List V}(e:Same H H')(h:PaU CP CW H m xs a dx sl tp us):PaU CP CW H' m xs a dx sl tp us:=⟨e _ _ h.ins,e _ _ h.sl,e _ _ h.tp,h.st.keep e⟩
def PaO(CP:Addr)(CW:Wd->Addr)(H:Hp)(m:Str)(xs:List Stp)(v:V):Prop:=∃a dx sl tp us,v=.ref a/\PaU CP CW H m xs a dx sl tp us
structure TxP(K:Frag)(CP:Addr):Prop where
 cl:Cls K CP
 nm:NoAttr K CP "manner"
 ns:NoAttr K CP "steps"
 np:NoAttr K CP "parts"
def ptx(m:Str)(xs:List Stp):Str:=m++Str.ofString " "++Str.join (Str.ofString "; ") (xs.map sx)
theorem qK{x:Stp}(h:Ar x.1 x.2):(sx x).length<=1000:=by
 obtain ⟨wd,ns⟩:=x
 have e2:(txt wd ns).cps.toList=cm 32 ((wS wd::ns.map iS).map λy=>y.cps.toList):=by
  unfold txt
  rw [fy]
  exact ck 32 _
 have e3:(txt wd ns).length=(txt wd ns).cps.toList.length:=by simp [Str.length]
 have h1:=iV 32 ((wS wd::ns.map iS).map λy=>y.cps.toList)
 have h2:=iA (w:=wd) (ns:=ns) h
 have e4:((wS wd::ns.map iS).map λy=>y.cps.toList).map (·.length)=(wS wd::ns.map iS).map (·.length):=by
  rw [List.map_map]
  refine List.map_congr_left λy _=>?_
  simp [Str.length]
 have e5:(Str.ofString " ").length=1:=by decide +kernel
 rw [e4,List.length_map] at h1
 rw [e5,Nat.mul_one] at h2
 show (txt wd ns).length<=1000
 rw [e3,e2]
 omega
theorem n9(y:Str):∀ys:List Str,(Str.join y ys).length<=(ys.map (·.length)).sum+ys.length*y.length
 | []=>Nat.zero_le _
 | [x]=>by simp [Str.join]
 | a::u::ys=>by
  have ih:=n9 y (u::ys)
  rw [join_cons_cons]
  have e:(a++y++Str.join y (u::ys)).length=a.length+y.length+(Str.join y (u::ys)).length:=by
   show ((a.cps++y.cps)++(Str.join y (u::ys)).cps).size=_
   rw [Array.size_append,Array.size_append]
   rfl
  rw [e,List.map_cons,List.sum_cons,List.length_cons (a:=a),Nat.succ_mul]
  omega
theorem AN:Str.ofString "; "=⟨#[59,32]⟩:=by decide +kernel
theorem sw{xs:List Stp}(h:ArS xs):((xs.map sx).map (·.length)).sum<=xs.length*1000:=by
 have:=sy (ys:=xs.map sx) (k:=1000) λy hy=>by
  obtain ⟨x,hx,rfl⟩:=List.mem_map.mp hy
  exact qK (h x hx)
 rw [List.length_map] at this
 exact this
theorem jX{xs:List Stp}(h:ArS xs)(hl:xs.length<=20):(Str.join (Str.ofString "; ") (xs.map sx)).length<=30000:=by
 have h1:=n9 (Str.ofString "; ") (xs.map sx)
 have h2:=sw h
 have e:(Str.ofString "; ").length=2:=by decide +kernel
 rw [e,List.length_map] at h1
 omega
theorem zP(x:Stp):59∉(sx x).cps.toList:=by
 obtain ⟨wd,ns⟩:=x
 have e2:(txt wd ns).cps.toList=cm 32 ((wS wd::ns.map iS).map λy=>y.cps.toList):=by
  unfold txt
  rw [fy]
  exact ck 32 _
 show 59∉(txt wd ns).cps.toList
 rw [e2]
 have key:∀ls:List (List Nat),(∀l∈ls,59∉l)->59∉cm 32 ls:=by
  intro ls
  induction ls with
  | nil=>intro _ h;cases h
  | cons a r ih =>
   intro h hm
   cases r with
   | nil=>exact h a Ω hm
   | cons b r =>
    rcases List.mem_append.mp (show 59∈a++32::cm 32 (b::r) from hm) with z | z
    ·exact h a Ω z
    ·rcases List.mem_cons.mp z with z | z
     ·cases z
     ·exact ih (λl hl=>h l (Θ _ hl)) z
 refine key _ λl hl=>?_
 obtain ⟨y,hy,rfl⟩:=List.mem_map.mp hl
 rcases List.mem_cons.mp hy with rfl | hy
 ·cases wd<;>decide +kernel
 ·obtain ⟨i,_,rfl⟩:=List.mem_map.mp hy
  rw [og]
  intro z
  rcases uI z with z | z<;>omega
theorem qV{xs:List Stp}(h0:xs≠[]):Txt.split (Str.join (Str.ofString "; ") (xs.map sx)) (Str.ofString "; ")=xs.map sx:=by
 rw [AN]
 rw [qU (c:=59) (d:=32) (ps:=(xs.map sx).map λy=>y.cps.toList) ζ ζ ζ (gg 59 32 _) (by simp [h0]) λp hp=>by
  obtain ⟨y,hy,rfl⟩:=List.mem_map.mp hp
  obtain ⟨x,_,rfl⟩:=List.mem_map.mp hy
  exact zP x]
 rw [List.map_map]
 have e3:((λp:List Nat=>(⟨p.toArray⟩:Str))∘λy:Str=>y.cps.toList)=id:=by
  funext y
  obtain ⟨a⟩:=y
  simp
 rw [e3,List.map_id]
def mS(b:Bool):Str:=if b then "walked" else "held"
theorem Ag(b:Bool):32∉(mS b).cps.toList:=by cases b<;>decide +kernel
theorem yS(b:Bool):(mS b).length<=6:=by cases b<;>decide +kernel
theorem t7(b:Bool)(xs:List Stp):Txt.partition (ptx (mS b) xs) (Str.ofString " ")=(mS b,Str.ofString " ",Str.join (Str.ofString "; ") (xs.map sx)):=by
 rw [fy]
 have e:(ptx (mS b) xs).cps.toList=(mS b).cps.toList++32::(Str.join (Str.ofString "; ") (xs.map sx)).cps.toList:=by
  unfold ptx
  rw [fy]
  show (((mS b).cps++#[32])++(Str.join (Str.ofString "; ") (xs.map sx)).cps).toList=_
  rw [Array.toList_append,Array.toList_append]
  simp
 rw [wm e (Ag b)]
section
variable (CP:Addr)(CW:Wd->Addr)
def p6:Sp:=λvs H Q _=>∃l dx m q us,vs=[.ref l,.str m,.ref q]/\H l=some (.ins CP dx [])/\H q=some (.lst us)/\∀sl tp H',H' l=some (.ins CP dx (pf m sl tp))->H' sl=some (.lst us)->H' tp=some (.tup us)->H sl=none->H tp=none->Kp l H H'->Q .non H'
def lK:Sp:=λvs H Q _=>∃x k,vs=[.str (sx x),.int k]/\Ar x.1 x.2/\∀v H',Same H H'->StO CW H' x.1 x.2 v->Q v H'
def lL:Sp:=λvs H Q _=>∃b xs,vs=[.str (ptx (mS b) xs)]/\ArS xs/\xs≠[]/\xs.length<=12/\∀a dx sl tp us H',Same H H'->H sl=none->PaU CP CW H' (mS b) xs a dx sl tp us->Q (.ref a) H'
def hvI:V->Option Int
 | .int i=>some i
 | _=>none
def iW(xs:List Stp):List Int:=xs.filterMap λx=>hvI (aK x.1 x.2)
def zx(xs:List Stp)(ns:List Int):Prop:=ns.Nodup/\ns.Pairwise (·<=·)/\∀n,n∈ns↔n∈iW xs
def jD:Sp:=λvs H Q _=>∃v b xs,vs=[v]/\PaO CP CW H (mS b) xs v/\ArS xs/\xs.length<=20/\∀t ns H',Same H H'->H' t=some (.tup (ns.map V.int))->zx xs ns->Q (.ref t) H'
def aD(xs:List Stp):Nat:=xs.findIdx λx=>decide (x.1=.give)
def oN:Sp:=λvs H Q _=>∃v b xs,vs=[v]/\PaO CP CW H (mS b) xs v/\xs.length<=20/\Q (.int (aD xs:Nat)) H
end
end St
namespace L2
open PySem
abbrev mK:=(Int×Int)×Int
variable {prog:Program}{w:World}{A:Around}{E:Value->Shared->Prop}{s:Shared}
def uM(k:mK):Int:=reduceHash (Builtin.Tuple.tupleHashOf [reduceHash (Builtin.Tuple.tupleHashOf [hashInt k.1.1,hashInt k.1.2]),hashInt k.2])
end L2
namespace L2
open PySem PySem.Spec PyProof.Rows
def Ite(K:Frag)(a:Addr):It :=
 ⟨λi H=>∃xs x,SqL K H a xs/\xs[i]?=some x,λi H x H'=>∃t y,x=.ref t/\H t=none/\H'=upd H t (.tup [.int (i:Nat),y])/\∀xs,SqL K H a xs->xs[i]?=some y,λi H=>∃xs,SqL K H a xs/\xs.length<=i⟩
theorem qO{P:Program}{w:World}{K:Frag}{elts:List Expr}{kk:Nat}{pos:Pos}(a it en:Addr)(hei:en≠it) :
  rX P w K (.Tuple elts kk pos) (Ite K a) [en,it] en (λi h=>(∃old,IsEnum h en it (i:Nat) old)/\h.IsListIter it a i) where
 mem:=by simp
 obj:=λi h st b hb=>by
  obtain ⟨⟨old,e1⟩,o,e2,c,d⟩:=st
  rcases List.mem_cons.mp hb with z | hb
  ·subst z
   exact ⟨_,e1,λv z=>by have z':Data.fields _=Data.cell v:=z;cases z'⟩
  ·have z:b=it:=by simpa using hb
   subst z
   exact ⟨o,e2,λv z=>by rw [d] at z;cases z⟩
 keep:=λi h h' st k=>by
  obtain ⟨⟨old,e1⟩,e2⟩:=st
  exact ⟨⟨old,k en (by simp) _ e1⟩,e2.at λo e=>k it (by simp) o e⟩
 item:=by
  intro X hP hw hK hc i pins s σ H E I hf st hg
  subst hP hw hK
  obtain ⟨⟨old,he⟩,hit⟩:=st
  obtain ⟨xs,x,hq,hx⟩:=hg
  obtain ⟨its,rv,p,hz⟩:=I.list hq
  obtain ⟨u,hu,ru⟩:=rv.get hx
  obtain ⟨f0,f1,f2,f3,f4,f5⟩:=hf en (by simp)
  obtain ⟨g0,g1,g2,g3,g4,g5⟩:=hf it (by simp)
  refine wpAny_pyNext_enum_item he hit p.isList (x:=u) (by simpa using hu) hei λh1 ho hit1 hT hsz hk=>⟨_,rfl,?_⟩
  refine wpAny_letOwnedTupleGo_enum ho λh2 he2 hs2=>?_
  have hn:H s.heap.objs.size=none:=I.hok.fresh (ι _)
  have helt:en<s.heap.objs.size:=η he
  have hilt:it<s.heap.objs.size:=by obtain ⟨_,z,_⟩:=id hit;exact η z
  have kp:∀b o,b≠en->b≠it->s.heap.get? b=some o->h2.get? b=some o:=λb o n1 n2 e=>(hs2.2 b n1).trans (hk b o n1 n2 e)
  have hT2:h2.get? s.heap.objs.size=some {cls:=.type "tuple",data:=.seq #[.int (i:Nat) s.toks,u]}:=(hs2.2 _ (Nat.ne_of_gt helt)).trans hT
  have nb:∀b o,H b=some o->b≠en/\b≠it:=λb o e=>⟨(λz=>by rw [z,f0] at e;cases e),(λz=>by rw [z,g0] at e;cases e)⟩
  refine ⟨.ref s.heap.objs.size,upd H s.heap.objs.size (.tup [.int (i:Nat),x]),?_,rfl,⟨_,x,rfl,hn,rfl,λys hy=>by rw [I.list_inj hy hq];exact hx⟩,⟨⟨_,by simpa using he2⟩,hit1.at λo e=>(hs2.2 it (Ne.symm hei)).trans e⟩,λb hb=>?_⟩
  ·show Inv X pins σ (upd H s.heap.objs.size (.tup [.int (i:Nat),x])) {s with heap:=h2,gens:=s.gens,drawn:=s.drawn,toks:=s.toks+1}
   refine I.step (h':=h2) (g':=s.gens) (d':=s.drawn) (t':=s.toks+1) (ch:=[en,it]) (λb hb=>?_) (λb o _ _ hc e _=>?_) (λb o _ _ hc e _=>⟨o.slots,?_⟩) (λb o hc e n=>?_)
    (λb o hc e=>⟨o,?_⟩) (λb ys e=>?_) (λb o v e=>?_) (λb ps e=>⟨#[],?_⟩) (λm hm=>?_) (λb v e=>?_) I.bare
   ·rcases List.mem_cons.mp hb with z | hb
    ·subst z;exact ⟨f3,f1,f4,f5⟩
    ·have z:b=it:=by simpa using hb
     subst z;exact ⟨g3,g1,g4,g5⟩
   ·exact kp b o (λz=>hc (by simp [z])) (λz=>hc (by simp [z])) e
   ·exact kp b o (λz=>hc (by simp [z])) (λz=>hc (by simp [z])) e
   ·rw [aw (Φ (η e))];exact n
   ·exact kp b o (λz=>hc (by simp [z])) (λz=>hc (by simp [z])) e
   ·rw [aw (ah e hn)];exact e
   ·rw [aw (ah e hn)];exact e
   ·rw [aw (ah e hn),e];simp
   ·obtain ⟨o,es,ep,ho',r⟩:=hm
    exact ⟨o,es,ep,kp _ o (Ne.symm f1) (Ne.symm g1) ho',r⟩
   ·by_cases hb:b=s.heap.objs.size
    ·subst hb
     rw [ae] at e
     cases e
     exact ⟨by show 2<=sizeLine;decide,[.int (i:Nat) s.toks,u],.cons ⟨_,rfl⟩ (.cons ru .nil),_,hT2,rfl,_,rfl⟩
    ·rw [aw hb] at e
     refine (I.hok b v e).stay (λc o hc q=>?_) (λc q=>?_) λc ys q=>?_
     ·rcases hc with z | z
      ·subst z;exact kp _ o (nb _ _ e).1 (nb _ _ e).2 q
      ·exact kp _ o (nb _ _ z).1 (nb _ _ z).2 q
     ·rw [aw (ah q hn)];exact q
     ·rw [aw (ah q hn)];exact q
  ·have hb':b<s.heap.objs.size:=by
    rcases List.mem_cons.mp hb with z | hb
    ·rw [z];exact helt
    ·have z:b=it:=by simpa using hb
     rw [z];exact hilt
   rw [aw (Φ hb')]
   exact (hf b hb).1
 done:=by
  intro X hP hw hK hc i pins s σ H E I hf st hg
  subst hP hw hK
  obtain ⟨⟨old,he⟩,hit⟩:=st
  obtain ⟨xs,hq,hx⟩:=hg
  obtain ⟨its,rv,p,hz⟩:=I.list hq
  obtain ⟨f0,f1,f2,f3,f4,f5⟩:=hf it (by simp)
  have hl:=rv.length
  exact wpAny_pyNext_enum_end (I.ok.hd hc) he hit p.isList (by simp;omega) λh' eb=>⟨rfl,I.turned (t':=s.toks) (λb o hb e=>eb b o hb e) f0 f1 f3 f4 f5⟩
 self:=λ_ _ _ _ _ st h=>by
  obtain ⟨⟨old,he⟩,_⟩:=st
  exact wpAny_pyIter_enum he h
def An(K:Frag)(ta:TA):TI:=fun σ H R=>ta σ H λvs H1=>∃a,vs=[.ref a]/\(∃xs,SqL K H1 a xs)/\R (Ite K a) H1
theorem wj{X:Cx}{elts:List Expr}{kk:Nat}{tpos:Pos}{a:Expr}{ta:TA}{p pos:Pos}(hg:Gl X "enumerate")(hm:X.mg "enumerate"=none)(ha:PA X [a] ta)(hs:starEach [a] X.env=[(false,eval a X.env)]:=by rfl) :
  PI X (.Tuple elts kk tpos) (.Call (.Name "enumerate" p) [a] [] pos) (An X.K ta):=by
 intro pins s σ H R I h
 refine Call_ (gZ I hg hm boot_enumerate (PyProof.Rows.callWith_type1 (thn (ha pos pins s σ H _ I h) λus s1 ⟨vs,H1,I1,r1,q1⟩=>?_) hs rfl))
 obtain ⟨l,e,⟨xs,hq⟩,q⟩:=q1
 subst e
 obtain ⟨u,rfl,ru⟩:=cR r1
 cases (show u=Value.ref l from ru)
 obtain ⟨its,rv,pl,hz⟩:=I1.list hq
 refine call_enumerate_list pl.isList λh' he hit hz' hk=>wpAny_pyIter_enum he ?_
 refine ⟨s1.heap.objs.size+1,[s1.heap.objs.size+1,s1.heap.objs.size],_,Ite X.K l,H1,rfl,I1.kept (t':=s1.toks) hk,qO l _ _ (Nat.succ_ne_self _),⟨⟨_,he⟩,hit⟩,λb hb=>?_,q⟩
 have hb':s1.heap.objs.size<=b:=by
  rcases List.mem_cons.mp hb with z | hb
  ·rw [z];exact Nat.le_succ _
  ·have z:b=s1.heap.objs.size:=by simpa using hb
   rw [z];exact ι _
 exact I1.fpOk hb' (I1.hok.fresh hb')
theorem vc{K:Frag}{a:Addr}{xs:List V}{g:TG}{tb:TS}{D:Ends}{σ:St}{H:Hp}(Pv:Nat->St->Hp->Prop)(h0:Pv 0 σ H)(hl:∀i σ H,i<=xs.length->Pv i σ H->SqL K H a xs)
  (hs:∀i x t σ H,xs[i]?=some x->Pv i σ H->H t=none->g (.ref t) σ (upd H t (.tup [.int (i:Nat),x])) fun σ2 H2=>tb {D with nx:=Pv (i+1),ct:=Pv (i+1),bk:=D.nx} σ2 H2)(hd:∀σ H,Pv xs.length σ H->D.nx σ H) :
  ∃W:Nat->Nat->St->Hp->Prop,(∃m,W 0 m σ H)/\∀i m σ H,W i m σ H ->
   ((Ite K a).stop i H/\D.nx σ H)\/((Ite K a).go i H/\∃N:St->Hp->Prop,(∀σ' H',N σ' H'->∃m',m'<m/\W (i+1) m' σ' H')/\∀x H',(Ite K a).yld i H x H'->g x σ H' fun σ2 H2=>tb {D with nx:=N,ct:=N,bk:=D.nx} σ2 H2):=by
 refine ⟨λi m σ H=>m=xs.length-i/\i<=xs.length/\Pv i σ H,⟨xs.length,by simp,Nat.zero_le _,h0⟩,?_⟩
 rintro i m σ H ⟨rfl,hi,p⟩
 have q:=hl i σ H hi p
 by_cases hlt:i<xs.length
 ·refine .inr ⟨⟨xs,xs[i],q,by simp [hlt]⟩,Pv (i+1),fun σ' H' p'=>⟨xs.length-(i+1),ω,rfl,hlt,p'⟩,λx H' y=>?_⟩
  obtain ⟨t,z,e1,e2,e3,y⟩:=y
  subst e1 e3
  exact hs i z t σ _ (y xs q) p e2
 ·have e:i=xs.length:=by omega
  subst e
  exact .inl ⟨⟨xs,q,ι _⟩,hd σ H p⟩
def NKeyAt(H:Hp)(k:mK)(b:Addr):Prop:=∃c,H b=some (.tup [.ref c,.int k.2])/\H c=some (.tup [.int k.1.1,.int k.1.2])
theorem NKeyAt.keep{H H':Hp}{k:mK}{b:Addr}(e:bh H H')(h:NKeyAt H k b):NKeyAt H' k b:=by
 obtain ⟨c,h1,h2⟩:=h
 exact ⟨c,e _ _ h1,e _ _ h2⟩
abbrev ji:=mK×Addr×Addr
def AV(xs:List ji):List (mK×Addr×Value):=xs.map λx=>(x.1,x.2.1,Value.ref x.2.2)
def yQ(a:Addr)(xs:List ji)(h:Heap):Prop:=(a==sysModules)=false/\∃o es ep,h.get? a=some o/\o.ExactDict/\o.data=.dict es ep/\es.toList=(AV xs).map λx=>⟨uM x.1,.ref x.2.1,x.2.2⟩
def NDt(a:Addr)(xs:List ji):HO:=.ext (yQ a xs)
def NOk(H:Hp)(xs:List ji):Prop:=(∀x∈xs,NKeyAt H x.1 x.2.1)/\(xs.map (·.1)).Nodup
theorem NOk.keep{H H':Hp}{xs:List ji}(e:bh H H')(h:NOk H xs):NOk H' xs:=⟨λx hx=>(h.1 x hx).keep e,h.2⟩
def AW(xs:List ji)(k:mK):Option Addr:=(xs.find? λx=>decide (x.1=k)).map (·.2.2)
def uK(xs:List ji)(k:mK)(b r:Addr):List ji:=if (AW xs k).isSome=true then xs.map (λx=>if x.1=k then (x.1,x.2.1,r) else x) else xs++[(k,b,r)]
theorem uJ(xs:List ji)(k:mK)(b r:Addr):(uK xs k b r).length<=xs.length+1:=by
 unfold uK
 split
 ·rw [List.length_map];omega
 ·rw [List.length_append];exact ι _
section
variable {X:Cx}{pins:List (Addr×Obj)}{σ:St}{H:Hp}{s:Shared}{a b r:Addr}{xs:List ji}{k:mK}{A:Around}{E:Value->Shared->Prop}
theorem wO{a:Addr}{xs:List ji}:∀h1 h2:Heap,yQ a xs h1->(∀o,h1.get? a=some o->h2.get? a=some o)->yQ a xs h2:=λh1 h2 q k=>by
 obtain ⟨h0,o,es,ep,e,r⟩:=q
 exact ⟨h0,o,es,ep,k _ e,r⟩
end
def xW:TE:=λ_ H Q=>∀p,H p=none->Q (.ref p) (upd H p (NDt p []))
section
variable {X:Cx}{o e f i value:Expr}{apos cpos pos pos':Pos}{td ty tx tv:TE}
theorem tX:PE X (.Dict [] [] pos) xW:=λpins s σ H Q I h =>
 wpAny_Dict_empty ⟨.ref s.heap.objs.size,_,I.laid (a:=s.heap.objs.size) (o:=NDt s.heap.objs.size []) (t':=s.toks) (λ_ _ q=>ρ _ q) (ι _)
  ⟨⟨beq_eq_false_iff_ne.mpr (Ne.symm (Φ I.big)),_,#[],0,ψ _ rfl,⟨rfl,rfl,rfl⟩,rfl,rfl⟩,⟨_,ψ _ rfl⟩,wO⟩,rfl,h _ (I.hok.fresh (ι _))⟩
end
section
variable {X:Cx}
theorem fR(hu:X.A.units<cLine):OpR X (compareOp .NotEq) (λx y H Q=>∃a b us,x=.ref a/\y=.ref b/\SqL X.K H a us/\SqL X.K H b []/\Q (.bl (!decide (us=[]))) H):=by
 intro pins s σ H x y v u Q I rx ry h
 obtain ⟨a,b,us,rfl,rfl,ha,hb,q⟩:=h
 cases rx
 cases ry
 obtain ⟨i1,v1,p1,_⟩:=I.list ha
 obtain ⟨i2,v2,p2,_⟩:=I.list hb
 cases v2
 have l1:=v1.length
 by_cases e:us=[]
 ·subst e
  cases v1
  have z:=SeqAt.RcNeAt.lists (A:=X.A) (s:=s) (e:=λ_=>true) p1.isList p2.isList rfl hu (λj h1 h2=>by cases h1)
  rw [τ rfl] at q
  exact z X.prog X.w X.xe _ ⟨.bl false,H,I,rfl,q⟩
 ·have hsz:(i1.toArray.size != ([]:List Value).toArray.size)=true:=by
   have:i1.length≠0:=λz=>e (List.length_eq_zero_iff.mp (by rw [l1];exact z))
   simpa using this
  rw [Γ e] at q
  exact SeqAt.RcNeAt.lists_lengths p1.isList p2.isList hsz hu X.prog X.w X.xe _ ⟨.bl true,H,I,rfl,q⟩
end
end L2
namespace Lo
open PySem L2
def ChAt(K:Frag)(H:Hp)(ch:List Pa)(v:V):Prop:=∃d us,v=.ref d/\SqU K H d us/\Paired (cPa.rp K H) ch us
theorem ChAt.keep{K:Frag}{H H':Hp}{ch:List Pa}{v:V}(e:bh H H')(h:ChAt K H ch v):ChAt K H' ch v:=by
 obtain ⟨d,us,rfl,h1,h2⟩:=h
 exact ⟨d,us,rfl,h1.keep e,pp h2 λ_ _ z=>cPa.keep e z⟩
inductive Rw where
 | beg (p:Pa) (t:Str) | work (p:Pa) | ready (p:Pa) (ch:List Pa) | fin (p:Pa) (o:Str) | over (p:Pa)
 | walk (p:Pa) (i:Int) (ch:List Pa) | undo (p:Pa) (i:Int) (ch:List Pa) | void (p:Pa) (i:Int)
def Rw.nm:Rw->Pa
 | .beg p _=>p
 | .work p=>p
 | .ready p _=>p
 | .fin p _=>p
 | .over p=>p
 | .walk p _ _=>p
 | .undo p _ _=>p
 | .void p _=>p
def Rw.wd:Rw->Str
 | .beg _ _=>"begin"
 | .work _=>"work"
 | .ready _ _=>"ready"
 | .fin _ _=>"end"
 | .over _=>"over"
 | .walk _ _ _=>"walked"
 | .undo _ _ _=>"undone"
 | .void _ _=>"void"
def Rw.more(K:Frag)(H:Hp):Rw->List V->Prop
 | .beg _ t,us=>us=[.str t]
 | .work _,us=>us=[]
 | .ready _ ch,us=>∃a b d,us=[a,b,d]/\ChAt K H ch d
 | .fin _ o,us=>∃a,us=[.str o,a]
 | .over _,us=>us=[]
 | .walk _ i ch,us=>∃c h,us=[.int i,c,h]/\ChAt K H ch c
 | .undo _ i ch,us=>∃c,us=[.int i,c]/\ChAt K H ch c
 | .void _ i,us=>us=[.int i]
def RwAt(K:Frag)(H:Hp)(w:Rw)(r:Addr):Prop:=∃pv us,H r=some (.tup (.str w.wd::pv::us))/\sPa K H w.nm pv/\w.more K H us
theorem RwAt.keep{K:Frag}{H H':Hp}{w:Rw}{r:Addr}(e:bh H H')(h:RwAt K H w r):RwAt K H' w r:=by
 obtain ⟨pv,us,h1,h2,h3⟩:=h
 refine ⟨pv,us,e _ _ h1,h2.keep e,?_⟩
 cases w with
 | beg p t=>exact h3
 | work p=>exact h3
 | ready p ch=>obtain ⟨a,b,d,e1,e2⟩:=h3;exact ⟨a,b,d,e1,e2.keep e⟩
 | fin p o=>exact h3
 | over p=>exact h3
 | walk p i ch=>obtain ⟨a,b,e1,e2⟩:=h3;exact ⟨a,b,e1,e2.keep e⟩
 | undo p i ch=>obtain ⟨a,e1,e2⟩:=h3;exact ⟨a,e1,e2.keep e⟩
 | void p i=>exact h3
structure Sd where
 cells:List Int
 begins:List (Pa×Str)
 worked:List Pa
 ready:List (Pa×Addr×List Pa)
 ends:List (Pa×Str)
 walks:List ji
 overs:List Pa
def Sd.new(cs:List Int):Sd:=⟨cs,[],[],[],[],[],[]⟩
def dW(ps:List Pa):List (List Key×V):=ps.map λp=>(pk p,V.bl true)
def dR(rs:List (Pa×Addr×List Pa)):List (List Key×V):=rs.map λx=>(pk x.1,V.ref x.2.1)
def dE(es:List (Pa×Str)):List (List Key×V):=es.map λx=>(pk x.1,V.str x.2)
theorem vA{α:Type}(xs:List α)(k:α->Pa)(f:α->V)(p:Pa):km (xs.map λx=>(pk (k x),f x)) (pk p)=(xs.find? λx=>decide (k x=p)).map f:=by
 induction xs with
 | nil=>rfl
 | cons x r ih =>
  rw [List.map_cons]
  by_cases h:k x=p
  ·rw [jx (by rw [h]),List.find?_cons,τ h]
   rfl
  ·rw [jy (λz=>h (ym z)),ih,List.find?_cons,Γ h]
def pW(ps:List Pa)(p:Pa):List Pa:=if p∈ps then ps else ps++[p]
theorem vd(ps:List Pa)(p:Pa):(ps.find? λx=>decide (x=p))=if p∈ps then some p else none:=by
 by_cases h:p∈ps
 ·rw [if_pos h]
  cases e:ps.find? λx=>decide (x=p) with
  | none=>exact absurd (τ rfl) (List.find?_eq_none.mp e p h)
  | some y =>
   have:y=p:=by simpa using List.find?_some e
   rw [this]
 ·rw [if_neg h,List.find?_eq_none]
  intro x hx c
  exact h ((Ξ c)▸hx)
theorem si(ps:List Pa)(p:Pa):km (dW ps) (pk p)=if p∈ps then some (.bl true) else none:=by
 unfold dW
 rw [vA ps (λp=>p) (λ_=>V.bl true) p,vd]
 split<;>rfl
theorem yk(ps:List Pa)(p:Pa):gT (dW ps) (pk p) (.bl true)=dW (pW ps p):=by
 unfold pW
 by_cases h:p∈ps
 ·rw [if_pos h]
  unfold gT
  rw [hU,si,if_pos h,if_pos (show (some (V.bl true)).isSome=true from rfl)]
  unfold dW
  rw [List.map_map]
  refine List.map_congr_left λx _=>?_
  show (if pk x=pk p then (pk x,V.bl true) else (pk x,V.bl true))=_
  rw [ite_self]
 ·rw [if_neg h,tJ _ (by rw [si,if_neg h])]
  unfold dW
  rw [List.map_append]
  rfl
def AQ(rs:List (Pa×Addr×List Pa))(p:Pa):Option (Pa×Addr×List Pa):=rs.find? λx=>decide (x.1=p)
def As(es:List (Pa×Str))(p:Pa):Option Str:=(es.find? λx=>decide (x.1=p)).map (·.2)
def ye(es:List (Pa×Str))(p:Pa)(o:Str):List (Pa×Str):=if (As es p).isSome=true then es else es++[(p,o)]
def apply(cs:List Int)(ch:List Pa):List Int:=ch.foldl (λcs c=>cs.set c.1.toNat c.2) cs
def Sd.chs(d:Sd):Rw->List Pa
 | .fin p o=>if o="done" then ((AQ d.ready p).map λx=>x.2.2).getD [] else []
 | .walk _ _ ch=>ch
 | .undo _ _ ch=>ch
 | _=>[]
def Sd.keep(d:Sd)(r b:Addr)(w:Rw):Sd :=
 let cs:=apply d.cells (d.chs w)
 match w with
 | .beg p t=>{d with cells:=cs,begins:=d.begins++[(p,t)]}
 | .work p=>{d with cells:=cs,worked:=pW d.worked p}
 | .ready p ch=>{d with cells:=cs,ready:=d.ready++[(p,r,ch)]}
 | .fin p o=>{d with cells:=cs,ends:=ye d.ends p o}
 | .over p=>{d with cells:=cs,overs:=pW d.overs p}
 | .walk p i _=>{d with cells:=cs,walks:=uK d.walks (p,i) b r}
 | .undo p i _=>{d with cells:=cs,walks:=uK d.walks (p,i) b r}
 | .void p i=>{d with cells:=cs,walks:=uK d.walks (p,i) b r}
structure Sd.Small(d:Sd)(n:Nat):Prop where
 bg:d.begins.length<=n
 wk:d.worked.length<=n
 rd:d.ready.length<=n
 en:d.ends.length<=n
 wa:d.walks.length<=n
 ov:d.overs.length<=n
theorem oA(ps:List Pa)(p:Pa):(pW ps p).length<=ps.length+1:=by
 unfold pW
 split
 ·omega
 ·rw [List.length_append];exact ι _
theorem sY(ps:List (Pa×Str))(p:Pa)(o:Str):(ye ps p o).length<=ps.length+1:=by
 unfold ye
 split
 ·omega
 ·rw [List.length_append];exact ι _
theorem Sd.Small.keep{d:Sd}{n:Nat}(r b:Addr)(w:Rw)(h:d.Small n):(d.keep r b w).Small (n+1):=by
 obtain ⟨h1,h2,h3,h4,h5,h6⟩:=h
 have a1:=λp=>oA d.worked p
 have a2:=λp=>oA d.overs p
 have a3:=λp o=>sY d.ends p o
 have a4:=λk=>uJ d.walks k b r
 cases w with
 | beg p t=>exact ⟨by show (d.begins++[(p,t)]).length<=n+1;rw [List.length_append];show d.begins.length+1<=n+1;omega,υ h2,υ h3,υ h4,υ h5,υ h6⟩
 | work p=>exact ⟨υ h1,Λ (a1 p) ω,υ h3,υ h4,υ h5,υ h6⟩
 | ready p ch=>exact ⟨υ h1,υ h2,by show (d.ready++[(p,r,ch)]).length<=n+1;rw [List.length_append];show d.ready.length+1<=n+1;omega,υ h4,υ h5,υ h6⟩
 | fin p o=>exact ⟨υ h1,υ h2,υ h3,Λ (a3 p o) ω,υ h5,υ h6⟩
 | over p=>exact ⟨υ h1,υ h2,υ h3,υ h4,υ h5,Λ (a2 p) ω⟩
 | walk p i ch=>exact ⟨υ h1,υ h2,υ h3,υ h4,Λ (a4 (p,i)) ω,υ h6⟩
 | undo p i ch=>exact ⟨υ h1,υ h2,υ h3,υ h4,Λ (a4 (p,i)) ω,υ h6⟩
 | void p i=>exact ⟨υ h1,υ h2,υ h3,υ h4,Λ (a4 (p,i)) ω,υ h6⟩
structure Ad where
 (l dx cl bg wk rd en wa ov:Addr)
def Ad.own(A:Ad):List Addr:=[A.cl,A.bg,A.wk,A.rd,A.en,A.wa,A.ov]
def sf(A:Ad):List (Str×V):=ao "overs" (.ref A.ov) (ao "walks" (.ref A.wa) (ao "ends" (.ref A.en) (ao "readies" (.ref A.rd) (ao "worked" (.ref A.wk) (ao "begins" (.ref A.bg) (ao "cells" (.ref A.cl) []))))))
theorem zS(A:Ad):(sf A).lookup ("overs":Str)=some (.ref A.ov):=by
 unfold sf
 rw [az,if_pos rfl]
theorem zT(A:Ad):(sf A).lookup ("ends":Str)=some (.ref A.en):=by
 unfold sf
 rw [az,if_neg θ,az,if_neg θ,az,if_pos rfl]
theorem qe{A:Ad}{m:Str}(h:decide (m∈(["overs","walks","ends","readies","worked","begins","cells"]:List Str))=false):(sf A).lookup m=none:=by
 have h':m∉(["overs","walks","ends","readies","worked","begins","cells"]:List Str):=of_decide_eq_false h
 simp only [List.mem_cons,List.not_mem_nil,or_false,not_or] at h'
 obtain ⟨h1,h2,h3,h4,h5,h6,h7⟩:=h'
 unfold sf
 rw [az,if_neg h1,az,if_neg h2,az,if_neg h3,az,if_neg h4,az,if_neg h5,az,if_neg h6,az,if_neg h7]
 rfl
def sPB(_:Frag)(H:Hp)(x:Pa×Str)(v:V):Prop:=∃a b,v=.ref a/\H a=some (.tup [.ref b,.str x.2])/\H b=some (.tup [.int x.1.1,.int x.1.2])
theorem sPB.keep{K:Frag}{H H':Hp}{x:Pa×Str}{v:V}(e:bh H H')(h:sPB K H x v):sPB K H' x v:=by
 obtain ⟨a,b,rfl,h1,h2⟩:=h
 exact ⟨a,b,rfl,e _ _ h1,e _ _ h2⟩
def fo(A:Ad)(us:List V)(d:Sd):List (Addr×HO):=[(A.cl,.lst (d.cells.map V.int)),(A.bg,.lst us),(A.wk,.dT (dW d.worked)),(A.rd,.dT (dR d.ready)),(A.en,.dT (dE d.ends)),(A.wa,NDt A.wa d.walks),(A.ov,.dT (dW d.overs))]
structure StU(CS:Addr)(K:Frag)(H:Hp)(A:Ad)(d:Sd)(us:List V):Prop where
 ins:H A.l=some (.ins CS A.dx (sf A))
 co:∀x∈fo A us d,H x.1=some x.2
 bg:Paired (sPB K H) d.begins us
 rd:∀x∈d.ready,RwAt K H (.ready x.1 x.2.2) x.2.1
 wa:NOk H d.walks
 nd:A.own.Nodup
def St(CS:Addr)(K:Frag)(H:Hp)(A:Ad)(d:Sd):Prop:=∃us,StU CS K H A d us
def KpS(A:Ad)(H H':Hp):Prop:=∀b o,b∉A.own->H b=some o->H' b=some o
theorem KpS.of{A:Ad}{H H':Hp}(h:Same H H'):KpS A H H':=λb o _ e=>h b o e
theorem KpS.trans{A:Ad}{H H1 H2:Hp}(a:KpS A H H1)(b:KpS A H1 H2):KpS A H H2:=λc o n e=>b c o n (a c o n e)
theorem wU{A:Ad}{H:Hp}{a:Addr}{o:HO}(h:a∈A.own):KpS A H (upd H a o):=λb u n e=>by
 rw [aw (λ(z:b=a)=>n (by rw [z];exact h))]
 exact e
section
variable {CS:Addr}{K:Frag}{H H':Hp}{A:Ad}{d:Sd}{us:List V}
theorem StU.en(h:StU CS K H A d us):H A.en=some (.dT (dE d.ends)):=h.co (A.en,_) (by simp [fo])
theorem StU.ov(h:StU CS K H A d us):H A.ov=some (.dT (dW d.overs)):=h.co (A.ov,_) (by simp [fo])
theorem StU.own(h:StU CS K H A d us){b:Addr}(hb:b∈A.own):∃o,H b=some o/\(∀xs,o≠.tup xs)/\(∀C dx fs,o≠.ins C dx fs):=by
 have hb':b∈(fo A us d).map (·.1):=hb
 obtain ⟨x,hx,rfl⟩:=List.mem_map.mp hb'
 refine ⟨_,h.co x hx,λxs=>?_,λC dx fs=>?_⟩
 ·simp only [fo,List.mem_cons,List.not_mem_nil,or_false] at hx
  rcases hx with e | e | e | e | e | e | e<;>subst e<;>exact λz=>nomatch z
 ·simp only [fo,List.mem_cons,List.not_mem_nil,or_false] at hx
  rcases hx with e | e | e | e | e | e | e<;>subst e<;>exact λz=>nomatch z
theorem StU.ts(h:StU CS K H A d us)(k:KpS A H H'):bh H H':=λb xs e=>k b _ (λhb=>by
 obtain ⟨o,e1,n,_⟩:=h.own hb
 rw [e] at e1
 exact n xs (Δ e1).symm) e
theorem StU.nl(h:StU CS K H A d us):A.l∉A.own:=λhb=>by
 obtain ⟨o,e1,_,n⟩:=h.own hb
 rw [h.ins] at e1
 exact n _ _ _ (Δ e1).symm
theorem StU.keep(h:StU CS K H A d us)(e:Same H H'):StU CS K H' A d us :=
 ⟨e _ _ h.ins,λx hx=>e _ _ (h.co x hx),pp h.bg λ_ _ z=>z.keep e.ts,λx hx=>(h.rd x hx).keep e.ts,h.wa.keep e.ts,h.nd⟩
theorem St.keep(h:St CS K H A d)(e:Same H H'):St CS K H' A d:=let ⟨us,q⟩:=h;⟨us,q.keep e⟩
theorem St.ts(h:St CS K H A d)(k:KpS A H H'):bh H H':=let ⟨_,q⟩:=h;q.ts k
theorem St.ins(h:St CS K H A d):H A.l=some (.ins CS A.dx (sf A)):=let ⟨_,q⟩:=h;q.ins
theorem wn{own:List (Addr×HO)}(nd:(own.map (·.1)).Nodup)(h:∀x∈own,H x.1=some x.2){i:Nat}{a:Addr}{o o':HO}(hi:own[i]?=some (a,o)):∀x∈own.set i (a,o'),upd H a o' x.1=some x.2:=by
 intro x hx
 obtain ⟨j,hj⟩:=List.mem_iff_getElem?.mp hx
 rw [List.getElem?_set] at hj
 by_cases e:i=j
 ·rw [if_pos e] at hj
  split at hj
  ·cases hj
   exact ae
  ·cases hj
 ·rw [if_neg e] at hj
  have hm:=List.mem_of_getElem? hj
  have ne:x.1≠a:=λz=>e (by
   have e1:(own.map (·.1))[i]?=some a:=by rw [List.getElem?_map,hi];rfl
   have e2:(own.map (·.1))[j]?=some a:=by rw [List.getElem?_map,hj];show some x.1=some a;rw [z]
   exact (List.getElem?_inj (List.getElem?_eq_some_iff.mp e1).1 nd).mp (e1.trans e2.symm))
  rw [aw ne]
  exact h x hm
theorem StU.put(h:StU CS K H A d us)(i:Nat){a:Addr}{o o':HO}{d':Sd}{us':List V}(hi:(fo A us d)[i]?=some (a,o))(hc:(fo A us d).set i (a,o')=fo A us' d')(hb:Paired (sPB K H) d'.begins us')
  (hr:∀x∈d'.ready,RwAt K H (.ready x.1 x.2.2) x.2.1)(hw:NOk H d'.walks):StU CS K (upd H a o') A d' us'/\KpS A H (upd H a o'):=by
 have ha:a∈A.own:=by
  have:a∈(fo A us d).map (·.1):=List.mem_map.mpr ⟨_,List.mem_of_getElem? hi,rfl⟩
  exact this
 have k:KpS A H (upd H a o'):=wU ha
 have t:=h.ts k
 refine ⟨⟨k _ _ h.nl h.ins,?_,pp hb λ_ _ z=>z.keep t,λx hx=>(hr x hx).keep t,hw.keep t,h.nd⟩,k⟩
 rw [← hc]
 exact wn (own:=fo A us d) h.nd h.co hi
end
structure TxD(K:Frag)(CS:Addr):Prop where
 cl:Cls K CS
 nc:NoAttr K CS "cells"
 nb:NoAttr K CS "begins"
 nw:NoAttr K CS "worked"
 nr:NoAttr K CS "readies"
 ne:NoAttr K CS "ends"
 na:NoAttr K CS "walks"
 no:NoAttr K CS "overs"
section
variable (CS:Addr)(K:Frag)
def p5:Sp:=λvs H Q _=>∃l dx c cs,vs=[.ref l,.ref c]/\H l=some (.ins CS dx [])/\H c=some (.lst ((cs:List Int).map V.int))/\cs.length<=1000 /\
 ∀A H',A.l=l->St CS K H' A (Sd.new cs)->(∀b∈A.own,H b=none)->Kp l H H'->Q .non H'
end
theorem Sd.Small.mono{d:Sd}{n m:Nat}(h:d.Small n)(le:n<=m):d.Small m:=⟨Λ h.bg le,Λ h.wk le,Λ h.rd le,Λ h.en le,Λ h.wa le,Λ h.ov le⟩
theorem St.kp{CS q:Addr}{K:Frag}{H H':Hp}{A:Ad}{d:Sd}(h:St CS K H A d)(k:Kp q H H')(n:q∉A.own)(t:bh H H')(nl:A.l≠q):St CS K H' A d:=by
 obtain ⟨us,h⟩:=h
 refine ⟨us,k _ _ nl h.ins,λx hx=>k _ _ (λz=>n ?_) (h.co x hx),pp h.bg λ_ _ z=>z.keep t,λx hx=>(h.rd x hx).keep t,h.wa.keep t,h.nd⟩
 rw [← z]
 exact List.mem_map.mpr ⟨x,hx,rfl⟩
def Scr(K:Frag)(H:Hp)(a:Addr)(xs:List V)(N:List Addr):Prop:=(∀H',SqL K H' a xs)\/∃o,H a=some o/\a∉N/\∀H',H' a=some o->SqL K H' a xs
section
variable {K:Frag}{H H':Hp}{a q:Addr}{xs:List V}{N:List Addr}
theorem Scr.seq(h:Scr K H a xs N):SqL K H a xs:=h.elim (λz=>z H) λ⟨_,e,_,z⟩=>z H e
theorem Scr.mk(h:SqL K H a xs)(hN:∀b∈N,H b=none):Scr K H a xs N:=by
 rcases h with (h | ⟨o,h⟩) | h
 ·exact .inr ⟨_,h,(λz=>by rw [hN a z] at h;cases h),λH' e=>.inl (.inl e)⟩
 ·exact .inr ⟨_,h,(λz=>by rw [hN a z] at h;cases h),λH' e=>.inl (.inr ⟨o,e⟩)⟩
 ·exact .inl λH'=>.inr h
theorem Scr.kp(h:Scr K H a xs N)(k:∀b o,b∉N->H b=some o->H' b=some o):Scr K H' a xs N:=h.elim .inl λ⟨o,e,n,z⟩=>.inr ⟨o,k _ _ n e,n,z⟩
theorem Scr.same(h:Scr K H a xs N)(e:Same H H'):Scr K H' a xs N:=h.kp λb o _ z=>e b o z
theorem Scr.add(h:Scr K H a xs N)(hq:H q=none):Scr K H a xs (q::N):=h.elim .inl λ⟨o,e,n,z⟩=>.inr ⟨o,e,λw=>(List.mem_cons.mp w).elim (λw=>ah e hq w) n,z⟩
end
theorem cD{f:Str}{v:V}{fs:List (Str×V)}{n:Nat}(h:fs.length<n):(ao f v fs).length<n+1:=by
 have:=cG f v fs
 omega
theorem cQ{H:Hp}{l p dx C:Addr}{fs fs':List (Str×V)}{o:HO}(hl:H l=some (.ins C dx fs))(hp:H p=none) :
  (upd H p o) l=some (.ins C dx fs)/\(upd (upd H p o) l (.ins C dx fs')) l=some (.ins C dx fs')/\(upd (upd H p o) l (.ins C dx fs')) p=some o/\Kp l H (upd (upd H p o) l (.ins C dx fs')):=by
 have n:l≠p:=ah hl hp
 exact ⟨by rw [aw n];exact hl,ae,by rw [aw (Ne.symm n),ae],λb u hb e=>by rw [aw hb,aw (ah e hp)];exact e⟩
theorem cE{H H':Hp}{l b:Addr}{o:HO}(k:Kp l H H')(hl:H' l=some o)(hb:H' b=none):H b=none:=by
 cases e:H b with
 | none=>rfl
 | some u =>
  have n:b≠l:=λz=>by rw [z,hl] at hb;cases hb
  rw [k b u n e] at hb
  cases hb
theorem oh{k:Nat}{A:Around}(hr:Room k A):A.units+1<cLine:=hun (c:=0) hr
theorem at0{x:V}{us:List V}:atI (x::us) (0:Int)=some x:=aU (j:=0) rfl
theorem at1{x y:V}{us:List V}:atI (x::y::us) (1:Int)=some y:=aU (j:=1) rfl
end Lo
namespace L2
open PySem PySem.Spec PyProof.Rows
set_option maxHeartbeats 1600000 in
theorem tL{X:Cx}{iy:Nat}{y:Str}{py spos:Pos}{elt iter:Expr}{x:Str}{px:Pos}{ifs:List Expr}{scope:Scope}{pos:Pos}{N':List Str}{fv:List Nat}{wi:TI}{tt:TT}{te:TE}
  (S:bV X.N X.env.scope scope x N' fv)(hc:X.calm=true)(hi:PI X (.Name x px) iter wi)
  (ht:∀C fp s H,PTs (X.blk N' scope C fp s H) ifs tt)(he:∀C fp s H,PE (X.blk N' scope C fp s H) elt te)
  (hN:X.N.Nodup)(hiy:X.N[iy]?=some y)(hxl:Loc X.env.scope y)(hsw:swapsWith (.ListComp elt [⟨.Name x px,iter,ifs,0⟩] scope pos) (some (.Name y py)) spos.line X.env=pure true:=by rfl)
  (hs:∀x,foldedSetIterable iter X.env x=pure x:=by intro _;rfl)(hf:X.fn y=true\/X.env.scope.names.lookup y=some .local:=by first | exact .inl rfl | exact .inr rfl | assumption) :
  PS X (.Assign [.Name y py] (.ListComp elt [⟨.Name x px,iter,ifs,0⟩] scope pos) spos) (xZ (tLC wi fv tt te) (oj iy)):=by
 intro pins s σ H DE I h
 rw [exec_Assign_Name_used _ _ _ _ hsw]
 refine ε (wpAny_standAt (ε ?_))
 show wpAny _ X.A (do let _ ← comprehension (.ListComp elt [⟨.Name x px,iter,ifs,0⟩] scope pos) scope X.env _ (newList []) false (eval iter X.env) (some (assign (.Name y py) X.env))) _ _ s
 refine ε (wpAny_mono (wpAny_comprehension_free (use:=some (assign (.Name y py) X.env)) (Q:=λ_ s'=>SP X pins DE .next s') rfl hs (fq λy hy hk=>I.ok.has y.1 (S.free y hy hk)) S.kind S.names
  (wpAny_mono (hi pins s σ H _ I h) (λxv s1 h1=>wpAny_mono h1 (λitv s2 h2=>?_) λ_ _ e=>e) λ_ _ e=>e)) (λ_ s' hq=>π (π hq)) λ_ _ e=>e)
 obtain ⟨it,fp,tn,J,H2,rfl,I2,T,st2,f2,W,n,w0,hn,turn⟩:=h2
 refine wpAny_newObj_type (wpAny_newFunctionEnv S.nocell (by intro y hy;simp at hy) (λh1 hns hsb=>?_) S.kind)
 dsimp only at hns hsb ⊢
 generalize hH:s2.heap.push {cls:=.type "list",dict:=none,data:=.seq ([]:List Value).toArray}=G at hns hsb ⊢
 have hG:G.objs.size=s2.heap.objs.size+1:=by rw [← hH,Heap.size_push]
 have kpG:∀b o,s2.heap.get? b=some o->G.get? b=some o:=λb o e=>hH▸ρ _ e
 have kp1:∀b o,b<G.objs.size->G.get? b=some o->h1.get? b=some o:=λb o lt e=>hsb.extBut b o (Φ lt) (ρ _ e)
 have kp:∀b o,s2.heap.get? b=some o->h1.get? b=some o:=λb o e=>kp1 b o (by rw [hG];exact Nat.lt_succ_of_lt (η e)) (kpG b o e)
 have hD:h1.PlainList s2.heap.objs.size #[]:=⟨_,kp1 _ _ (by rw [hG];exact Nat.lt_succ_self _) (hH▸ψ _ rfl)⟩
 have hDC:s2.heap.objs.size≠G.objs.size:=by rw [hG];exact Φ (Nat.lt_succ_self _)
 have hC:s2.heap.objs.size<=G.objs.size:=by rw [hG];exact Nat.le_succ _
 have hfo:∀b∈fp,b<s2.heap.objs.size:=λb hb=>by obtain ⟨o,e,_⟩:=T.obj 0 _ st2 b hb;exact η e
 have stat:∀{H':Hp} {pl:List (Addr×Obj)},(∀b∈fp,H' b=none)->(∀p∈pl,p.1∉fp)->∀b∈fp,mL (X.blk N' scope G.objs.size fp s2 H2) pl H' b:=λ{H' pl} hn hpl b hb=>by
  obtain ⟨_,g1,g2,g3,g4,g5⟩:=f2 b hb
  refine ⟨hn b hb,Φ (Nat.lt_of_lt_of_le (hfo b hb) hC),λz=>?_,.inl hb,λy c e=>g4 y c (bR e),λp hp e=>?_⟩
  ·rcases List.mem_cons.mp (I2.stkSub b z) with q | q
   ·exact g1 q
   ·exact g2 q
  ·exact hpl p hp (e▸hb)
 have hDf:s2.heap.objs.size∉fp:=λz=>absurd (hfo _ z) (Nat.lt_irrefl _)
 have hlc:(X.blk N' scope G.objs.size fp s2 H2).env.scope.names.lookup x=some .local:=lookup_relabel_local S.loc
 have hcl:∀y c,(X.blk N' scope G.objs.size fp s2 H2).env.cells.lookup y=some c->c≠s2.heap.objs.size:=λy c e z=>by
  obtain ⟨v,q⟩:=I2.cell y c (bR e)
  exact absurd q.lt (by rw [z];exact Nat.lt_irrefl _)
 have pin1:∀{s':Shared} {H':Hp} {ob:Obj} {i:Nat} {ys:List V},Inv (X.blk N' scope G.objs.size fp s2 H2) [] (none::bc fv σ) H' s'->s'.heap.get? s2.heap.objs.size=some ob->(∀v,ob.data≠.cell v)->H' s2.heap.objs.size=none ->
   Inv (X.blk N' scope G.objs.size fp s2 H2) [(s2.heap.objs.size,ob)] (none::bc fv σ) H' s':=λ{s' H' ob i ys} J1 e d f=>J1.pins_of λp hp=>by
  have z:p=(s2.heap.objs.size,ob):=by simpa using hp
  subst z
  refine ⟨e,f,hDC,λz=>?_,d⟩
  rcases List.mem_cons.mp (I2.stkSub _ z) with q | q
  ·exact absurd I2.lt (by rw [← q];exact Nat.lt_irrefl _)
  ·exact I2.nofs (ι _) q
 have loop:∀s3:Shared,s3={s2 with heap:=h1,toks:=s2.toks+([]:List (Str×Value)).length} ->
   codeAny (model X.prog X.w) X.A (.compLoop (.ListComp elt [⟨.Name x px,iter,ifs,0⟩] scope pos) 0 (.ref it) (.ref s2.heap.objs.size) (X.blk N' scope G.objs.size fp s2 H2).env)
    (compPost (model X.prog X.w) X.A X.xe (some (assign (.Name y py) X.env)) (λ_ s'=>SP X pins DE .next s') (.ref s2.heap.objs.size) G.objs.size) s3:=by
  rintro s3 rfl
  refine codeAny_compLoop_tests (λk s'=>∃i ys H' its,k=n+1-i/\i<=n/\ys.length<=i/\Vals ys its/\s'.heap.PlainList s2.heap.objs.size its.toArray /\
   Inv (X.blk N' scope G.objs.size fp s2 H2) [] (none::bc fv σ) H' s'/\H' s2.heap.objs.size=none/\tn i s'.heap/\(∀b∈fp,H' b=none)/\W i ys H') ?_ (n+1)
   ⟨0,[],H2,[],rfl,Nat.zero_le _,ι _,.nil,hD,qF S I2 f2 hfo hC kp hns (λp hp=>nomatch hp),I2.hok.fresh (ι _),T.keep _ _ _ st2 λb _ o e=>kp b o e,λb hb=>(f2 b hb).1,w0⟩
  rintro k s4 ⟨i,ys,H4,its,rfl,hin,hyi,rv,pl4,I4,fD4,st4,ff4,w4⟩
  obtain ⟨cnt,eD⟩:=id pl4
  have I4p:=pin1 (i:=i) (ys:=ys) I4 eD (λv z=>by cases z) fD4
  have np:∀p∈[(s2.heap.objs.size,({cls:=.type "list",data:=.seq its.toArray cnt}:Obj))],p.1∉fp:=λp hp=>by
   have z:p=(s2.heap.objs.size,({cls:=.type "list",data:=.seq its.toArray cnt}:Obj)):=by simpa using hp
   subst z;exact hDf
  rcases turn i ys H4 w4 with ⟨stop,fin⟩ | ⟨go,hi2,step⟩
  ·refine wpAny_mono (T.done (X.blk N' scope G.objs.size fp s2 H2) rfl rfl rfl hc i _ s4 _ H4 _ I4p (stat ff4 np) st4 stop) (λr s5 ⟨hr,I5⟩=>?_) λ_ _ e=>e
   subst hr
   obtain ⟨m5,hm5,_⟩:=I5.loc
   have eD5:s5.heap.get? s2.heap.objs.size=some {cls:=.type "list",data:=.seq its.toArray cnt}:=(I5.pin _ (Ψ _ Ω)).1
   have IF:Inv X pins σ (upd H4 s2.heap.objs.size (.lst ys)) s5:=by
    have sb:Heap.SameBut G.objs.size s5.heap s5.heap:=⟨rfl,λ_ _=>rfl⟩
    have ltC:∀{b:Addr} {o:Obj},s2.heap.get? b=some o->b≠G.objs.size:=λ{b o} e=>Φ (Nat.lt_of_lt_of_le (η e) hC)
    have fD2:H2 s2.heap.objs.size=none:=I2.hok.fresh (ι _)
    have ltD:∀{b:Addr} {o:Obj},s2.heap.get? b=some o->b≠s2.heap.objs.size:=λ{b o} e=>Φ (η e)
    have B:=I5.base
    refine I2.call' (s':=s5) (ch:=fp) I5.os ⟨λb o e nb hb hx=>?_,λb o e nb hb hx=>?_,λb o e nb hx=>?_,λb o e hx=>?_,λb xs e=>?_,λb o u e=>?_,λb ps e=>?_⟩ ?_ I5.bare λb hb=>?_
    ·exact sb.extBut b o (ltC e) (B.keep b o e nb hb hx)
    ·obtain ⟨sl,q⟩:=B.slot b o e nb hb hx
     exact ⟨sl,sb.extBut b _ (ltC e) q⟩
    ·rw [aw (ltD e)];exact B.free b o e nb hx
    ·obtain ⟨o',q⟩:=B.there b o e hx
     exact ⟨o',sb.extBut b o' (ltC e) q⟩
    ·have e':H2 b=some (.tup xs):=e
     rw [aw (ah e' fD2)];exact B.tups b xs e
    ·have e':H2 b=some (.frz o u):=e
     rw [aw (ah e' fD2)];exact B.frzs b o u e
    ·have e':H2 b=some (.tbl ps):=e
     rw [aw (ah e' fD2)];exact B.tbls b ps e
    ·intro b u e
     by_cases hb:b=s2.heap.objs.size
     ·subst hb
      rw [ae] at e
      cases e
      exact ⟨Λ hyi (Λ hin hn),its,cnt,rv,sb.extBut _ _ hDC eD5⟩
     ·rw [aw hb] at e
      have fC:H4 G.objs.size=none:=I5.free
      refine (I5.hok b u e).stay (λc v hc' q=>sb.extBut c v ?_ q) (λc q=>by rw [aw (ah q fD4)];exact q) λc xs q=>by rw [aw (ah q fD4)];exact q
      rcases hc' with z | z
      ·subst z;exact ah e fC
      ·exact ah z fC
    ·obtain ⟨_,g1,g2,g3,g4,g5⟩:=f2 b hb
     exact ⟨g3,g1,g4,g5⟩
   obtain ⟨f0,f1,f2',f3,f4,f5⟩:=I2.fpOk (H':=H2) hC (I2.hok.fresh hC)
   show wpAny _ _ (assign (.Name y py) X.env (.ref s2.heap.objs.size)) _ _ s5
   refine wpAny_assign_Name (kO IF hN hiy hxl (v:=.ref s2.heap.objs.size) rfl (λs6 I6 ⟨a6,sb6,ha6⟩=>?_) hf)
   have nC:G.objs.size≠a6:=λz=>by
    rcases ha6 with e | e
    ·exact f1 (z.trans e)
    ·exact f4 _ _ e z.symm
   have fC:(upd H4 s2.heap.objs.size (.lst ys)) G.objs.size=none:=by
    rw [aw (Ne.symm hDC)]
    exact I5.free
   exact ⟨m5,hm5.sameBut sb6 nC,λh' sb'=>⟨_,_,I6.turned (t':=s6.toks) (it:=G.objs.size) (λb o hb e=>(sb'.2 b hb).trans e) fC f1 f3 f4 f5,fin _ fD4⟩⟩
  ·refine wpAny_mono (T.item (X.blk N' scope G.objs.size fp s2 H2) rfl rfl rfl hc i _ s4 _ H4 _ I4p (stat ff4 np) st4 go) (λr s5 ⟨u,hr,h5⟩=>?_) λ_ _ e=>e
   subst hr
   show wpAny _ _ (letOwnedTupleGo (.Name x px) (.ref it) u >>= λ_=>assign (.Name x px) (X.blk N' scope G.objs.size fp s2 H2).env u) _ _ s5
   refine ε (wpAny_mono h5 (λ_ s6 ⟨xv,H6,I6,r6,y6,st6,ff6⟩=>?_) λ_ _ e=>e)
   have I6':=I6.pinned (stat ff6 np) (T.obj _ _ st6)
   have out:∀{σ':St} {H':Hp} {s':Shared},Inv (X.blk N' scope G.objs.size fp s2 H2) ([(s2.heap.objs.size,({cls:=.type "list",data:=.seq its.toArray cnt}:Obj))]++iM fp s6.heap) σ' H' s' ->
     s'.heap.PlainList s2.heap.objs.size its.toArray/\H' s2.heap.objs.size=none/\(∀b∈fp,H' b=none)/\(∀b∈fp,∀o,s6.heap.get? b=some o->s'.heap.get? b=some o):=λ{σ' H' s'} J1=>by
    have q:=J1.pin (s2.heap.objs.size,({cls:=.type "list",data:=.seq its.toArray cnt}:Obj)) (Ψ _ (List.mem_append_left _ Ω))
    refine ⟨⟨cnt,q.1⟩,q.2.1,λb hb=>?_,λb hb o e=>(J1.pin (b,o) (Ψ _ (Ψ _ (cU hb e)))).1⟩
    obtain ⟨o,e,d⟩:=T.obj _ _ st6 b hb
    exact (J1.pin (b,o) (Ψ _ (Ψ _ (cU hb e)))).2.1
   refine nox ((cn (X:=X.blk N' scope G.objs.size fp s2 H2) (i:=0) S.nd S.hd (.inl hlc) (.inr hlc)) _ s6 _ H6 xv u (fun σ' H'=>σ'=some xv::bc fv σ/\H'=H6) I6' r6 ⟨rfl,rfl⟩) λ_ s7 ⟨σ7,H7,I7,e7,e7'⟩=>?_
   subst e7 e7'
   refine nox (ht _ _ _ _ _ s7 _ H7 _ I7 (step xv H7 y6)) λok s8 ⟨H8,I8,q8⟩=>?_
   cases ok with
   | false =>
    obtain ⟨o1,o2,o3,o4⟩:=out I8
    exact ⟨n+1-(i+1),ω,i+1,ys,H8,its,rfl,hi2,υ hyi,rv,o1,(I8.pins_of (pins':=[]) λp hp=>nomatch hp).weak (σ':=none::bc fv σ) rfl (λj v e=>by
     cases j with
     | zero=>cases (show (none:Option V)=some v from Δ e)
     | succ j=>exact e),o2,T.keep _ _ _ st6 o4,o3,q8⟩
   | true =>
    refine nox (he _ _ _ _ _ s8 _ H8 _ I8 q8) λyv s9 ⟨y,H9,I9,r9,q9⟩=>?_
    obtain ⟨o1,o2,o3,o4⟩:=out I9
    have hlen:=rv.length
    refine wpAny_list_append_plain (hsz:=by rw [List.size_toArray,← hlen];exact Λ hyi (Λ hin hn)) o1 λh' pl' sb'=>?_
    have I9':Inv (X.blk N' scope G.objs.size fp s2 H2) [] (some xv::bc fv σ) H9 {s9 with heap:=h'} :=
     (I9.pins_of (pins':=[]) λp hp=>nomatch hp).turned (t':=s9.toks) (it:=s2.heap.objs.size) (λb o hb e=>sb'.extBut b o hb e) o2 hDC (.inr (ι _)) hcl (λp hp=>nomatch hp)
    refine ⟨n+1-(i+1),ω,i+1,ys++[y],H9,its++[yv],rfl,hi2,by rw [List.length_append];exact Nat.succ_le_succ hyi,rv.append (.cons r9 .nil),?_,I9'.weak (σ':=none::bc fv σ) rfl (λj v e=>by
     cases j with
     | zero=>cases (show (none:Option V)=some v from Δ e)
     | succ j=>exact e),o2,T.keep _ _ _ st6 λb hb o e=>sb'.extBut b o (λz=>hDf (z▸hb)) (o4 b hb o e),o3,q9⟩
    have e9:(its++[yv]).toArray=its.toArray.push yv:=by simp
    rw [e9]
    exact pl'
 exact codeAny_compStart_list (loop _ rfl) (T.self _ 0 _ _ _ (T.keep _ _ _ st2 λb _ o e=>kp b o e) (loop _ rfl))
end L2
namespace L2
open PySem PySem.Spec PyProof.Rows PySem.W
def zY{α:Type}(lt:Nat->Nat->Bool):KasT α->α
 | .ret a=>a
 | .ask i j k=>zY lt (k (lt i j))
def ltE(x y:(Int×Int)×Str):Bool:=if x.1=y.1 then (if x.2=y.2 then false else decide (x.2.cps.toList<y.2.cps.toList)) else HT.xz [x.1.1,x.1.2] [y.1.1,y.1.2]
section
variable {prog:Program}{w:World}{A:Around}{E:Value->Shared->Prop}{s:Shared}
def xm{α:Type} [Inhabited α](lt:α->α->Bool)(xs:List α):List α:=((zY (λi j=>lt (xs.getD i default) (xs.getD j default)) (kas_sort xs.length)).toList).map λi=>xs.getD i default
instance:Inhabited ((Int×Int)×Str):=⟨((0,0),Str.empty)⟩
end
end L2
namespace L2
open PySem PySem.Spec PyProof.Rows PySem.W
def sPS(K:Frag)(H:Hp)(x:(Int×Int)×Str)(v:V):Prop:=∃a b,v=.ref a/\H a=some (.tup [.ref b,.str x.2])/\H b=some (.tup [.int x.1.1,.int x.1.2])
theorem sPS.keep{K:Frag}{H H':Hp}{x:(Int×Int)×Str}{v:V}(e:bh H H')(h:sPS K H x v):sPS K H' x v:=by
 obtain ⟨a,b,rfl,h1,h2⟩:=h
 exact ⟨a,b,rfl,e _ _ h1,e _ _ h2⟩
end L2
namespace L2
open PySem PySem.Spec PyProof.Rows PySem.W
end L2
namespace L2
open PySem PySem.Spec PyProof.Rows PySem.W
end L2
namespace L2
open PySem PySem.Spec PyProof.Rows PySem.W
end L2
namespace L2
open PySem PySem.Spec PyProof.Rows PySem.W
def Vw(v d:Addr):HO:=.ext λh=>h.IsItemsView v d
def xU(td:TE):TE:=fun σ H Q=>td σ H λx H1=>∃a kvs,x=.ref a/\H1 a=some (.dT kvs)/\∀v,H1 v=none->Q (.ref v) (upd H1 v (Vw v a))
theorem tW{X:Cx}{o:Expr}{apos cpos:Pos}{td:TE}(ho:PE X o td)(hbase:attributeBase o "items" X.env (eval o X.env)=eval o X.env:=by rfl)(hline:(apos.endLine==cpos.line)=true:=by rfl) :
  PE X (.Call (.Attribute o "items" apos) [] [] cpos) (xU td):=by
 intro pins s σ H Q I h
 refine wpAny_Call_method0_late hbase hline (thn (ho pins s σ H _ I h) λu s1 ⟨x,H1,I1,rx,a,kvs,ex,e,q⟩=>?_)
 subst ex
 obtain rfl:u=Value.ref a:=rx
 obtain ⟨t1,t2,hs⟩:=zn I1 (.inr ⟨kvs,.inl e⟩)
 refine ⟨"dict","dict.items",PySem.F.plainAttrs_dict,PySem.F.slot_dict_items,PySem.F.type_dict_items,t1,t2,Calls.callWith_builtin rfl (PySem.evalArgs_none ?_)⟩
 refine wpAny_call_entry PySem.F.slot_dict_items t1 PySem.F.entry_dict_items ?_ (PySem.F.args_dict_items_1 _)
 unfold Builtin.«dict.items» Builtin.Dict.noArgs
 refine ε (ε (wpAny_notOrdered_dict t1 (π ?_)))
 show wpAny _ _ (Builtin.Dict.showsAll a >>= λ_=>_) _ _ s1
 unfold Builtin.Dict.showsAll
 rw [if_neg (by rw [hs];exact Bool.false_ne_true)]
 refine ε (π (ε (wpAny_newObj_type (π ⟨_,rfl,?_⟩))))
 refine ⟨.ref s1.heap.objs.size,_,I1.laid (a:=s1.heap.objs.size) (o:=Vw s1.heap.objs.size a) (t':=s1.toks) (λ_ _ z=>ρ _ z) (ι _) ⟨⟨_,ψ _ rfl,rfl,rfl⟩,⟨_,ψ _ rfl⟩,λg1 g2 ⟨ob,p,r⟩ k=>⟨ob,k _ p,r⟩⟩,rfl,q _ (I1.hok.fresh (ι _))⟩
end L2
namespace Lo
open PySem L2
def NwAt(K:Frag)(H:Hp)(es:List (Pa×Str))(v:V):Prop:=∃t ys,v=.ref t/\H t=some (.tup ys)/\Paired (sPS K H) (xm ltE es) ys
theorem NwAt.keep{K:Frag}{H H':Hp}{es:List (Pa×Str)}{v:V}(e:bh H H')(h:NwAt K H es v):NwAt K H' es v:=by
 obtain ⟨t,ys,rfl,h1,h2⟩:=h
 exact ⟨t,ys,rfl,e _ _ h1,Paired.mapP h2 λ_ _ z=>z.keep e⟩
end Lo
namespace L2
open PySem PySem.Spec PyProof.Rows
theorem qz{K:Frag}{H:Hp}{a:Addr}(n:Nat):EqIs K n H (.ref a) (.ref a) true:=λP w A s u v hA hok kin r1 r2=>by
 cases r1
 cases r2
 exact SeqAt.EqAt.same _
theorem eq_int{K:Frag}{H:Hp}(n:Nat)(i:Int):EqIs K n H (.int i) (.int i) true:=by
 have z:=(cInt.eq (K:=K) (H:=H) (x:=i) (y:=i) rfl rfl).mono (Nat.zero_le n)
 rwa [τ rfl] at z
theorem eq_str{K:Frag}{H:Hp}(n:Nat)(i:Str):EqIs K n H (.str i) (.str i) true:=by
 have z:=(cStr.eq (K:=K) (H:=H) (x:=i) (y:=i) rfl rfl).mono (Nat.zero_le n)
 rwa [τ rfl] at z
theorem kf{K:Frag}{H:Hp}{a b:Addr}{n:Nat}{us vs:List V}(ha:SqT K H a us)(hb:SqT K H b vs)(h:Paired (λx y=>EqIs K n H x y true) us vs):EqIs K (n+1) H (.ref a) (.ref b) true/\xf K (n+1) H (.ref a) (.ref b) true:=by
 obtain ⟨z1,z2⟩:=xj (e:=λ_=>true) ha hb h.len λj x y e1 e2=>by
  obtain ⟨v,ev,rv⟩:=h.get1 e1
  rw [e2] at ev
  cases ev
  exact rv
 have e:((List.range us.length).all λ_=>true)=true:=by simp
 rw [e] at z1 z2
 exact ⟨om z1 λ_ _ _ _ _ _=>rfl,z2⟩
end L2
namespace Lo
open PySem L2
structure TxH(K:Frag)(CH:Addr):Prop where
 cl:Cls K CH
 ht:NoAttr K CH "stand"
 hw:NoAttr K CH "rows"
 hs:NoAttr K CH "sent"
 hl:NoAttr K CH "latest"
structure Ah where
 (l dx rw sn:Addr)
def hf(S:Addr)(h:Ah)(v:V):List (Str×V):=ao "latest" v (ao "sent" (.ref h.sn) (ao "rows" (.ref h.rw) (ao "stand" (.ref S) [])))
theorem jN(f:Str)(v v':V):∀fs:List (Str×V),ao f v' (ao f v fs)=ao f v' fs
 | []=>by
  show (if f=f then _ else _)=_
  rw [if_pos rfl]
  rfl
 | (g,x)::r=>by
  by_cases e:g=f
  ·show ao f v' (if g=f then _ else _)=(if g=f then _ else _)
   rw [if_pos e,if_pos e]
   show (if g=f then _ else _)=_
   rw [if_pos e]
  ·show ao f v' (if g=f then _ else _)=(if g=f then _ else _)
   rw [if_neg e,if_neg e]
   show (if g=f then _ else _)=_
   rw [if_neg e,jN f v v' r]
theorem zo(S:Addr)(h:Ah)(v v':V):ao "latest" v' (hf S h v)=hf S h v':=jN _ _ _ _
theorem xF(S:Addr)(h:Ah)(v:V):(hf S h v).lookup ("latest":Str)=some v:=by
 unfold hf
 rw [az,if_pos rfl]
theorem xD(S:Addr)(h:Ah)(v:V):(hf S h v).lookup ("sent":Str)=some (.ref h.sn):=by
 unfold hf
 rw [az,if_neg θ,az,if_pos rfl]
theorem xE(S:Addr)(h:Ah)(v:V):(hf S h v).lookup ("rows":Str)=some (.ref h.rw):=by
 unfold hf
 rw [az,if_neg θ,az,if_neg θ,az,if_pos rfl]
theorem uX(S:Addr)(h:Ah)(v:V):(hf S h v).lookup ("stand":Str)=some (.ref S):=by
 unfold hf
 rw [az,if_neg θ,az,if_neg θ,az,if_neg θ,az,if_pos rfl]
theorem ip{S:Addr}{h:Ah}{v:V}{m:Str}(q:decide (m∈(["latest","sent","rows","stand"]:List Str))=false):(hf S h v).lookup m=none:=by
 have h':m∉(["latest","sent","rows","stand"]:List Str):=of_decide_eq_false q
 simp only [List.mem_cons,List.not_mem_nil,or_false,not_or] at h'
 obtain ⟨h1,h2,h3,h4⟩:=h'
 unfold hf
 rw [az,if_neg h1,az,if_neg h2,az,if_neg h3,az,if_neg h4]
 rfl
theorem zp(S:Addr)(h:Ah)(v:V):(hf S h v).length<1000:=cD (n:=999) (cD (n:=998) (cD (n:=997) (cD (n:=996) (by show 0<996;decide))))
abbrev Ws:=Int×Str×Addr×Addr
def WsAt(H:Hp)(x:Ws)(u:V):Prop:=∃t t2,u=.ref t/\H t=some (.tup [.int x.1,.ref t2])/\H t2=some (.tup [.str x.2.1,.ref x.2.2.1,.ref x.2.2.2])
theorem WsAt.keep{H H':Hp}{x:Ws}{u:V}(e:bh H H')(h:WsAt H x u):WsAt H' x u:=by
 obtain ⟨t,t2,rfl,h1,h2⟩:=h
 exact ⟨t,t2,rfl,e _ _ h1,e _ _ h2⟩
def LtAt(K:Frag)(H:Hp)(es:List (Pa×Str))(x:Ws)(u:V):Prop:=∃t t2 nv,u=.ref t/\H t=some (.tup [.int x.1,.ref t2])/\H t2=some (.tup [.str x.2.1,.ref x.2.2.1,.ref x.2.2.2,nv])/\NwAt K H es nv
theorem LtAt.keep{K:Frag}{H H':Hp}{es:List (Pa×Str)}{x:Ws}{u:V}(e:bh H H')(h:LtAt K H es x u):LtAt K H' es x u:=by
 obtain ⟨t,t2,nv,rfl,h1,h2,h3⟩:=h
 exact ⟨t,t2,nv,rfl,e _ _ h1,e _ _ h2,h3.keep e⟩
def Ah.own(h:Ah)(A:Ad):List Addr:=h.l::h.rw::h.sn::A.own
def KpH(A:Ad)(h:Ah)(H H':Hp):Prop:=∀b o,b∉h.own A->H b=some o->H' b=some o
structure ShA(CS CH:Addr)(K:Frag)(H:Hp)(A:Ad)(h:Ah)(d:Sd)(rs:List Addr)(ws:List Ws)(v:V):Prop where
 st:St CS K H A d
 ins:H h.l=some (.ins CH h.dx (hf A.l h v))
 rws:H h.rw=some (.lst (rs.map V.ref))
 snt:∃us,H h.sn=some (.lst us)/\Paired (WsAt H) ws us
 lat:v=.non\/NwAt K H d.ends v
 n1:h.l∉A.own
 n2:h.rw∉A.own
 n3:h.sn∉A.own
 n4:h.rw≠h.sn
 n5:A.l≠h.l
section
variable {CS CH:Addr}{K:Frag}{H H':Hp}{A:Ad}{h:Ah}{d:Sd}{rs:List Addr}{ws:List Ws}{v:V}
theorem ShA.keep(q:ShA CS CH K H A h d rs ws v)(e:Same H H'):ShA CS CH K H' A h d rs ws v:=by
 obtain ⟨us,h1,h2⟩:=q.snt
 exact ⟨q.st.keep e,e _ _ q.ins,e _ _ q.rws,⟨us,e _ _ h1,Paired.mapP h2 λ_ _ z=>z.keep e.ts⟩,q.lat.imp id λz=>z.keep e.ts,q.n1,q.n2,q.n3,q.n4,q.n5⟩
theorem ShA.own(q:ShA CS CH K H A h d rs ws v){b:Addr}(hb:b∈h.own A):∃o,H b=some o/\∀xs,o≠.tup xs:=by
 simp only [Ah.own,List.mem_cons] at hb
 rcases hb with z | z | z | z
 ·subst z;exact ⟨_,q.ins,λxs e=>by cases e⟩
 ·subst z;exact ⟨_,q.rws,λxs e=>by cases e⟩
 ·subst z;obtain ⟨us,e,_⟩:=q.snt;exact ⟨_,e,λxs e=>by cases e⟩
 ·obtain ⟨us,stu⟩:=q.st
  obtain ⟨o,e,n,_⟩:=stu.own z
  exact ⟨o,e,n⟩
theorem ShA.ts(q:ShA CS CH K H A h d rs ws v)(k:KpH A h H H'):bh H H':=λb xs e=>k b _ (λhb=>by
 obtain ⟨o,e1,n⟩:=q.own hb
 rw [e] at e1
 cases e1
 exact n xs rfl) e
end
section
variable (CS CH:Addr)(K:Frag)
def p9:Sp:=λvs H Q _=>∃l dx A d,vs=[.ref l,.ref A.l]/\H l=some (.ins CH dx [])/\St CS K H A d/\A.l≠l/\∀h H',h.l=l->ShA CS CH K H' A h d [] [] .non->H h.rw=none->H h.sn=none->Kp l H H'->Q .non H'
def jq:Sp:=λvs H Q _=>∃A h d rs ws v x,vs=[.ref h.l,.int x.1,.str x.2.1,.ref x.2.2.1,.ref x.2.2.2]/\ShA CS CH K H A h d rs ws v/\ws.length<=900 /\
 ∀H',ShA CS CH K H' A h d rs (ws++[x]) v->KpH A h H H'->Q .non H'
def lO:Sp:=λvs H Q _=>∃A h d rs ws v,vs=[.ref h.l]/\ShA CS CH K H A h d rs ws v/\∀p H',Same H H'->H p=none->H' p=some (.lst (rs.map V.ref))->Q (.ref p) H'
end
end Lo
namespace L2
open PySem PySem.Spec PyProof.Rows PySem.W Lo
end L2
namespace HT
open PySem PyProof.Rows
section
open PySem.SeqAt
open PySem.AutoSeq1 (wpAny_loadPart')
open PySem.MeetsSeq PySem.MeetsSeq2 PySem.MeetsSeq3
end
end HT
namespace L2
open PySem PySem.Spec PyProof.Rows PySem.W Lo
end L2
namespace L2
open PySem PySem.Spec PyProof.Rows PySem.W Lo
end L2
namespace L2
open PySem PySem.Spec PyProof.Rows PySem.W Lo
end L2
namespace L2
open PySem PySem.Spec PyProof.Rows PySem.W Lo
end L2
namespace L2
open PySem PySem.Spec PyProof.Rows Lo
end L2
namespace L2
open PySem PySem.Spec PyProof.Rows Lo
section
variable {X:Cx}{k:Nat}{f C:Addr}{fd:FuncData}{ps:List Str}{sp:Sp}{m:Str}{o e:Expr}{es:List Expr}{ta:TE}{t:TA}{pos apos:Pos}
def zz(C:Addr)(m:Str)(sp:Sp)(ta:TE)(t:TA):TX:=fun σ H Q E=>ta σ H λx H1=>∃a dx fs,x=.ref a/\H1 a=some (.ins C dx fs)/\fs.lookup m=none/\t σ H1 λvs H2=>sp (x::vs) H2 Q E
theorem tT{pl:Sem Bool}(ho:PE X.nox o ta)(c:Cls X.K C)(hm:gE X.K C m f)(F:FnOk X.prog X.w X.K X.mg X.base (CXE X.prog X.w) k f fd ps sp)(hr:Room k X.A)(hb:Binds X.K fd ps [])(ha:PA X.nox (e::es) t)
  (hst:starEach (e::es) X.env=(false,eval e X.env)::starEach es X.env:=by rfl)(hpl:(backTo pos (starEach es X.env)).any (·.1)=false:=by rfl)
  (ht:eval (.Call (.Attribute o m apos) (e::es) [] pos) X.env=(do
   let ov ← eval o X.env
   standAt apos.atName
   let (f,first) ← holding [ov] (getMethod ov m pl)
   callWith pos f first (backTo pos (starEach (e::es) X.env)) (backToKw pos (keywordEach [] X.env))):=by rfl) :
  PEX X (.Call (.Attribute o m apos) (e::es) [] pos) (zz C m sp ta t):=by
 intro pins s σ H Q E I h
 refine PySem.W.methodCall_KW (pl:=pl) (nox (ho pins s σ H _ (I.wish _) h) λu s1 ⟨x,H1,I1,rx,a,dx,fs,ex,ea,l,q⟩=>?_) ht
 subst ex
 obtain rfl:u=Value.ref a:=rx
 refine g7 I1.unwish ea c hm l ?_
 refine PySem.W.callWith_K (first:=[.ref a]) (h₀:=X.base) I.ok.mod.kin hm.kp (nox (ha pos pins s1 σ H1 _ I1 q) λus s2 ⟨vs,H2,I2,r,q2⟩=>⟨I2.unwish.kIn,?_⟩) hst hpl
 exact v9 (us:=.ref a::us) (vs:=.ref a::vs) (dvs:=[]) (ds:=[]) F hr hb .nil I2.unwish (.cons rfl r) (by rw [List.append_nil];exact q2)
end
end L2
namespace L2
open PySem PySem.Spec PyProof.Rows
section
variable {X:Cx}{a b o e:Expr}{tx:TX}{tb to:TE}{pos apos cpos:Pos}{name:Str}{T id:String}{r:V->List V->Hp->VK->Prop}
theorem yq{ι:Type}{t:ι->TX}(h:∀i,PEX X e (t i)):PEX X e (fun σ H Q E=>∃i,t i σ H Q E):=λpins s σ H Q E I ⟨i,q⟩=>h i pins s σ H Q E I q
theorem yp{r:R2}(hr:IxR X.nox r)(ha:PEX X a tx)(hb:PE X.nox b tb)(hs:qI b):PEX X (.Subscript a b pos) (fun σ H Q E=>tx σ H (λx H1=>tb σ H1 λy H2=>r x y H2 Q) E):=by
 intro pins s σ H Q E I h
 exact Subscript_ (wpAny_mono (ha pins s σ H _ _ I h) (λv s1 ⟨x,H1,I1,r1,q1⟩=>nox (hb pins s1 σ H1 _ (I1.wish _) q1) λu s2 ⟨y,H2,I2,r2,q2⟩=>nox (hr a b pins s2 σ H2 x y v u _ I2 r1 r2 q2 (hs _ _)) λw s3 ⟨z,H3,I3,r3,q3⟩=>⟨z,H3,I3.unwish,r3,q3⟩) λ_ _ z=>z)
theorem yr(pa:PlainAttrs T)(slot:Slot T name id)(hty:typeOf (.builtin id)=pure (.type "method_descriptor"))(hm:MtR X.nox id r)(ho:PE X.nox o to)(he:PEX X e tx)
  (hbase:attributeBase o name X.env (eval o X.env)=eval o X.env:=by rfl)
  (hfew:((backTo cpos (starEach [e] X.env)).all (λx=>!x.1)&&(backToKw cpos (keywordEach [] X.env)).all (λx=>x.1.isSome)
   && decide (([e]:List Expr).length+([]:List Keyword).length+(if ([]:List Keyword).isEmpty then 0 else 1)<30))=true:=by rfl)
  (hline:(apos.endLine==cpos.line)=true:=by rfl) (hs:starEach [e] X.env=(false,eval e X.env)::starEach [] X.env:=by rfl) (hplain:(backTo cpos (starEach [] X.env)).any (·.1)=false:=by rfl) :
  PEX X (.Call (.Attribute o name apos) [e] [] cpos) (fun σ H Q E=>to σ H λx H1=>tyV X.K T x H1/\tx σ H1 (λv H2=>r x [v] H2 Q) E):=by
 intro pins s σ H Q E I h
 refine wpAny_Call_method_late hbase hfew hline rfl (nox (ho pins s σ H _ (I.wish _) h) λv s1 ⟨x,H1,I1,r1,ty,q1⟩=>?_)
 obtain ⟨h1,h2⟩:=oF I1 r1 ty
 refine ⟨T,id,pa,slot,hty,h1,h2,?_⟩
 rw [hs]
 refine Calls.callWith_builtin (by show (false||(backTo cpos (starEach [] X.env)).any (·.1))=false;rw [hplain]<;>rfl) (Calls.evalArgs_plain ?_)
 show wpAny _ _ (spliced ((false,eval e X.env)::backTo cpos (starEach [] X.env))) _ _ _
 refine Calls.spliced_cons (wpAny_mono (he pins s1 σ H1 _ _ I1.unwish q1) (λu s2 ⟨y,H2,I2,r2,q2⟩=>?_) λ_ _ z=>z)
 refine nox ((ad (X:=X.nox)) cpos pins s2 σ H2 (λxs H3=>xs=[]/\H3=H2) (I2.wish _) ⟨rfl,rfl⟩) λus s3 ⟨xs,H3,I3,r3,e1,e2⟩=>?_
 subst e1 e2
 cases r3
 exact nox (hm pins s3 σ _ x [y] v [u] _ I3 r1 (.cons r2 .nil) q2) λw s4 ⟨z,H4,I4,r4,q4⟩=>⟨z,H4,I4.unwish,r4,q4⟩
end
section
variable {X:Cx}{e:Expr}{t:TX}{C CB:Addr}{cx:Str}{np hpos pos apos:Pos}{b₀:Stmt}{suite:List Stmt}{th:TS}
theorem ph(hst:X.stack=X.env::X.outer)(fr:X.env.frame=some X.env.locals)(hex:X.ex=[])(he:PEX X e t)(hg:Gl X cx)(hm:X.mg cx=some (.ref CB))(tk:oB X C CB)
  (hs:∀ev,PSs (X.hnd ev) (b₀::suite) th)(hd:(cx==("__debug__":Str))=false:=by decide)(hsw:swapsWith e none apos.line X.env=pure false:=by rfl) :
  PS X (.Try [.Expr e apos] [.ExceptHandler (some (.Name cx np)) none (b₀::suite) hpos] [] [] pos) (ss C t th):=by
 intro pins s σ H D I h
 refine wpAny_Try_except (wpAny_execs_cons (wpAny_mono (wpAny_Expr_any (Q:=λf s1=>f=.next/\SP X pins D .next s1) (wpAny_mono (he pins s σ H _ _ I h) (λv s1 ⟨y1,H1,I1,r1,q1⟩=>⟨rfl,σ,H1,I1,q1⟩) λev s1 hx=>?_) I.quiet hsw) (λf s1 hq=>?_) λ_ _ z=>z))
 ·obtain ⟨s0,H0,ea,C',H',I0,rfl,I',fl,ea2,e2,rfl',q⟩:=hx
  cases e2
  obtain rfl:C'=C:=Δ rfl'
  exact xA I0 I' hst fr hex fl hg hm tk hs q hd
 ·obtain ⟨rfl,hq⟩:=hq
  exact wpAny_execs_nil (wpAny_execs_nil hq)
end
end L2
namespace L2
open PySem PySem.Spec PyProof.Rows PySem.W PySem.Calls
theorem pH:typeLookup (.type "list_reverseiterator") "__len__"=pure none:=by rw [typeLookup_type,builtinLookup_eq_fast];kernel_rfl
theorem uO:typeLookup (.type "list_reverseiterator") "__length_hint__"=pure (some (.builtin "list_reverseiterator.__length_hint__")):=by rw [typeLookup_type,builtinLookup_eq_fast];kernel_rfl
section
variable {prog:Program}{w:World}{A:Around}{E:Value->Shared->Prop}{s:Shared}{r:Addr}
theorem uU{Q:Bool->Shared->Prop}(hT:s.TypeIs (.ref r) "list_reverseiterator")(h:Q false s):wpAny (model prog w) A (Builtin.List.listLengthHint (.ref r)) Q E s:=by
 unfold Builtin.List.listLengthHint
 refine ε (wpAny_specialOf hT pH ?_)
 show wpAny _ A (specialOf (Value.ref r) (Str.ofString "__length_hint__") >>= _) _ _ _
 refine ε (wpAny_specialOf hT uO ?_)
 generalize hid:("list_reverseiterator.__length_hint__":String)=id0
 wp_delta
 rw [show splitId id0=some ("list_reverseiterator","__length_hint__") from by subst hid;decide +kernel]
 subst hid
 refine ε (wpAny_isInstance (T:="list_reverseiterator") (b:=true) hT (by rw [isSubtype_type];kernel_rfl) ?_)
 refine wpAny_ite_split (λhab=>absurd hab ζ) (λ_=>?_)
 refine wpAny_ite_split (λ_=>?_) (λhab=>absurd θ hab)
 refine wpAny_ite_split (λhab=>absurd hab θ) (λ_=>?_)
 exact π h
variable {R:Result->Shared->Prop}{I:Addr}{fp wr:List Addr}{G:Array GenState->Array GenState->Prop}{n:Nat}{P:Nat->Value->Prop}{St:Nat->Shared->Prop}
theorem pN(W:WalksS prog w A.in1 I fp wr G n P St)(hT:∀i s,St i s->s.TypeIs (.ref I) "list_reverseiterator")(S:Addr)(res:Value)(c₀:Nat)(hst:St 0 s)(hSf:S∉fp)(hI:I∈fp)
  (hS:s.heap.get? S=some {cls:=.type "list",data:=.seq #[] c₀})
  (hR:∀s' acc' c',Moved (S::wr) G s s'->s'.heap.get? S=some {cls:=.type "list",dict:=none,data:=.seq acc' c',slots:=#[]}->ItemsOf P acc' n->R (.ok (.ret res)) s')(hn:n<=sizeLine) :
  wpAny (model prog w) A.in1 (Builtin.List.listExtendWith (.ref S) (.ref I) res)
   (λfin s'=>match fin with | .done f=>R (.ok f) s' | .again c'=>c'.quiet=true/\codeAny (model prog w) A c' R s') (λe s'=>R (.error e) s') s:=by
 have hSI:S≠I:=λe=>hSf (e▸hI)
 unfold Builtin.List.listExtendWith
 refine ε (wpAny_typeOf (hT 0 _ hst) ?_)
 have h1:Builtin.List.listSameRef (.ref S) (.ref I)=false:=by simp [Builtin.List.listSameRef,hSI]
 have h2:(Value.type "list_reverseiterator"==Value.type "list")=false:=by decide
 have h3:(Value.type "list_reverseiterator"==Value.type "tuple")=false:=by decide
 simp only [h1,h2,h3,Bool.or_false,Bool.false_eq_true,if_false]
 refine ε (W.self 0 _ _ _ hst ?_)
 refine ε (wpAny_holding (uU (hT 0 _ hst) ?_))
 refine wpAny_ite_split (λhab=>absurd hab θ) (λ_=>?_)
 exact π ⟨plainId_quiet PySem.F.plain_extend_loop _,codeAny_extend_loopS W hn _ hSf _ n 0 _ _ _ rfl (Nat.zero_le _) hst hS (ItemsOf.nil P) λs' acc' c' hm hS' hacc=>hR s' acc' c' hm hS' hacc⟩
theorem kB(W:WalksS prog w A.in1 I fp wr G n P St)(hT:∀i s,St i s->s.TypeIs (.ref I) "list_reverseiterator")(S:Addr)(hst:St 0 s)(hSf:S∉fp)(hI:I∈fp)
  (hS:s.heap.get? S=some {cls:=.type "list",data:=.seq #[]})
  (hR:∀s' acc' c',Moved (S::wr) G s s'->s'.heap.get? S=some {cls:=.type "list",dict:=none,data:=.seq acc' c',slots:=#[]}->ItemsOf P acc' n->R (.ok (.ret .none)) s')(hn:n<=sizeLine) :
  wpAny (model prog w) A.in1 (Builtin.«list.__init__» ⟨[.ref S, .ref I], []⟩)
   (λfin s'=>match fin with | .done f=>R (.ok f) s' | .again c'=>c'.quiet=true/\codeAny (model prog w) A c' R s') (λe s'=>R (.error e) s') s:=by
 show wpAny _ A.in1 (do let old ← Builtin.List.listItems (.ref S);Builtin.List.listUpdate (.ref S) (λ_=>#[]);letGo old.toList.reverse;Builtin.List.listExtendWith (.ref S) (.ref I) .none) _ _ s
 refine ε ?_
 unfold Builtin.List.listItems
 refine ε (wpAny_seqItems hS rfl (π ?_))
 show wpAny _ A.in1 (updateSeq S (λ_=>#[]) >>= λ_=>letGo (#[]:Array Value).toList.reverse >>= λ_=>Builtin.List.listExtendWith (.ref S) (.ref I) .none) _ _ s
 refine ε (wpAny_updateSeq hS rfl ?_)
 have hS₂:=Heap.get?_update_self (Obj.mapSeq (λ_=>(#[]:Array Value))) hS rfl
 have oth:∀b o,b≠S->s.heap.get? b=some o->(s.heap.update S (Obj.mapSeq (λ_=>(#[]:Array Value)))).get? b=some o :=
  λb o hb e=>(Heap.get?_update_other _ _ (Ne.symm hb)).trans e
 refine ε (wpAny_letGo ?_)
 refine pN (hn:=hn) W hT S .none _ (W.frame 0 s _ s.toks hst (ι _) λb hb o e=>oth b o (λh=>hSf (h▸hb)) e) hSf hI hS₂ λs' acc' c' hm hS' hacc=>?_
 exact hR s' acc' c' (Moved.trans W.gtrans ((Moved.refl W.grefl).then_heap (ι _) λb o hb e=>oth b o (λh=>hb (h▸Ω)) e) hm) hS' hacc
theorem kH{Q:Value->Shared->Prop}(W:WalksS prog w A.in1.in1 I fp wr G n P St)(hT:∀i s,St i s->s.TypeIs (.ref I) "list_reverseiterator")(hst:St 0 s)(hfp:∀b∈fp,b<s.heap.objs.size)(hI:I∈fp)
  (hQ:∀s' acc' c',Moved (s.heap.objs.size::wr) G {s with heap:=s.heap.push {cls:=.type "list",data:=.seq #[]}} s' ->
   s'.heap.get? s.heap.objs.size=some {cls:=.type "list",dict:=none,data:=.seq acc' c',slots:=#[]}->ItemsOf P acc' n->Q (.ref s.heap.objs.size) s') (hn:n<=sizeLine) :
  wpAny (model prog w) A (call (.type "list") [.ref I]) Q E s:=by
 have hSf:s.heap.objs.size∉fp:=λhm=>Nat.lt_irrefl _ (hfp _ hm)
 refine callType_codes (Q₁:=λobj s₁=>obj=.ref s.heap.objs.size/\s₁={s with heap:=s.heap.push {cls:=.type "list",data:=.seq #[]}}) PySem.F.called_list (PySem.F.typeCall_list_1 _) PySem.F.entry_list_init
  (code_list_new _ ⟨rfl,rfl⟩) λobj s₁ h₁=>?_
 obtain ⟨rfl,rfl⟩:=h₁
 have hS:(s.heap.push {cls:=.type "list",data:=.seq #[]}).get? s.heap.objs.size=some {cls:=.type "list",data:=.seq #[]}:=ψ _ rfl
 refine ⟨⟨_,hS,rfl⟩,PySem.F.args_list_init_2 _ _,kB (hn:=hn) W hT _ (W.frame 0 s _ s.toks hst (ι _) λb _ o e=>ρ _ e) hSf hI hS λs' acc' c' hm hS' hacc=>?_⟩
 exact ⟨rfl,hQ s' acc' c' hm hS' hacc⟩
end
theorem jQ{α β:Type}{R:α->β->Prop}:∀{xs:List α} {us:List β},us.length=xs.length->(∀(j:Nat) x u,xs[j]?=some x->us[j]?=some u->R x u)->Paired R xs us
 | [],[],_,_=>.nil
 | x::xs,u::us,hl,h=>.cons (h 0 x u rfl rfl) (jQ (by simpa using hl) λj y v e1 e2=>h (j+1) y v (by simpa using e1) (by simpa using e2))
 | [],_::_,hl,_=>by cases hl
 | _::_,[],hl,_=>by cases hl
section
variable {X:Cx}
def zK(K:Frag)(ta:TA):TE:=fun σ H Q=>ta σ H λvs H1=>∃a xs,vs=[.ref a]/\SqL K H1 a xs/\∀p,H1 p=none->Q (.ref p) (upd H1 p (.lst xs.reverse))
theorem pi{a:Expr}{ta:TA}{p1 p2 pos1 pos2:Pos}(hc:X.calm=true)(hgL:Gl X "list")(hmL:X.mg "list"=none)(hg:Gl X "reversed")(hm:X.mg "reversed"=none)(ha:PA X [a] ta)(hs:starEach [a] X.env=[(false,eval a X.env)]:=by rfl) :
  PE X (.Call (.Name "list" p1) [.Call (.Name "reversed" p2) [a] [] pos2] [] pos1) (zK X.K ta):=by
 intro pins s σ H Q I h
 refine Call_ (gZ I hgL hmL boot_list (PyProof.Rows.callWith_type1 ?_ rfl rfl))
 show wpAny _ _ (spliced ((false,eval (.Call (.Name "reversed" p2) [a] [] pos2) X.env)::backTo pos1 (starEach [] X.env))) _ _ s
 refine Calls.spliced_cons (Call_ (gZ I hg hm boot_reversed (PyProof.Rows.callWith_type1 (thn (ha pos2 pins s σ H _ I h) λus s1 ⟨vs,H1,I1,r1,q1⟩=>?_) hs rfl)))
 obtain ⟨l,xs,e,hq,q⟩:=q1
 subst e
 obtain ⟨u,rfl,ru⟩:=r1.one
 cases ru
 obtain ⟨its,rv,pl,hz⟩:=I1.list hq
 refine call_reversed_list pl.isList ?_
 have kp1:∀b o,s1.heap.get? b=some o->(s1.heap.push (revObj l (((its.toArray).size:Int)-1))).get? b=some o:=λb o e=>ρ _ e
 have I2:Inv X pins σ H1 {s1 with heap:=s1.heap.push (revObj l (((its.toArray).size:Int)-1))}:=I1.kept (t':=s1.toks) kp1
 have hlt:l<s1.heap.objs.size:=by
  obtain ⟨o,e,_⟩:=pl.isList
  exact η e
 have hne:l≠s1.heap.objs.size:=Φ hlt
 have hh:X.A.in1.in1.handled=none:=I1.ok.hd hc
 have W:=(Walks.listRev (prog:=X.prog) (w:=X.w) hh s1.heap.objs.size l hne its.toArray).toS
 show wpAny _ _ (pure []:Sem (List Value)) _ _ _
 refine π ?_
 have hsz:its.toArray.size=xs.length:=by rw [List.size_toArray];exact rv.length.symm
 refine kH W (λi s z=>z.2.1.typeIs) ⟨Nat.zero_le _,?_,pl.isList.at λo e=>kp1 _ _ e⟩ (λb hb=>?_) (by simp) (λs' acc c hm hS' hacc=>?_) (by rw [hsz];exact hz)
 ·refine ⟨_,ψ _ rfl,rfl,?_⟩
  have e:(((its.toArray).size:Int)-1)=(((its.toArray).size:Int)-1-((0:Nat):Int)):=by omega
  exact congrArg (λz=>Data.fields #[.ref l,rawInt z]) e
 ·have e:(s1.heap.push (revObj l (((its.toArray).size:Int)-1))).objs.size=s1.heap.objs.size+1:=Heap.size_push _ _
  simp only [List.mem_cons,List.not_mem_nil,or_false] at hb
  show b<(s1.heap.push (revObj l (((its.toArray).size:Int)-1))).objs.size
  rw [e]
  rcases hb with rfl | rfl
  ·exact Nat.lt_succ_self _
  ·exact Nat.lt_succ_of_lt hlt
 ·rw [Moved.eq_with hm]
  have e:(s1.heap.push (revObj l (((its.toArray).size:Int)-1))).objs.size=s1.heap.objs.size+1:=Heap.size_push _ _
  have hp:s1.heap.objs.size<=(s1.heap.push (revObj l (((its.toArray).size:Int)-1))).objs.size:=by rw [e];omega
  refine ⟨.ref (s1.heap.push (revObj l (((its.toArray).size:Int)-1))).objs.size,_,I1.laid (t':=s'.toks) (λb o eb=>hm.heap b o (λhb=>?_) (Heap.get?_push_of_some _ (kp1 _ _ eb))) hp (show ObjOk X.prog X.w _ s'.heap _ (.lst xs.reverse) from ⟨by rw [List.length_reverse];exact hz,acc.toList,c,?_,by simpa using hS'⟩),rfl,q _ (I1.hok.fresh hp)⟩
  ·have lb:=η eb
   simp only [List.mem_cons,List.not_mem_nil,or_false] at hb
   rcases hb with rfl | rfl
   ·exact Nat.lt_irrefl _ (Nat.lt_of_lt_of_le lb hp)
   ·exact Nat.lt_irrefl _ lb
  ·have ha:acc.size=its.toArray.size:=hacc.1
   refine jQ (by rw [Array.length_toList,ha,hsz,List.length_reverse]) λj x u e1 e2=>?_
   have hj:=(List.getElem?_eq_some_iff.mp e1).1
   rw [List.length_reverse] at hj
   have e3:=hacc.2 j u (by rw [← Array.getElem?_toList];exact e2)
   rw [List.getElem?_reverse hj] at e1
   obtain ⟨u',hu',ru'⟩:=rv.get e1
   rw [hsz] at e3
   have e4:its[xs.length-1-j]?=some u:=by simpa using e3
   rw [hu'] at e4
   cases e4
   exact ru'
end
end L2
namespace L2
open PySem PySem.Spec PyProof.Rows PySem.W
theorem mF{X:Cx}(hc:X.calm=true):dY X (.builtin "sorted") (λxs H Q=>∃v d,xs=[.ref v]/\H v=some (Vw v d)/\H d=some (.dT [])/\∀l,H l=none->Q (.ref l) (upd H l (.lst []))):=by
 intro pins s σ H xs us Q I r h
 obtain ⟨v,d,rfl,hv,hd,q⟩:=h
 obtain ⟨u,rfl,rx⟩:=cR r
 cases (show u=Value.ref v from rx)
 obtain ⟨hw,_⟩:=(show ObjOk X.prog X.w H s.heap v (Vw v d) from I.hok v _ hv)
 obtain ⟨z,_,xs,rel,o,en,ep,h1,h2,h3,h4,h5⟩:=(show ObjOk X.prog X.w H s.heap d (.dT _) from I.hok d _ hd)
 cases rel
 cases (show en=#[] from Array.toList_inj.mp h4)
 refine Calls.call_function_entry kind_sorted plain_sorted entry_sorted (args_sorted1 _) ?_
 unfold Builtin.«sorted»
 refine ε (m:=checkCount "sorted" 1 1 _) (π (ε (kdx_collect (A:=X.A.in1) (knd:=intKind X.prog X.w) (kvs:=[]) (I.ok.hd hc) hw ⟨o,#[],h1,h2,h3,?_,?_,List.nodup_nil⟩ (Nat.zero_le _) λh' tk as k' la _=>?_)))
 ·intro e he
  simp at he
 ·exact .nil
 obtain rfl:as=[]:=List.length_eq_zero_iff.mp la
 have I1:Inv X pins σ H {s with heap:=h',toks:=tk}:=I.kept (t':=tk) k'
 show wpAny _ X.A.in1 (newList [] >>= λl=>holding [l] (call (.builtin "list.sort") [l] []) >>= λ_=>ret l) _ _ _
 refine ε (wpAny_newList ?_ (Nat.zero_le _))
 have oL:(h'.push (seqObj "list" #[] 0)).get? h'.objs.size=some (seqObj "list" #[] 0):=ψ _ rfl
 refine ε (wpAny_holding (wpAny_call_entry slot_list_sort ⟨_,oL,rfl⟩ entry_list_sort ?_ (args_list_sort _)))
 obtain ⟨c1,o1⟩:∃c,((h'.push (seqObj "list" #[] 0)).update h'.objs.size (Obj.mapSeq λ_=>(#[]:Array Value))).get? h'.objs.size=some (seqObj "list" #[] c):=⟨_,get?_update_seq oL λ_=>#[]⟩
 rw [list_sort_plain]
 refine ε (listItems_at oL rfl (ε (listUpdate_at oL rfl ?_ (Nat.zero_le _) (Nat.zero_le _))))
 refine ε (seqEpoch_at o1 rfl (ε (wpAny_newTuple ?_ (Nat.zero_le _))))
 refine ε (wpAny_newList (wpAny_holding ?_) (Nat.zero_le _))
 dsimp only
 rw [if_pos ζ,if_pos ζ]
 refine ε (π (ε (π ?_)))
 have o2:=ρ (seqObj "list" #[] 0) (ρ (seqObj "tuple" #[] 0) o1)
 refine ε (seqEpoch_at o2 rfl ?_)
 have ez:(arrOf (SortSt.mk' general' ((#[]:Array Value).zip #[]) #[] 7 none)).map (·.2)=#[]:=by
  show ((#[]:Array Value).zip #[]).map (·.2)=#[]
  simp
 rw [ez]
 refine ε (listUpdate_at o2 rfl ?_ (Nat.zero_le _) (Nat.zero_le _))
 simp only [bne_self_eq_false,Bool.false_eq_true,if_false]
 obtain ⟨c2,o3⟩:∃c,(((((h'.push (seqObj "list" #[] 0)).update h'.objs.size (Obj.mapSeq λ_=>(#[]:Array Value))).push (seqObj "tuple" #[] 0)).push (seqObj "list" #[] 0)).update h'.objs.size (Obj.mapSeq λ_=>(#[]:Array Value))).get? h'.objs.size=some (seqObj "list" #[] c):=⟨_,get?_update_seq o2 λ_=>#[]⟩
 refine π ⟨_,rfl,π ⟨_,rfl,.ref h'.objs.size,_,I1.laid (a:=h'.objs.size) (o:=.lst []) (t':=tk) (λb o e=>?_) (ι _) ⟨Nat.zero_le _,[],c2,.nil,o3⟩,rfl,q _ (I1.hok.fresh (ι _))⟩⟩
 have ne:h'.objs.size≠b:=Nat.ne_of_gt (η e)
 exact (Heap.get?_update_other _ _ ne).trans (ρ _ (ρ _ ((Heap.get?_update_other _ _ ne).trans (ρ _ e))))
end L2
namespace K45
open PySem L2 Lo
def top(i:Nat):Stmt:=PySem.Challenge.pw_pactroom_k45_undone_from_the_last.main.body.getD i (.Pass ⟨0,0,0,0⟩)
abbrev jM:Stmt:=top 15
abbrev qf:Stmt:=top 16
abbrev ib:Stmt:=top 17
abbrev kQ:Stmt:=top 18
abbrev gH:Stmt:=inClass (top 19) 0
abbrev fm:Stmt:=inClass (top 19) 1
abbrev dX:Stmt:=inClass (top 19) 2
abbrev dm:Stmt:=inClass (top 19) 4
abbrev c9:Stmt:=inClass (top 19) 5
abbrev dk:Stmt:=inClass (top 19) 6
abbrev eW:Stmt:=inClass (top 23) 0
abbrev fV:Stmt:=inClass (top 23) 4
abbrev di:Stmt:=inClass (top 24) 0
abbrev cX:Stmt:=inClass (top 24) 1
abbrev fU:Stmt:=inClass (top 25) 1
abbrev cw:Stmt:=inClass (top 25) 2
abbrev f6:Stmt:=inClass (top 26) 1
abbrev cB:Stmt:=inClass (top 26) 2
abbrev dF:Stmt:=inClass (top 27) 0
abbrev db:Stmt:=inClass (top 27) 1
abbrev gC:Stmt:=inClass (top 27) 3
abbrev cJ:Stmt:=inClass (top 27) 4
abbrev f9:Stmt:=inClass (top 28) 1
abbrev dh:Stmt:=inClass (top 28) 2
abbrev cC:Stmt:=inClass (top 28) 3
abbrev dH:Stmt:=inClass (top 29) 0
abbrev gD:Stmt:=inClass (top 29) 2
abbrev cN:Stmt:=inClass (top 29) 4
abbrev df:Stmt:=inClass (top 30) 0
abbrev ci:Stmt:=inClass (top 30) 1
abbrev cz:Stmt:=inClass (top 30) 2
abbrev dg:Stmt:=inClass (top 31) 0
abbrev cj:Stmt:=inClass (top 31) 1
abbrev cA:Stmt:=inClass (top 31) 2
abbrev h9:Stmt:=top 32
abbrev cY:Stmt:=top 33
abbrev d9:Stmt:=top 34
abbrev fF:Stmt:=top 35
abbrev gQ:Stmt:=top 36
abbrev fY:Stmt:=inClass (top 40) 0
abbrev cZ:Stmt:=top 41
abbrev fE:Stmt:=top 42
abbrev c8:Stmt:=top 43
abbrev iI:Stmt:=top 44
abbrev f8:Stmt:=inClass (top 47) 0
abbrev iQ:Stmt:=inClass (top 47) 1
abbrev f7:Stmt:=inClass (top 47) 2
abbrev gY:Stmt:=inClass (top 47) 3
abbrev eC:Stmt:=inClass (top 47) 8
abbrev bZ:Stmt:=inClass (top 47) 9
abbrev cL:Stmt:=inClass (top 47) 10
abbrev cq:Stmt:=inClass (top 47) 11
abbrev cV:Stmt:=inClass (top 47) 12
abbrev cW:Stmt:=inClass (top 47) 13
abbrev bx:Stmt:=inClass (top 48) 0
abbrev bY:Stmt:=inClass (top 48) 1
abbrev cI:Stmt:=inClass (top 48) 2
abbrev bM:Stmt:=inClass (top 48) 3
abbrev bO:Stmt:=inClass (top 48) 4
abbrev bE:Stmt:=inClass (top 48) 5
abbrev bU:Stmt:=inClass (top 48) 6
abbrev bT:Stmt:=inClass (top 48) 9
abbrev o6:Stmt:=top 49
abbrev fh:Stmt:=inClass (top 51) 0
abbrev fX:Stmt:=inClass (top 51) 1
abbrev fg:Stmt:=inClass (top 51) 2
abbrev cK:Stmt:=inClass (top 51) 3
abbrev be:Stmt:=inClass (top 51) 4
abbrev fe:Stmt:=inClass (top 53) 0
abbrev fb:Stmt:=inClass (top 53) 1
abbrev cy:Stmt:=inClass (top 53) 2
abbrev eX:Stmt:=inClass (top 53) 6
abbrev dy:Stmt:=top 55
abbrev eB:Stmt:=top 56
abbrev fH:Stmt:=top 57
abbrev eP:Stmt:=top 58
abbrev fJ:Stmt:=top 59
abbrev eQ:Stmt:=top 60
abbrev dw:Stmt:=top 61
abbrev fL:Stmt:=top 62
abbrev gR:Stmt:=top 63
abbrev fK:Stmt:=top 64
abbrev nB:Stmt:=top 65
theorem ko:al ["self"] ["self"] (defScope eW):=⟨rfl,rfl,rfl,θ,rfl,θ,θ⟩
theorem l8:al ["self"] ["self"] (defScope fV):=⟨rfl,rfl,rfl,θ,rfl,θ,θ⟩
theorem iH:al ["self","where","cell"] ["self","where","cell"] (defScope di):=⟨rfl,rfl,rfl,θ,rfl,θ,θ⟩
theorem hZ:al ["self"] ["self"] (defScope cX):=⟨rfl,rfl,rfl,θ,rfl,θ,θ⟩
theorem gw:al ["self"] ["self"] (defScope cw):=⟨rfl,rfl,rfl,θ,rfl,θ,θ⟩
theorem gA:al ["self"] ["self"] (defScope cB):=⟨rfl,rfl,rfl,θ,rfl,θ,θ⟩
theorem je:al ["self","where","low","high"] ["self","where","low","high"] (defScope dF):=⟨rfl,rfl,rfl,θ,rfl,θ,θ⟩
theorem iD:al ["self"] ["self"] (defScope db):=⟨rfl,rfl,rfl,θ,rfl,θ,θ⟩
theorem gM:al ["self"] ["self"] (defScope cJ):=⟨rfl,rfl,rfl,θ,rfl,θ,θ⟩
theorem iG:al ["self"] ["self"] (defScope dh):=⟨rfl,rfl,rfl,θ,rfl,θ,θ⟩
theorem gB:al ["self"] ["self"] (defScope cC):=⟨rfl,rfl,rfl,θ,rfl,θ,θ⟩
theorem jf:al ["self","where","cell","amount"] ["self","where","cell","amount"] (defScope dH):=⟨rfl,rfl,rfl,θ,rfl,θ,θ⟩
theorem gP:al ["self"] ["self"] (defScope cN):=⟨rfl,rfl,rfl,θ,rfl,θ,θ⟩
theorem iE:al ["self","amount"] ["self","amount"] (defScope df):=⟨rfl,rfl,rfl,θ,rfl,θ,θ⟩
theorem ft:al ["self","hand","value_of"] ["self","hand","value_of"] (defScope ci):=⟨rfl,rfl,rfl,θ,rfl,θ,θ⟩
theorem gy:al ["self"] ["self"] (defScope cz):=⟨rfl,rfl,rfl,θ,rfl,θ,θ⟩
theorem iF:al ["self","amount"] ["self","amount"] (defScope dg):=⟨rfl,rfl,rfl,θ,rfl,θ,θ⟩
theorem fu:al ["self","hand","value_of"] ["self","hand","value_of"] (defScope cj):=⟨rfl,rfl,rfl,θ,rfl,θ,θ⟩
theorem gz:al ["self"] ["self"] (defScope cA):=⟨rfl,rfl,rfl,θ,rfl,θ,θ⟩
theorem sZ:al ["word","numbers"] ["word","numbers"] (defScope h9):=⟨rfl,rfl,rfl,θ,rfl,θ,θ⟩
def pR:Scope:=match defBody h9 with
 | .Return (some (.Call _ [(.BinOp _ _ (.ListComp _ _ sc _) _)] _ _)) _::_=>sc
 | _=>default
theorem oZ:bV ["word","numbers"] (defScope h9) pR "number" ["number"] []:=⟨θ,rfl,θ,rfl,θ,θ,rfl,rfl,λj h=>absurd h (Nat.not_lt_zero j)⟩
theorem sc_read_step:al ["text","words","shape"] ["text"] (defScope cY):=⟨rfl,rfl,rfl,θ,rfl,θ,θ⟩
def kh:Scope:=match defBody cY with
 | _::_::_::.Return (some (.Call _ [_,.ListComp _ _ sc _] _ _)) _::_=>sc
 | _=>default
theorem jJ:bV ["text","words","shape"] (defScope cY) kh "k" ["k","words","shape"] [1,2]:=⟨θ,rfl,θ,rfl,θ,θ,rfl,rfl,θ⟩
theorem sc_read_number:al ["word","letter","number"] ["word","letter"] (defScope d9):=⟨rfl,rfl,rfl,θ,rfl,θ,θ⟩
theorem lY:al ["word","numbers"] ["word","numbers"] (defScope fF):=⟨rfl,rfl,rfl,θ,rfl,θ,θ⟩
theorem nu:al ["where","low","high"] ["where","low","high"] (defScope gQ):=⟨rfl,rfl,rfl,θ,rfl,θ,θ⟩
theorem md:al ["self","manner","steps"] ["self","manner","steps"] (defScope fY):=⟨rfl,rfl,rfl,θ,rfl,θ,θ⟩
theorem sc_read_pact:al ["text","pieces","texts"] ["text"] (defScope cZ):=⟨rfl,rfl,rfl,θ,rfl,θ,θ⟩
def ki:Scope:=match defBody cZ with
 | _::_::_::_::.Return (some (.Call _ [_,.ListComp _ _ sc _] _ _)) _::_=>sc
 | _=>default
theorem jK:bV ["text","pieces","texts"] (defScope cZ) ki "k" ["k","texts"] [2]:=⟨θ,rfl,θ,rfl,θ,θ,rfl,rfl,θ⟩
theorem lX:al ["text","number"] ["text","number"] (defScope fE):=⟨rfl,rfl,rfl,θ,rfl,θ,θ⟩
theorem l0:al ["pact"] ["pact"] (defScope c8):=⟨rfl,rfl,rfl,θ,rfl,θ,θ⟩
def kj:Scope:=match defBody c8 with
 | .Return (some (.Call _ [(.Call _ [(.Call _ [.ListComp _ _ sc _] _ _)] _ _)] _ _)) _::_=>sc
 | _=>default
theorem jL:bV ["pact"] (defScope c8) kj "step" ["step"] []:=⟨θ,rfl,θ,rfl,θ,θ,rfl,rfl,λj h=>absurd h (Nat.not_lt_zero j)⟩
theorem sc_turning:al ["pact","k"] ["pact"] (defScope iI):=⟨rfl,rfl,rfl,θ,rfl,θ,θ⟩
theorem mh:al ["self","name","pact"] ["self","name","pact"] (defScope f8):=⟨rfl,rfl,rfl,θ,rfl,θ,θ⟩
theorem oY:al ["self","sheet"] ["self","sheet"] (defScope iQ):=⟨rfl,rfl,rfl,θ,rfl,θ,θ⟩
theorem mf:al ["self","sheet"] ["self","sheet"] (defScope f7):=⟨rfl,rfl,rfl,θ,rfl,θ,θ⟩
theorem ny:al ["self","sheet","outcome"] ["self","sheet","outcome"] (defScope gY):=⟨rfl,rfl,rfl,θ,rfl,θ,θ⟩
theorem jI:al ["self","outcome"] ["self","outcome"] (defScope eC):=⟨rfl,rfl,rfl,θ,rfl,θ,θ⟩
theorem sc_Lead_own_steps_done:al ["self","step"] ["self"] (defScope bZ):=⟨rfl,rfl,rfl,θ,rfl,θ,θ⟩
theorem gO:al ["self"] ["self"] (defScope cL):=⟨rfl,rfl,rfl,θ,rfl,θ,θ⟩
theorem fz:al ["self"] ["self"] (defScope cq):=⟨rfl,rfl,rfl,θ,rfl,θ,θ⟩
theorem sc_Lead_send_step:al ["self","sheet","word","number","text"] ["self","sheet","word"] (defScope cV):=⟨rfl,rfl,rfl,θ,rfl,θ,θ⟩
theorem hX:al ["self","more"] ["self","more"] (defScope cW):=⟨rfl,rfl,rfl,θ,rfl,θ,θ⟩
theorem gK:al ["self","name","pact"] ["self","name","pact"] (defScope bx):=⟨rfl,rfl,rfl,θ,rfl,θ,θ⟩
def gh:Scope:=match defBody bx with
 | _::_::.Assign _ (.ListComp _ _ sc _) _::_=>sc
 | _=>default
theorem fD:bV ["self","name","pact"] (defScope bx) gh "k" ["k","self"] [0]:=⟨θ,rfl,θ,rfl,θ,θ,rfl,rfl,θ⟩
theorem eO:al ["self","sheet"] ["self","sheet"] (defScope bY):=⟨rfl,rfl,rfl,θ,rfl,θ,θ⟩
theorem gL:al ["self","sheet","word","sender","more"] ["self","sheet","word","sender","more"] (defScope cI):=⟨rfl,rfl,rfl,θ,rfl,θ,θ⟩
theorem d7:al ["self"] ["self"] (defScope bM):=⟨rfl,rfl,rfl,θ,rfl,θ,θ⟩
theorem d8:al ["self"] ["self"] (defScope bO):=⟨rfl,rfl,rfl,θ,rfl,θ,θ⟩
theorem dO:al ["self","sheet"] ["self","sheet"] (defScope bE):=⟨rfl,rfl,rfl,θ,rfl,θ,θ⟩
theorem sc_WalkedLead_go_behind:al ["self","sheet","is_left"] ["self","sheet"] (defScope bU):=⟨rfl,rfl,rfl,θ,rfl,θ,θ⟩
theorem sc_WalkedLead_undo_rest:al ["self","sheet","number","step"] ["self","sheet"] (defScope bT):=⟨rfl,rfl,rfl,θ,rfl,θ,θ⟩
theorem ku:al ["self","stand"] ["self","stand"] (defScope fh):=⟨rfl,rfl,rfl,θ,rfl,θ,θ⟩
theorem l9:al ["self","row"] ["self","row"] (defScope fX):=⟨rfl,rfl,rfl,θ,rfl,θ,θ⟩
theorem kt:al ["self","to","word","p","more"] ["self","to","word","p","more"] (defScope fg):=⟨rfl,rfl,rfl,θ,rfl,θ,θ⟩
theorem gN:al ["self"] ["self"] (defScope cK):=⟨rfl,rfl,rfl,θ,rfl,θ,θ⟩
theorem sc_Sheet_letters_told:al ["self","news"] ["self"] (defScope be):=⟨rfl,rfl,rfl,θ,rfl,θ,θ⟩
def eL:Scope:=match defBody be with
 | _::.Return (some (.ListComp _ _ sc _)) _::_=>sc
 | _=>default
theorem eF:bV ["self","news"] (defScope be) eL "pair" ["pair","news"] [1]:=⟨θ,rfl,θ,rfl,θ,θ,rfl,rfl,θ⟩
theorem kr:al ["self","cells"] ["self","cells"] (defScope fe):=⟨rfl,rfl,rfl,θ,rfl,θ,θ⟩
theorem sc_Stand_keep:al ["self","row","change","p"] ["self","row"] (defScope fb):=⟨rfl,rfl,rfl,θ,rfl,θ,θ⟩
theorem gx:al ["self","row"] ["self","row"] (defScope cy):=⟨rfl,rfl,rfl,θ,rfl,θ,θ⟩
theorem kq:al ["self"] ["self"] (defScope eX):=⟨rfl,rfl,rfl,θ,rfl,θ,θ⟩
theorem jd:al ["_law_script","_law_k"] ["_law_script","_law_k"] (defScope dy):=⟨rfl,rfl,rfl,θ,rfl,θ,θ⟩
theorem jH:al ["_law_number"] ["_law_number"] (defScope eB):=⟨rfl,rfl,rfl,θ,rfl,θ,θ⟩
theorem sc__law_step:al ["_law_number","_law_given","_law_none","_law_house","_law_cell","_law_amount_here","_law_way_here","_law_head","_law_text"] ["_law_number","_law_given","_law_none"] (defScope fH):=⟨rfl,rfl,rfl,θ,rfl,θ,θ⟩
theorem sc__law_steps:al ["_law_script","_law_steps_here","_law_given","_law_none","_law_k","_law_step_here"] ["_law_script"] (defScope eP):=⟨rfl,rfl,rfl,θ,rfl,θ,θ⟩
theorem l7:al ["_law_hands"] ["_law_hands"] (defScope fJ):=⟨rfl,rfl,rfl,θ,rfl,θ,θ⟩
theorem sc__law_plain:al ["_law_steps_here","_law_hands","_law_word","_law_house","_law_text","_law_amount_here"] ["_law_steps_here","_law_hands"] (defScope eQ):=⟨rfl,rfl,rfl,θ,rfl,θ,θ⟩
theorem sc__law_way:al ["_law_lead","_law_sheet","_law_steps_here","_law_many","_law_script","_law_hands","_law_fate","_law_k","_law_hand","_law_at","_law_fates"] ["_law_lead","_law_sheet","_law_steps_here","_law_many","_law_script"] (defScope dw):=⟨rfl,rfl,rfl,θ,rfl,θ,θ⟩
def kC:Scope:=match defBody dw with
 | _::_::_::.Assign _ (.ListComp _ _ sc _) _::_=>sc
 | _=>default
theorem ky:bV ["_law_lead","_law_sheet","_law_steps_here","_law_many","_law_script","_law_hands","_law_fate","_law_k","_law_hand","_law_at","_law_fates"] (defScope dw) kC "_law_k" ["_law_k","_law_lead","_law_sheet"] [0,1]:=⟨θ,rfl,θ,rfl,θ,θ,rfl,rfl,θ⟩
theorem sc__law_back:al ["_law_steps_here","_law_found","_law_k","_law_step_here"] ["_law_steps_here"] (defScope fL):=⟨rfl,rfl,rfl,θ,rfl,θ,θ⟩
theorem sc__law_due:al ["_law_name","_law_steps_here","_law_back_here","_law_step_here"] ["_law_name","_law_steps_here","_law_back_here"] (defScope gR):=⟨rfl,rfl,rfl,θ,rfl,θ,θ⟩
theorem sc__law_came:al ["_law_lead","_law_sheet","_law_steps_here","_law_back_here","_law_number","_law_other"] ["_law_lead","_law_sheet","_law_steps_here","_law_back_here","_law_number"] (defScope fK):=⟨rfl,rfl,rfl,θ,rfl,θ,θ⟩
theorem sc_law:al ["_law_script","_law_name","_law_steps_here","_law_lead","_law_sheet","_law_back_here","_law_many","_law_way_here","_law_sent","_law_fate","_law_moved","_law_number","_law_due_here","_law_rows"] ["_law_script"] (defScope nB):=⟨rfl,rfl,rfl,θ,rfl,θ,θ⟩
def vk:Scope:=match defBody nB with
 | _::_::.Assign _ (.Call _ [_,(.Call _ [(.BinOp _ _ (.Call _ [.ListComp _ _ sc _] _ _) _)] _ _)] _ _) _::_=>sc
 | _=>default
theorem tf:bV ["_law_script","_law_name","_law_steps_here","_law_lead","_law_sheet","_law_back_here","_law_many","_law_way_here","_law_sent","_law_fate","_law_moved","_law_number","_law_due_here","_law_rows"] (defScope nB) vk "_law_step_here" ["_law_step_here"] []:=⟨θ,rfl,θ,rfl,θ,θ,rfl,rfl,λj h=>absurd h (Nat.not_lt_zero j)⟩
end K45
namespace K45T
open PySem L2 Km PySem.NumText
abbrev ti:Stmt:=K45.jM
abbrev tm:Stmt:=K45.qf
abbrev qg:Stmt:=K45.ib
abbrev xo:Stmt:=K45.kQ
abbrev xq:Stmt:=K45.gH
abbrev xp:Stmt:=K45.fm
abbrev zX:Stmt:=K45.dX
abbrev tu:Stmt:=K45.dm
abbrev zV:Stmt:=K45.c9
abbrev tj:Stmt:=K45.dk
theorem tp:¬(("text":Str)="place"):=by decide +kernel
def rf(z:Str)(k:Int):List (Str×V):=ao "place" (.int k) (ao "text" (.str z) [])
theorem tE(z:Str)(k:Int):rf z k=([("text",V.str z),("place",V.int k)]:List (Str×V)):=by
 show (if ("text":Str)="place" then [(("text":Str),V.int k)] else (("text":Str),V.str z)::ao "place" (V.int k) [])=([("text",V.str z),("place",V.int k)]:List (Str×V))
 rw [if_neg tp]
 all_goals rfl
theorem gp(z:Str)(k:Int):(rf z k).lookup ("text":Str)=some (.str z):=by
 unfold rf
 rw [az,if_neg tp,az,if_pos rfl]
theorem cr(z:Str)(k:Int):(rf z k).lookup ("place":Str)=some (.int k):=by
 unfold rf
 rw [az,if_pos rfl]
theorem kS(z:Str)(k:Int){m:Str}(h1:¬m="place")(h2:¬m="text"):(rf z k).lookup m=none:=by
 unfold rf
 rw [az,if_neg h1,az,if_neg h2]
 all_goals rfl
theorem o8(z:Str)(k j:Int):ao "place" (.int j) (rf z k)=rf z j:=by
 rw [tE,tE]
 show (if ("text":Str)="place" then _ else (("text":Str),V.str z)::(if ("place":Str)="place" then [(("place":Str),V.int j)] else _))=([("text",V.str z),("place",V.int j)]:List (Str×V))
 rw [if_neg tp,if_pos rfl]
theorem o9(z:Str)(k:Int):(rf z k).length=2:=by rw [tE];rfl
structure Tx(K:Frag)(mg:Str->Option Value)(C:Addr):Prop where
 cl:Cls K C
 nT:NoAttr K C "text"
 nP:NoAttr K C "place"
 mgC:mg "Reader"=some (.ref C)
 isi:mg "isinstance"=none
 int:mg "int"=none
 bool:mg "bool"=none
 str:mg "str"=none
 len:mg "len"=none
 ord:mg "ord"=none
 all:mg "all"=none
 range:mg "range"=none
 cFig:∃t,mg "MOST_FIGURES_things"=some (.int 400 t)
 cSig:∃t,mg "MOST_SIGNS"=some (.int 2000 t)
 cDeep:∃t,mg "MOST_DEEP"=some (.int 8 t)
 cLong:∃t,mg "LONGEST"=some (.int 100000 t)
 cBl:∃t,mg "BLANK"=some (.int 32 t)
 cPc:∃t,mg "PERCENT"=some (.int 37 t)
 cTi:∃t,mg "TILDE"=some (.int 126 t)
theorem my{X:Cx}{x:Str}{i:Int}{pos:Pos}(hm:∃t,X.mg x=some (.int i t))(hg:Gl X x)(hd:(x==("__debug__":Str))=false:=by decide):PE X (.Name x pos) (tC (.int i)):=by
 obtain ⟨t,e⟩:=hm
 exact dt hg e ⟨t,rfl⟩ hd
section
variable {K:Frag}
theorem zd:PySem.W.kitOne K (.type "int") (.type "int")=some true:=rfl
theorem za:PySem.W.kitOne K (.type "str") (.type "str")=some true:=rfl
theorem zg:PySem.W.kitOne K (.type "bool") (.type "bool")=some true:=rfl
theorem ze:PySem.W.kitOne K (.type "int") (.type "bool")=some false:=by kernel_rfl
theorem zb:PySem.W.kitOne K (.type "str") (.type "int")=some false:=by kernel_rfl
theorem zf:PySem.W.kitOne K (.type "bool") (.type "int")=some true:=by kernel_rfl
theorem zc:PySem.W.kitOne K (.type "NoneType") (.type "int")=some false:=by kernel_rfl
theorem yZ:PySem.W.kitOne K (.type "tuple") (.type "int")=some false:=by kernel_rfl
end
section
variable {P:Program}{w:World}{K:Frag}{mg:Str->Option Value}{base:Heap}{f C:Addr}{fd:FuncData}
def xK(H:Hp):V->Option Bool
 | .int _=>some true
 | .str _=>some false
 | .bl _=>some false
 | .non=>some false
 | .ref a=>match H a with
  | some (.tup _)=>some false
  | _=>none
 | _=>none
def jn:Sp:=λvs H Q _=>∃x b,vs=[x]/\xK H x=some b/\Q (.bl b) H
theorem vX:al ["thing"] ["thing"] (defScope ti):=⟨rfl,rfl,rfl,θ,rfl,θ,θ⟩
theorem ua(F:Fun K "is_whole" "is_whole" ti f fd)(T:Tx K mg C):FnOk P w K mg base CX0 1 f fd ["thing"] jn:=by
 refine F.ok vX (λvs H Q E h=>?_) (λcdv A outer s H vs Q E hr h=>?_)
 ·obtain ⟨x,b,rfl,_⟩:=h
  rfl
 obtain ⟨x,b,rfl,hb,q⟩:=h
 refine ⟨_,af (aq (gU (aB gi rfl T.isi PyProof.Rows.boot_isinstance (aa (pv 0) (aa (mo (v:=.ty "int") rfl T.int PyProof.Rows.boot_int rfl) ad)))
  (fO (yt (aB gi rfl T.isi PyProof.Rows.boot_isinstance (aa (pv 0) (aa (mo (v:=.ty "bool") rfl T.bool PyProof.Rows.boot_bool rfl) ad))))))),?_⟩
 cases x with
 | int i =>
  cases (Δ hb)
  refine ⟨_,rfl,_,_,_,_,rfl,TyOf.int i,zd,_,rfl,aW ?_⟩
  exact ⟨_,rfl,_,_,_,_,rfl,TyOf.int i,ze,_,rfl,q⟩
 | str z =>
  cases (Δ hb)
  exact ⟨_,rfl,_,_,_,_,rfl,TyOf.str z,zb,_,rfl,aI q⟩
 | bl c =>
  cases (Δ hb)
  refine ⟨_,rfl,_,_,_,_,rfl,TyOf.bl c,zf,_,rfl,aW ?_⟩
  exact ⟨_,rfl,_,_,_,_,rfl,TyOf.bl c,zg,_,rfl,q⟩
 | non =>
  cases (Δ hb)
  exact ⟨_,rfl,_,_,_,_,rfl,TyOf.non,zc,_,rfl,aI q⟩
 | ref a =>
  have hb':(match H a with | some (.tup _)=>some false | _=>none)=some b:=hb
  cases e:H a with
  | none=>rw [e] at hb';cases hb'
  | some o =>
   rw [e] at hb'
   cases o with
   | tup xs =>
    cases (Δ hb')
    exact ⟨_,rfl,_,_,_,_,rfl,TyOf.tup e,yZ,_,rfl,aI q⟩
   | _=>cases hb'
 | _=>cases hb
def shS(z:Str):Str:=Str.ofString (toString ((z.length:Nat):Int))++Str.ofString ":"++z
def lH:Sp:=λvs H Q _=>(∃i,vs=[.int i]/\i.natAbs.log2<1920/\Q (.str (Str.ofString (toString i))) H)\/(∃z,vs=[.str z]/\z.length<=100000/\Q (.str (shS z)) H)
theorem vY:al ["thing"] ["thing"] (defScope tm):=⟨rfl,rfl,rfl,θ,rfl,θ,θ⟩
theorem wQ{n:Nat}(h:n<=100000):(Str.ofString (toString ((n:Nat):Int))).length<=20:=by
 have e:(Str.ofString (toString ((n:Nat):Int))).cps.toList.length<=6:=by
  rw [jk]
  unfold cg
  rw [if_neg ω]
  exact ir ζ ω
 have e2:(Str.ofString (toString ((n:Nat):Int))).length=(Str.ofString (toString ((n:Nat):Int))).cps.toList.length:=by simp [Str.length]
 omega
theorem Au{x y:Str}:(x++y).length=x.length+y.length:=by
 show (x.cps++y.cps).size=_
 rw [Array.size_append]
 rfl
theorem gb:1000000<=sizeLine:=by decide
theorem uf{fW:Addr}{dW:FuncData}(F:Fun K "shown" "shown" tm f fd)(T:Tx K mg C)(GW:FnOk P w K mg base CX0 1 fW dW ["thing"] jn)(bW:Binds K dW ["thing"] [])(kW:PySem.W.keepIn K (.ref fW)=true)(mW:mg "is_whole"=some (.ref fW)) :
  FnOk P w K mg base CX0 2 f fd ["thing"] lH:=by
 refine F.ok vY (λvs H Q E h=>?_) (λcdv A outer s H vs Q E hr h=>?_)
 ·rcases h with ⟨i,rfl,_⟩ | ⟨z,rfl,_⟩<;>rfl
 refine ⟨_,ac (aE (bj (mj GW hr rfl mW kW bW .nil bJ (aa (pv 0) ad))) (af (aq (aV bD rfl T.str PyProof.Rows.boot_str (aa (pv 0) ad)))) av)
  (ac (aE (bj (aB gi rfl T.isi PyProof.Rows.boot_isinstance (aa (pv 0) (aa (mo (v:=.ty "str") rfl T.str PyProof.Rows.boot_str rfl) ad))))
   (af (aq (aF ba (aF ba (aV bD rfl T.str PyProof.Rows.boot_str (aa (aB bo rfl T.len PySem.boot_len (aa (pv 0) ad)) ad)) ay) (pv 0)))) av)
  aH),?_⟩
 rcases h with ⟨i,rfl,hl,q⟩ | ⟨z,rfl,hl,q⟩
 ·exact ⟨_,rfl,_,_,rfl,rfl,_,rfl,aW ⟨_,rfl,_,rfl,hl,q⟩⟩
 ·refine ⟨_,rfl,_,_,rfl,rfl,_,rfl,aI ?_⟩
  refine ⟨_,rfl,_,_,_,_,rfl,TyOf.str z,za,_,rfl,aW ?_⟩
  have h1:=wQ hl
  have h0:=gb
  refine ⟨_,rfl,_,rfl,ω,_,rfl,?_,_,_,rfl,rfl,?_,_,rfl,_,_,rfl,rfl,?_,q⟩
  ·exact yT (by
    exact Nat.lt_of_le_of_lt hl θ)
  ·have:(Str.ofString ":").length=1:=rfl
   omega
  ·have:(Str.ofString ":").length=1:=rfl
   have e:(Str.ofString (toString ((z.length:Nat):Int))++Str.ofString ":").length=(Str.ofString (toString ((z.length:Nat):Int))).length+(Str.ofString ":").length:=by rw [Au]
   omega
def sG:Sp:=λvs H Q _=>∃c:Nat,vs=[.str ⟨#[c]⟩]/\Q (.bl (pB c)) H
theorem scSign:al ["sign","number"] ["sign"] (defScope xo):=⟨rfl,rfl,rfl,θ,rfl,θ,θ⟩
theorem wu(F:Fun K "is_sign" "is_sign" xo f fd)(T:Tx K mg C):FnOk P w K mg base CX0 1 f fd ["sign"] sG:=by
 refine F.ok scSign (λvs H Q E h=>?_) (λcdv A outer s H vs Q E hr h=>?_)
 ·obtain ⟨c,rfl,_⟩:=h
  rfl
 obtain ⟨c,rfl,q⟩:=h
 refine ⟨_,ac (aC (i:=1) scSign.nd rfl (Or.inl rfl) (aB vm rfl T.ord PyProof.Rows.boot_ord (aa (pv 0) ad)))
  (af (aq (gU (tZ xw xw (my T.cBl rfl) (pv 1) (my T.cTi rfl)) (fO (cv kT (pv 1) (my T.cPc rfl) (ap _)))))),?_⟩
 refine ⟨_,rfl,_,rfl,rfl,?_⟩
 refine ⟨_,rfl,_,_,rfl,rfl,_,rfl,?_⟩
 have e0:((({cps:=#[c]}:Str).cps.getD 0 0:Nat):Int)=(c:Int):=rfl
 unfold pB at q
 by_cases h1:32<=c
 ·have d1:decide ((32:Int)<=(({cps:=#[c]}:Str).cps.getD 0 0:Nat))=true:=τ (by rw [e0];omega)
  rw [d1]
  refine aW ⟨_,_,rfl,rfl,_,rfl,?_⟩
  by_cases h2:c<=126
  ·have d2:decide (((({cps:=#[c]}:Str).cps.getD 0 0:Nat):Int)<=126)=true:=τ (by rw [e0];omega)
   rw [d2]
   refine aW ⟨_,rfl,rfl,?_⟩
   have e3:(!decide (V.int (({cps:=#[c]}:Str).cps.getD 0 0:Nat)=V.int 37))=(decide (32<=c)&&decide (c<=126)&&decide (c≠37)):=by
    rw [τ h1,τ h2,jw,e0]
    by_cases h3:c=37
    ·subst h3;rfl
    ·have:((c:Int)==37)=false:=beq_eq_false_iff_ne.mpr ω
     rw [this,τ h3];rfl
   rw [e3]
   exact q
  ·have d2:decide (((({cps:=#[c]}:Str).cps.getD 0 0:Nat):Int)<=126)=false:=Γ (by rw [e0];omega)
   rw [d2]
   refine aI ?_
   rw [Γ h2,Bool.and_false,Bool.false_and] at q
   exact q
 ·have d1:decide ((32:Int)<=(({cps:=#[c]}:Str).cps.getD 0 0:Nat))=false:=Γ (by rw [e0];omega)
  rw [d1]
  refine aI ⟨_,rfl,aI ?_⟩
  rw [Γ h1,Bool.false_and,Bool.false_and] at q
  exact q
def sO(C:Addr):Sp:=λvs H Q _=>∃p dx z,vs=[.ref p,.str z]/\H p=some (.ins C dx [])/\Q .non (upd (upd H p (.ins C dx (ao "text" (.str z) []))) p (.ins C dx (rf z 0)))
theorem yg:al ["self","text"] ["self","text"] (defScope xq):=⟨rfl,rfl,rfl,θ,rfl,θ,θ⟩
theorem wE(F:Fun K "__init__" "Reader.__init__" xq f fd)(T:Tx K mg C):FnOk P w K mg base CX0 1 f fd ["self","text"] (sO C):=by
 refine F.ok yg (λvs H Q E h=>?_) (λcdv A outer s H vs Q E hr h=>?_)
 ·obtain ⟨p,dx,z,rfl,_⟩:=h
  rfl
 obtain ⟨p,dx,z,rfl,hp,q⟩:=h
 refine ⟨_,ac (aL (pv 0) (pv 1) rfl) (af (aL (pv 0) ai rfl)),?_⟩
 exact ⟨_,rfl,_,rfl,p,C,dx,[],rfl,hp,T.cl,T.nT,(by show 0<1000;decide),_,rfl,p,C,dx,_,rfl,ae,T.cl,T.nP,(by show 1<1000;decide),q⟩
theorem jB(z:Str)(c k:Nat):Txt.startswith3 z ⟨#[c]⟩ (k:Int)=decide (z.cps.toList[k]?=some c):=by
 have e1:fromIndex z.length (k:Int)=k:=by
  unfold fromIndex
  rw [if_neg ω]
  omega
 unfold Txt.startswith3
 rw [e1]
 have e2:(({cps:=#[c]}:Str)).length=1:=rfl
 rw [e2]
 by_cases h:k<z.length
 ·have h':k<z.cps.size:=h
  have e3:Builtin.Str.subAt z ⟨#[c]⟩ k=(z.cps[k]==c):=by
   unfold Builtin.Str.subAt
   rw [e2]
   have e4:z.cps.extract k (k+1)=#[z.cps[k]]:=by
    apply Array.ext
    ·simp;omega
    ·intro i h1 h2
     have:i=0:=by simp at h2;omega
     subst this
     simp
   rw [e4]
   simp
  rw [e3]
  have e5:decide (k+1<=z.length)=true:=τ h
  rw [e5,Bool.true_and]
  have e6:z.cps.toList[k]?=some z.cps[k]:=by rw [Array.getElem?_toList];exact Array.getElem?_eq_getElem h'
  rw [e6]
  simp [Bool.beq_eq_decide_eq]
 ·have e5:decide (k+1<=z.length)=false:=Γ ω
  rw [e5,Bool.false_and]
  have e6:z.cps.toList[k]?=none:=by rw [Array.getElem?_toList];exact Array.getElem?_eq_none (by show z.length<=k;omega)
  rw [e6]
  simp
def sI(C:Addr):Sp:=λvs H Q _=>∃p dx z c,∃k:Nat,vs=[.ref p,.str ⟨#[c]⟩]/\H p=some (.ins C dx (rf z k)) /\
 (if z.cps.toList[k]?=some c then Q (.bl true) (upd H p (.ins C dx (rf z ((k+1:Nat):Int)))) else Q (.bl false) H)
theorem yf:al ["self","sign"] ["self","sign"] (defScope xp):=⟨rfl,rfl,rfl,θ,rfl,θ,θ⟩
theorem wz(F:Fun K "passes" "Reader.passes" xp f fd)(T:Tx K mg C):FnOk P w K mg base CX0 1 f fd ["self","sign"] (sI C):=by
 refine F.ok yf (λvs H Q E h=>?_) (λcdv A outer s H vs Q E hr h=>?_)
 ·obtain ⟨p,dx,z,c,k,rfl,_⟩:=h
  rfl
 obtain ⟨p,dx,z,c,k,rfl,hp,q⟩:=h
 refine ⟨_,ac (aE (eU (bj (dj PySem.F.plainAttrs_str PySem.F.slot_str_startswith PySem.F.type_str_startswith jU (au (pv 0) rfl) (aa (pv 1) (aa (au (pv 0) rfl) ad))))) (af (aq cH)) av)
  (ac (iL (pv 0) ai pM) (af (aq cH))),?_⟩
 refine ⟨_,rfl,p,C,dx,_,_,rfl,hp,T.cl,T.nT,gp _ _,rfl,_,rfl,_,rfl,p,C,dx,_,_,rfl,hp,T.cl,T.nP,cr _ _,_,_,_,rfl,rfl,_,rfl,?_⟩
 rw [jB]
 by_cases hk:z.cps.toList[k]?=some c
 ·rw [if_pos hk] at q
  rw [τ hk]
  refine aI ?_
  refine ⟨_,rfl,p,C,dx,_,_,rfl,hp,T.cl,T.nP,cr _ _,_,_,rfl,rfl,dx,_,hp,(by rw [o9];decide),?_⟩
  rw [o8]
  have e:((k:Int)+1)=((k+1:Nat):Int):=by omega
  rw [e]
  exact q
 ·rw [if_neg hk] at q
  rw [Γ hk]
  exact aW q
end
theorem hW{x y:Str}(h:x.cps.toList=y.cps.toList):x=y:=by
 obtain ⟨a⟩:=x
 obtain ⟨b⟩:=y
 have:a=b:=Array.toList_inj.mp h
 rw [this]
theorem ik(z:Str):z.length=z.cps.toList.length:=by simp [Str.length]
theorem kP{z:Str}{pre ds post:List Nat}(e:z.cps.toList=pre++ds++post):Txt.slice z (some ((pre.length:Nat):Int)) (some (((pre.length+ds.length:Nat)):Int))=⟨ds.toArray⟩:=by
 have hl:z.cps.toList.length=pre.length+ds.length+post.length:=by rw [e];simp;omega
 have q:=PyProof.Rows.slice_closes (x:=z) (i:=((pre.length:Nat):Int)) (j:=((pre.length+ds.length:Nat):Int)) ⟨ω,ω,ω⟩
 rw [eq_of_beq q]
 refine hW ?_
 have e1:(((pre.length+ds.length:Nat):Int)-((pre.length:Nat):Int)).toNat=ds.length:=by omega
 have e2:(((pre.length:Nat):Int)).toNat=pre.length:=by omega
 rw [e1,e2,e,List.append_assoc,List.drop_left,List.take_left]
theorem oX{z:Str}{pre ds post:List Nat}{i j:Int}(e:z.cps.toList=pre++ds++post)(hi:i=((pre.length:Nat):Int))(hj:j=((pre.length+ds.length:Nat):Int)):Txt.slice z (some i) (some j)=⟨ds.toArray⟩:=by
 subst hi hj
 exact kP e
theorem vD:∀c:Nat,c<128->Unicode.isDigit c=oa c:=by decide +kernel
theorem ja{c:Nat}(h:c<128):Txt.isdigit ⟨#[c]⟩=oa c:=by
 rw [← vD c h]
 unfold Txt.isdigit
 simp [Str.length]
def vw(ds:List Nat):Prop:=AllDigits ds/\ds≠[]/\ds.length<=400/\(ds=[48]\/∀c r,ds=c::r->c≠48)
def qH(post:List Nat):Prop:=∀c r,post=c::r->c<128/\oa c=false
def But(p:Addr)(H H':Hp):Prop:=∀b o,H b=some o->b≠p->H' b=some o
theorem But.refl(p:Addr)(H:Hp):But p H H:=λ_ _ e _=>e
theorem But.upd{p:Addr}{H H':Hp}(h:But p H H')(o:HO):But p H (L2.upd H' p o):=λb u e n=>by rw [aw n];exact h b u e n
theorem But.trans{p:Addr}{H H1 H2:Hp}(a:But p H H1)(b:But p H1 H2):But p H H2:=λc o e n=>b c o (a c o e n) n
theorem vL(x y:Str):Txt.startswith x y=Txt.startswith3 x y ((0:Nat):Int):=by
 unfold Txt.startswith Txt.startswith3
 have e:fromIndex x.length ((0:Nat):Int)=0:=by unfold fromIndex;simp
 rw [e]
section
variable {P:Program}{w:World}{K:Frag}{mg:Str->Option Value}{base:Heap}{f C:Addr}{fd:FuncData}
def sK(C:Addr):Sp:=λvs H Q _=>∃p dx z pre ds post,vs=[.ref p]/\z.cps.toList=pre++ds++post/\H p=some (.ins C dx (rf z (pre.length:Nat)))/\z.length<=100000/\vw ds/\qH post /\
 ∀H',H' p=some (.ins C dx (rf z ((pre.length+ds.length:Nat):Int)))->But p H H'->Q (.int (digitsVal ds:Nat)) H'
theorem scNum:al ["self","start","figures"] ["self"] (defScope zV):=⟨rfl,rfl,rfl,θ,rfl,θ,θ⟩
theorem wZ:(Str.ofString "")=⟨#[]⟩:=by decide +kernel
theorem vf:(Str.ofString "0")=⟨#[48]⟩:=by decide +kernel
def mT(K:Frag):TT:=zO (xk (tOp (rI0 λi j=>.bl (decide (i<j))) (qR K (oK 0) "place") (tCB (λxs H Q=>∃z,xs=[.str z]/\z.length<=sizeLine/\Q (.int z.length) H) (xl (qR K (oK 0) "text") vJ))))
 (tB (zM K "str" (λx vs H Q=>∃z,x=.str z/\vs=[]/\Q (.bl (Txt.isdigit z)) H) (tOp z9 (qR K (oK 0) "text") (qR K (oK 0) "place"))))
theorem uH{p dx:Addr}{z:Str}{pre ds post:List Nat}{j:Nat}{σ:St}{H1:Hp}{R:Bool->Hp->Prop}(T:Tx K mg C)(ez:z.cps.toList=pre++ds++post)(hz:z.length<=100000)(d1:AllDigits ds)(hpo:qH post)(hj:j<=ds.length)
  (e0:σ[0]?=some (some (.ref p)))(hp1:H1 p=some (.ins C dx (rf z ((pre.length+j:Nat):Int))))(h:R (decide (j<ds.length)) H1):mT K σ H1 R:=by
 have hu:=gb
 have lz:z.length=pre.length+ds.length+post.length:=by rw [ik,ez];simp;omega
 refine ⟨_,e0,p,C,dx,_,_,rfl,hp1,T.cl,T.nP,cr _ _,_,e0,p,C,dx,_,_,rfl,hp1,T.cl,T.nT,gp _ _,_,rfl,ω,_,_,rfl,rfl,_,rfl,?_⟩
 by_cases hlt:(pre.length+j:Nat)<z.length
 ·rw [τ (show (((pre.length+j:Nat)):Int)<((z.length:Nat):Int) by omega)]
  have hlt':pre.length+j<z.cps.toList.length:=by rw [← ik];exact hlt
  obtain ⟨c,hc⟩:∃c,z.cps.toList[pre.length+j]?=some c:=⟨_,ξ hlt'⟩
  refine aW ⟨_,e0,p,C,dx,_,_,rfl,hp1,T.cl,T.nT,gp _ _,_,e0,p,C,dx,_,_,rfl,hp1,T.cl,T.nP,cr _ _,z,_,c,rfl,rfl,ω,aU hc,rfl,_,rfl,rfl,_,rfl,?_⟩
  by_cases hjd:j<ds.length
  ·have ec:ds[j]?=some c:=by
    rw [ez,List.append_assoc,List.getElem?_append_right ω,List.getElem?_append_left ω] at hc
    rw [← hc];congr 1;omega
   have dc:48<=c/\c<=57:=d1 c (List.mem_of_getElem? ec)
   have e1:Txt.isdigit ⟨#[c]⟩=true:=by rw [ja ω];unfold oa;rw [decide_eq_true dc.1,decide_eq_true dc.2];rfl
   rw [τ hjd] at h
   rw [e1]
   exact h
  ·have hjd':j=ds.length:=by omega
   have ec:post[0]?=some c:=by
    rw [ez,List.getElem?_append_right (by rw [List.length_append];omega)] at hc
    rw [← hc];congr 1;rw [List.length_append];omega
   have hp2:c<128/\oa c=false:=by
    cases post with
    | nil=>cases ec
    | cons a r=>exact hpo c r (by rw [show a=c by simpa using ec])
   have e1:Txt.isdigit ⟨#[c]⟩=false:=by rw [ja hp2.1];exact hp2.2
   rw [Γ hjd] at h
   rw [e1]
   exact h
 ·rw [Γ (show ¬(((pre.length+j:Nat)):Int)<((z.length:Nat):Int) by omega)]
  rw [Γ (show ¬j<ds.length by omega)] at h
  exact aI h
theorem yE(F:Fun K "read_number" "Reader.read_number" zV f fd)(T:Tx K mg C):FnOk P w K mg base CX0 1 f fd ["self"] (sK C):=by
 refine F.ok scNum (λvs H Q E h=>?_) (λcdv A outer s H vs Q E hr h=>?_)
 ·obtain ⟨p,dx,z,pre,ds,post,rfl,_⟩:=h
  rfl
 obtain ⟨p,dx,z,pre,ds,post,rfl,ez,hp,hz,hds,hpo,q⟩:=h
 obtain ⟨d1,d2,d3,d4⟩:=hds
 have hu:=gb
 have lz:z.length=pre.length+ds.length+post.length:=by rw [ik,ez];simp;omega
 refine ⟨_,ac (aC (i:=1) scNum.nd rfl (Or.inl rfl) (au (pv 0) rfl))
  (ac (jO (tc:=mT K) PassesOwn.never (PW.pt (bH (ak gF (au (pv 0) rfl) (aB bo rfl T.len PySem.boot_len (aa (au (pv 0) rfl) ad)) (ap _))
    (bF (bj (t6 PySem.F.plainAttrs_str PySem.F.slot_str_isdigit PySem.F.type_str_isdigit pD (aG uT (au (pv 0) rfl) (au (pv 0) rfl) (λ_ _=>rfl)))))))
   (af (iL (pv 0) ai pM)))
  (ac (aC (i:=2) scNum.nd rfl (Or.inl rfl) (fM sT (au (pv 0) rfl) (dU (pv 1)) (dU (au (pv 0) rfl))))
  (ac (aE (ak aO (pv 2) ay (ap _)) aH av)
  (ac (aE (ak gG (aB bo rfl T.len PySem.boot_len (aa (pv 2) ad)) (my T.cFig rfl) (ap _)) aH av)
  (ac (aE (PW.pt (bH (bj (dj PySem.F.plainAttrs_str PySem.F.slot_str_startswith PySem.F.type_str_startswith kz (pv 2) (aa ay ad))) (bF (ak kT (pv 2) ay (ap _))))) aH av)
  (af (aq (aV kI rfl T.int PyProof.Rows.boot_int (aa (pv 2) ad))))))))),?_⟩
 refine ⟨_,rfl,p,C,dx,_,_,rfl,hp,T.cl,T.nP,cr _ _,?_⟩
 refine ⟨λm σ H1=>∃j,m=ds.length-j/\j<=ds.length/\σ=[some (.ref p),some (.int (pre.length:Nat)),none]/\H1 p=some (.ins C dx (rf z ((pre.length+j:Nat):Int)))/\But p H H1,
  ⟨ds.length,0,rfl,Nat.zero_le _,rfl,hp,But.refl p H⟩,?_⟩
 rintro m σ H1 ⟨j,rfl,hj,rfl,hp1,bt⟩
 refine uH T ez hz d1 hpo hj rfl hp1 ?_
 by_cases hjd:j<ds.length
 ·rw [τ hjd]
  refine aW ⟨_,fun σ' H' h=>h,?_⟩
  refine ⟨_,rfl,p,C,dx,_,_,rfl,hp1,T.cl,T.nP,cr _ _,_,_,rfl,rfl,dx,_,hp1,(by rw [o9];decide),?_⟩
  refine ⟨ds.length-(j+1),ω,j+1,rfl,hjd,rfl,?_,bt.upd _⟩
  rw [ae,o8]
  have e:(((pre.length+j:Nat)):Int)+1=((pre.length+(j+1):Nat):Int):=by omega
  rw [e]
 ·rw [Γ hjd]
  obtain rfl:j=ds.length:=by omega
  refine aI ?_
  refine ⟨_,rfl,p,C,dx,_,_,rfl,hp1,T.cl,T.nT,gp _ _,_,rfl,_,rfl,_,rfl,p,C,dx,_,_,rfl,hp1,T.cl,T.nP,cr _ _,_,rfl,z,rfl,ω,?_⟩
  rw [kP ez]
  have dl:(({cps:=ds.toArray}:Str)).length=ds.length:=by simp [Str.length]
  refine ⟨_,rfl,rfl,_,rfl,?_⟩
  have n1:¬(V.str ({cps:=ds.toArray}:Str)=V.str (Str.ofString "")):=by
   intro e
   have e':(({cps:=ds.toArray}:Str))=Str.ofString "":=by injection e
   rw [wZ] at e'
   have e2:=congrArg (λs:Str=>s.cps.toList) e'
   exact d2 (by simpa using e2)
  rw [Γ n1]
  refine aI ?_
  refine ⟨_,rfl,_,rfl,ω,_,_,rfl,rfl,_,rfl,?_⟩
  rw [Γ (show ¬((400:Int)<((({cps:=ds.toArray}:Str)).length:Nat)) by rw [dl];omega)]
  refine aI ?_
  have it:PySem.intText? ({cps:=ds.toArray}:Str)=some ((digitsVal ds:Nat):Int):=by
   have:=intText_digits (x:=({cps:=ds.toArray}:Str)) (by simpa using d1) (by simpa using d2) (by rw [dl];omega)
   simpa using this
  refine ⟨_,rfl,rfl,_,_,rfl,rfl,_,rfl,?_⟩
  have hs:Txt.startswith ({cps:=ds.toArray}:Str) (Str.ofString "0")=decide (ds[0]?=some 48):=by
   rw [vf,vL,jB]
  rw [hs]
  rcases d4 with e4 | h4
  ·subst e4
   refine aW ⟨_,rfl,rfl,_,rfl,?_⟩
   have n3:V.str ({cps:=([48]:List Nat).toArray}:Str)=V.str (Str.ofString "0"):=by rw [vf]
   rw [τ n3]
   exact aI ⟨_,rfl,_,_,rfl,it,by rw [dl];omega,q H1 hp1 bt⟩
  ·have n4:¬ds[0]?=some 48:=by
    cases ds with
    | nil=>exact absurd rfl d2
    | cons c r=>intro e;exact h4 c r rfl (by simpa using e)
   rw [Γ n4]
   exact aI (aI ⟨_,rfl,_,_,rfl,it,by rw [dl];omega,q H1 hp1 bt⟩)
def p4(C:Addr):Sp:=λvs H Q _=>∃p dx z pre ws post,vs=[.ref p,.int ((ws:List Nat).length:Nat)]/\z.cps.toList=pre++ws++post/\H p=some (.ins C dx (rf z (pre.length:Nat)))/\z.length<=100000/\ws.length<=2000 /\
 ∀H',H' p=some (.ins C dx (rf z ((pre.length+ws.length:Nat):Int)))->But p H H'->Q (.str ⟨ws.toArray⟩) H'
theorem scSigns:al ["self","many","behind","signs"] ["self","many"] (defScope tj):=⟨rfl,rfl,rfl,θ,rfl,θ,θ⟩
theorem ue(F:Fun K "read_signs" "Reader.read_signs" tj f fd)(T:Tx K mg C):FnOk P w K mg base CX0 1 f fd ["self","many"] (p4 C):=by
 refine F.ok scSigns (λvs H Q E h=>?_) (λcdv A outer s H vs Q E hr h=>?_)
 ·obtain ⟨p,dx,z,pre,ws,post,rfl,_⟩:=h
  rfl
 obtain ⟨p,dx,z,pre,ws,post,rfl,ez,hp,hz,hw,q⟩:=h
 have hu:=gb
 have lz:z.length=pre.length+ws.length+post.length:=by rw [ik,ez];simp;omega
 refine ⟨_,ac (aC (i:=2) scSigns.nd rfl (Or.inl rfl) (aF cT (au (pv 0) rfl) (pv 1)))
  (ac (aE (ak gG (pv 1) (my T.cSig rfl) (ap _)) aH av)
  (ac (aE (ak gG (pv 2) (aB bo rfl T.len PySem.boot_len (aa (au (pv 0) rfl) ad)) (ap _)) aH av)
  (ac (aC (i:=3) scSigns.nd rfl (Or.inl rfl) (fM sT (au (pv 0) rfl) (dU (au (pv 0) rfl)) (dU (pv 2))))
  (ac (aL (pv 0) (pv 2) rfl)
  (af (aq (pv 3))))))),?_⟩
 refine ⟨_,rfl,p,C,dx,_,_,rfl,hp,T.cl,T.nP,cr _ _,_,rfl,_,_,rfl,rfl,?_⟩
 refine ⟨_,rfl,_,_,rfl,rfl,_,rfl,?_⟩
 rw [Γ (show ¬((2000:Int)<((ws.length:Nat):Int)) by omega)]
 refine aI ⟨_,rfl,_,rfl,p,C,dx,_,_,rfl,hp,T.cl,T.nT,gp _ _,z,rfl,ω,_,_,rfl,rfl,_,rfl,?_⟩
 have eb:((pre.length:Nat):Int)+((ws.length:Nat):Int)=((pre.length+ws.length:Nat):Int):=by omega
 rw [eb]
 rw [Γ (show ¬(((z.length:Nat):Int)<((pre.length+ws.length:Nat):Int)) by omega)]
 refine aI ⟨_,rfl,p,C,dx,_,_,rfl,hp,T.cl,T.nT,gp _ _,_,rfl,p,C,dx,_,_,rfl,hp,T.cl,T.nP,cr _ _,_,rfl,_,rfl,_,rfl,z,rfl,ω,?_⟩
 rw [oX ez rfl eb]
 refine ⟨_,rfl,_,rfl,p,C,dx,_,rfl,hp,T.cl,T.nP,(by rw [o9];decide),_,rfl,?_⟩
 refine q _ ?_ ((But.refl p H).upd _)
 rw [ae,← eb]
 exact congrArg (λl=>some (HO.ins C dx l)) (o8 z _ _)
def qa(C:Addr):Sp:=λvs H Q _=>∃p dx z pre ds post,vs=[.ref p]/\z.cps.toList=pre++ds++post/\H p=some (.ins C dx (rf z (pre.length:Nat)))/\z.length<=100000/\vw ds/\qH post/\digitsVal ds≠0 /\
 ∀H',H' p=some (.ins C dx (rf z ((pre.length+ds.length:Nat):Int)))->But p H H'->Q (.int (-((digitsVal ds:Nat):Int))) H'
theorem scBelow:al ["self","number"] ["self"] (defScope tu):=⟨rfl,rfl,rfl,θ,rfl,θ,θ⟩
theorem uF{fN:Addr}{dN:FuncData}(F:Fun K "read_below" "Reader.read_below" tu f fd)(T:Tx K mg C)(GN:FnOk P w K mg base CX0 1 fN dN ["self"] (sK C))(bN:Binds K dN ["self"] [])(mN:gE K C "read_number" fN) :
  FnOk P w K mg base CX0 2 f fd ["self"] (qa C):=by
 refine F.ok scBelow (λvs H Q E h=>?_) (λcdv A outer s H vs Q E hr h=>?_)
 ·obtain ⟨p,dx,z,pre,ds,post,rfl,_⟩:=h
  rfl
 obtain ⟨p,dx,z,pre,ds,post,rfl,ez,hp,hz,hds,hpo,hne,q⟩:=h
 refine ⟨_,ac (aC (i:=1) scBelow.nd rfl (Or.inl rfl) (ie (pv 0) T.cl mN GN hr bN .nil bJ))
  (ac (aE (ak aO (pv 1) ai (ap _)) aH av)
  (af (aq (nG jz (pv 1))))),?_⟩
 refine ⟨_,rfl,p,dx,_,rfl,hp,kS _ _ θ θ,p,dx,z,pre,ds,post,rfl,ez,hp,hz,hds,hpo,λH1 hp1 bt=>?_⟩
 refine ⟨_,rfl,rfl,_,rfl,?_⟩
 have n1:¬(V.int ((digitsVal ds:Nat):Int)=V.int 0):=by intro e;injection e with e;omega
 rw [Γ n1]
 exact aI ⟨_,rfl,_,rfl,q H1 hp1 bt⟩
end
inductive xg:List Nat->V->Prop where
 | num (n:Int) (h:n.natAbs<10 ^ 400):xg (cg n) (.int n)
 | txt (ws:List Nat) (h:ws.length<=2000):xg (bq ws.length++58::ws) (.str ⟨ws.toArray⟩)
def Ends(post:List Nat):Prop:=∀c r,post=c::r->c=32\/c=41
theorem kg(m:Nat)(h:m<10 ^ 400):vw (bq m):=by
 refine ⟨iu m,mC m,ir ζ h,?_⟩
 by_cases h0:m=0
 ·subst h0;exact .inl rS
 ·exact .inr (rT m h0)
theorem Ends.stops{post:List Nat}(h:Ends post):qH post:=λc r e=>by
 rcases h c r e with rfl | rfl<;>exact ⟨ζ,ζ⟩
theorem pQ:(Str.ofString "(")=⟨#[40]⟩:=by decide +kernel
theorem mz:(Str.ofString "-")=⟨#[45]⟩:=by decide +kernel
theorem qB:(Str.ofString ":")=⟨#[58]⟩:=by decide +kernel
theorem pU{z:Str}{pre rest:List Nat}(e:z.cps.toList=pre++rest):z.cps.toList[pre.length]?=rest[0]?:=by
 rw [e,List.getElem?_append_right (ι _),Nat.sub_self]
theorem lm(m:Nat):∃c r,bq m=c::r/\48<=c/\c<=57:=by
 cases e:bq m with
 | nil=>exact absurd e (mC m)
 | cons c r =>
  have h:=iu m
  rw [e] at h
  exact ⟨c,r,rfl,h.head⟩
section
variable {P:Program}{w:World}{K:Frag}{mg:Str->Option Value}{base:Heap}{f C:Addr}{fd:FuncData}
def xn(C:Addr):Sp:=λvs H Q _=>∃p dx z pre it post v d,vs=[.ref p,d]/\z.cps.toList=pre++it++post/\H p=some (.ins C dx (rf z ((pre:List Nat).length:Nat)))/\z.length<=100000/\xg it v/\Ends post /\
 ∀H',H' p=some (.ins C dx (rf z ((pre.length+it.length:Nat):Int)))->But p H H'->Q v H'
theorem scAny:al ["self","deep","number"] ["self","deep"] (defScope zX):=⟨rfl,rfl,rfl,θ,rfl,θ,θ⟩
theorem yN{fP fB fN fS:Addr}{dP dB dN dS:FuncData}(F:Fun K "read_any" "Reader.read_any" zX f fd)(T:Tx K mg C)
  (GP:FnOk P w K mg base CX0 1 fP dP ["self","sign"] (sI C))(bP:Binds K dP ["self","sign"] [])(mP:gE K C "passes" fP)
  (GB:FnOk P w K mg base CX0 2 fB dB ["self"] (qa C))(bB:Binds K dB ["self"] [])(mB:gE K C "read_below" fB)
  (GN:FnOk P w K mg base CX0 1 fN dN ["self"] (sK C))(bN:Binds K dN ["self"] [])(mN:gE K C "read_number" fN)
  (GS:FnOk P w K mg base CX0 1 fS dS ["self","many"] (p4 C))(bS:Binds K dS ["self","many"] [])(mS:gE K C "read_signs" fS) :
  FnOk P w K mg base CX0 3 f fd ["self","deep"] (xn C):=by
 refine F.ok scAny (λvs H Q E h=>?_) (λcdv A outer s H vs Q E hr h=>?_)
 ·obtain ⟨p,dx,z,pre,it,post,v,d,rfl,_⟩:=h
  rfl
 obtain ⟨p,dx,z,pre,it,post,v,d,rfl,ez,hp,hz,hit,hen,q⟩:=h
 have hr1:=hr.mono (show 1<=2 by decide)
 have np:∀(k:Int),(rf z k).lookup ("passes":Str)=none:=λk=>kS _ _ θ θ
 have nn:∀(k:Int),(rf z k).lookup ("read_number":Str)=none:=λk=>kS _ _ θ θ
 have nb:∀(k:Int),(rf z k).lookup ("read_below":Str)=none:=λk=>kS _ _ θ θ
 have ns:∀(k:Int),(rf z k).lookup ("read_signs":Str)=none:=λk=>kS _ _ θ θ
 refine ⟨_,ac (aE (bj (gq (pv 0) T.cl mP GP hr1 bP .nil bJ (aa ay ad))) aH av)
  (ac (aE (bj (gq (pv 0) T.cl mP GP hr1 bP .nil bJ (aa ay ad))) (af (aq (ie (pv 0) T.cl mB GB hr bB .nil bJ))) av)
  (ac (aC (i:=2) scAny.nd rfl (Or.inl rfl) (ie (pv 0) T.cl mN GN hr1 bN .nil bJ))
  (ac (aE (bj (gq (pv 0) T.cl mP GP hr1 bP .nil bJ (aa ay ad))) (af (aq (gq (pv 0) T.cl mS GS hr1 bS .nil bJ (aa (pv 2) ad)))) av)
  (af (aq (pv 2)))))),?_⟩
 have ez':z.cps.toList=pre++(it++post):=by rw [ez,List.append_assoc]
 have h0:=pU ez'
 cases hit with
 | num n hn =>
  by_cases hneg:n<0
  ·have en:cg n=45::bq n.natAbs:=by unfold cg;rw [if_pos hneg]
   rw [en] at ez ez' q h0
   have h0':z.cps.toList[pre.length]?=some 45:=h0
   refine ⟨_,rfl,p,dx,_,rfl,hp,np _,p,dx,z,40,pre.length,(by rw [pQ];rfl),hp,?_⟩
   rw [if_neg (by rw [h0'];decide)]
   refine ⟨_,rfl,aI ?_⟩
   refine ⟨_,rfl,p,dx,_,rfl,hp,np _,p,dx,z,45,pre.length,(by rw [mz];rfl),hp,?_⟩
   rw [if_pos h0']
   refine ⟨_,rfl,aW ?_⟩
   refine ⟨_,rfl,p,dx,_,rfl,ae,nb _,p,dx,z,pre++[45],bq n.natAbs,post,rfl,(by rw [ez];simp),(by rw [ae];simp),hz,kg _ hn,hen.stops,(by rw [iq];omega),λH' hp' bt=>?_⟩
   have e1:(-((digitsVal (bq n.natAbs):Nat):Int))=n:=by rw [iq];omega
   rw [e1]
   refine q H' ?_ (((But.refl p H).upd _).trans bt)
   rw [hp']
   have e2:(pre++[45]).length+(bq n.natAbs).length=pre.length+(45::bq n.natAbs).length:=by simp;omega
   rw [e2]
  ·have en:cg n=bq n.natAbs:=by unfold cg;rw [if_neg hneg]
   rw [en] at ez ez' q h0
   obtain ⟨c,r,ec,hc⟩:=lm n.natAbs
   have h0':z.cps.toList[pre.length]?=some c:=by rw [h0,ec];rfl
   refine ⟨_,rfl,p,dx,_,rfl,hp,np _,p,dx,z,40,pre.length,(by rw [pQ];rfl),hp,?_⟩
   rw [if_neg (by rw [h0'];intro e;injection e with e;omega)]
   refine ⟨_,rfl,aI ?_⟩
   refine ⟨_,rfl,p,dx,_,rfl,hp,np _,p,dx,z,45,pre.length,(by rw [mz];rfl),hp,?_⟩
   rw [if_neg (by rw [h0'];intro e;injection e with e;omega)]
   refine ⟨_,rfl,aI ?_⟩
   refine ⟨_,rfl,p,dx,_,rfl,hp,nn _,p,dx,z,pre,bq n.natAbs,post,rfl,ez,hp,hz,kg _ hn,hen.stops,λH1 hp1 bt=>?_⟩
   have h1:z.cps.toList[pre.length+(bq n.natAbs).length]?=post[0]?:=by
    have:=pU (z:=z) (pre:=pre++bq n.natAbs) (rest:=post) ez
    rw [List.length_append] at this
    exact this
   refine ⟨_,rfl,p,dx,_,rfl,hp1,np _,p,dx,z,58,pre.length+(bq n.natAbs).length,(by rw [qB];rfl),hp1,?_⟩
   rw [if_neg (by
    rw [h1]
    intro e
    cases post with
    | nil=>cases e
    | cons a r' =>
     have:=hen a r' rfl
     have ea:a=58:=by simpa using e
     omega)]
   refine ⟨_,rfl,aI ⟨_,rfl,?_⟩⟩
   have e1:((digitsVal (bq n.natAbs):Nat):Int)=n:=by rw [iq];omega
   rw [e1]
   exact q H1 hp1 bt
 | txt ws hw =>
  obtain ⟨c,r,ec,hc⟩:=lm ws.length
  have h0':z.cps.toList[pre.length]?=some c:=by rw [h0,ec];rfl
  refine ⟨_,rfl,p,dx,_,rfl,hp,np _,p,dx,z,40,pre.length,(by rw [pQ];rfl),hp,?_⟩
  rw [if_neg (by rw [h0'];intro e;injection e with e;omega)]
  refine ⟨_,rfl,aI ?_⟩
  refine ⟨_,rfl,p,dx,_,rfl,hp,np _,p,dx,z,45,pre.length,(by rw [mz];rfl),hp,?_⟩
  rw [if_neg (by rw [h0'];intro e;injection e with e;omega)]
  refine ⟨_,rfl,aI ?_⟩
  have hl:ws.length<10 ^ 400:=Nat.lt_of_le_of_lt hw θ
  have ez2:z.cps.toList=pre++bq ws.length++(58::(ws++post)):=by rw [ez];simp
  refine ⟨_,rfl,p,dx,_,rfl,hp,nn _,p,dx,z,pre,bq ws.length,58::(ws++post),rfl,ez2,hp,hz,kg _ hl,λc' r' e=>(by cases e;exact ⟨ζ,ζ⟩),λH1 hp1 bt=>?_⟩
  have h1:z.cps.toList[pre.length+(bq ws.length).length]?=some 58:=by
   have:=pU (z:=z) (pre:=pre++bq ws.length) (rest:=58::(ws++post)) ez2
   rw [List.length_append] at this
   exact this
  refine ⟨_,rfl,p,dx,_,rfl,hp1,np _,p,dx,z,58,pre.length+(bq ws.length).length,(by rw [qB];rfl),hp1,?_⟩
  rw [if_pos h1]
  refine ⟨_,rfl,aW ?_⟩
  have el:(pre++bq ws.length++[58]).length=pre.length+(bq ws.length).length+1:=by simp;omega
  refine ⟨_,rfl,p,dx,_,rfl,ae,ns _,_,rfl,p,dx,z,pre++bq ws.length++[58],ws,post,(by rw [iq];rfl),(by rw [ez2];simp),(by rw [ae,el]),hz,hw,λH2 hp2 bt2=>?_⟩
  refine q H2 ?_ ((bt.upd _).trans bt2)
  rw [hp2]
  have e2:(pre++bq ws.length++[58]).length+ws.length=pre.length+(bq ws.length++58::ws).length:=by simp;omega
  rw [e2]
def oO:Sp:=λvs H Q _=>∃z v,vs=[.str z]/\xg z.cps.toList v/\(∀c∈z.cps.toList,pB c=true)/\z.length<=100000/\∀H',Same H H'->Q v H'
theorem scRead:al ["text","reader","thing"] ["text"] (defScope qg):=⟨rfl,rfl,rfl,θ,rfl,θ,θ⟩
def tG:Scope:=match defBody qg with
 | _::.If (.UnaryOp _ (.Call _ [.ListComp _ _ sc _] _ _) _) _ _ _::_=>sc
 | _=>default
theorem yh:bV ["text","reader","thing"] (defScope qg) tG "sign" ["sign"] []:=⟨θ,rfl,θ,rfl,θ,θ,rfl,rfl,λj h=>absurd h (Nat.not_lt_zero j)⟩
theorem ww{fG fI fA:Addr}{dG dI dA:FuncData}(F:Fun K "read_thing" "read_thing" qg f fd)(T:Tx K mg C)(M:Mk K C fI)
  (GG:FnOk P w K mg base CX0 1 fG dG ["sign"] sG)(bG:Binds K dG ["sign"] [])(kG:PySem.W.keepIn K (.ref fG)=true)(mG:mg "is_sign"=some (.ref fG))
  (GI:FnOk P w K mg base CX0 1 fI dI ["self","text"] (sO C))(bI:Binds K dI ["self","text"] [])
  (GA:FnOk P w K mg base CX0 3 fA dA ["self","deep"] (xn C))(bA:Binds K dA ["self","deep"] [])(mA:gE K C "read_any" fA) :
  FnOk P w K mg base CX0 4 f fd ["text"] oO:=by
 refine F.ok scRead (λvs H Q E h=>?_) (λcdv A outer s H vs Q E hr h=>?_)
 ·obtain ⟨z,v,rfl,_⟩:=h
  rfl
 obtain ⟨z,v,rfl,hit,hok,hz,q⟩:=h
 have hr1:=hr.mono (show 1<=3 by decide)
 have hr2:=hr.mono (show 2<=3 by decide)
 have hu:=gb
 refine ⟨_,ac (aE (ak gG (aB bo rfl T.len PySem.boot_len (aa (pv 0) ad)) (my T.cLong rfl) (ap _)) aH av)
  (ac (aE (eU (bj (aB (ox rfl) rfl T.all PyProof.Rows.boot_all (aa (i4 yh rfl (yn (pv 0)) (λ_ _ _ _=>eT) (λ_ _ _ _=>mj GG hr1 rfl mG kG bG .nil bJ (aa (pv 0) ad))) ad)))) aH av)
  (ac (aC (i:=1) scRead.nd rfl (Or.inl rfl) (cu M GI hr2 rfl T.mgC bI .nil bJ (aa (pv 0) ad)))
  (ac (aC (i:=2) scRead.nd rfl (Or.inl rfl) (gq (pv 1) T.cl mA GA hr bA .nil bJ (aa (my T.cDeep rfl) ad)))
  (ac (aE (ak kT (au (pv 1) rfl) (aB bo rfl T.len PySem.boot_len (aa (pv 0) ad)) (ap _)) aH av)
  (af (aq (pv 2))))))),?_⟩
 refine ⟨_,rfl,z,rfl,ω,_,_,rfl,rfl,_,rfl,?_⟩
 rw [Γ (show ¬((100000:Int)<((z.length:Nat):Int)) by omega)]
 refine aI ?_
 refine ⟨_,rfl,z,rfl,λi ys H1=>i<=z.length/\ys=List.replicate i (V.bl true)/\H1=H,z.length,⟨Nat.zero_le _,rfl,rfl⟩,ω,?_⟩
 rintro i ys H1 ⟨hi,rfl,rfl⟩
 by_cases hlt:i<z.length
 ·refine .inr ⟨hlt,hlt,?_⟩
  rintro x H2 ⟨rfl,c,hc,rfl⟩
  refine ⟨_,rfl,c,rfl,hlt,?_,rfl⟩
  rw [hok c (List.mem_of_getElem? hc),List.replicate_succ']
 refine .inl ⟨by show z.length<=i;omega,λl hl=>?_⟩
 have e0:List.replicate i (V.bl true)=(List.replicate i true).map V.bl:=by simp
 refine ⟨l,List.replicate i true,rfl,SqL.of (by rw [ae,e0]),_,rfl,?_⟩
 have e1:(List.replicate i true).all id=true:=by simp
 rw [e1]
 refine aI ?_
 have sl:Same H1 (upd H1 l (.lst (List.replicate i (V.bl true)))):=λb o e=>by rw [aw (ah e hl)];exact e
 refine ⟨_,rfl,λx dx nx ndx nex=>⟨x,dx,z,rfl,ae,rfl,?_⟩⟩
 refine ⟨_,rfl,x,dx,_,rfl,ae,kS _ _ θ θ,x,dx,z,[],z.cps.toList,[],v,_,rfl,(by simp),ae,hz,hit,(λc r e=>nomatch e),λH3 hx3 bt3=>?_⟩
 refine ⟨_,rfl,x,C,dx,_,_,rfl,hx3,T.cl,T.nP,cr _ _,_,rfl,z,rfl,ω,rfl,_,rfl,?_⟩
 have e2:V.int ((([]:List Nat).length+z.cps.toList.length:Nat):Int)=V.int ((z.length:Nat):Int):=by rw [ik];simp
 rw [τ e2]
 refine aI ⟨_,rfl,q H3 λb o e=>?_⟩
 have e3:=sl b o e
 have nb1:b≠x:=ah e3 nx
 have nb2:b≠dx:=ah e3 ndx
 refine bt3 b o ?_ nb1
 rw [aw nb1,aw nb1,aw nb1,aw nb2]
 exact e3
end
end K45T
namespace K45
open PySem L2 Lo St
section
variable {P:Program}{w:World}{K:Frag}{mg:Str->Option Value}{base:Heap}{f CL CS CP:Addr}{fd:FuncData}{C:Kd->Addr}{CW:Wd->Addr}
theorem kp2{a:Addr}{H:Hp}{o1 o2:HO}:Kp a H (upd (upd H a o1) a o2):=λb o n e=>by rw [aw n,aw n];exact e
theorem uE(F:Fun K "__init__" "CellStep.__init__" di f fd)(T:TxW K CW):FnOk P w K mg base CX0 1 f fd ["self","where","cell"] (lR CW):=by
 refine F.ok iH (λvs H Q E h=>?_) (λcdv A outer s H vs Q E hr h=>?_)
 ·obtain ⟨a,dx,wd,x,y,rfl,_⟩:=h
  rfl
 obtain ⟨a,dx,wd,x,y,rfl,ha,q⟩:=h
 refine ⟨_,ac (aL (pv 0) (pv 1) rfl) (af (aL (pv 0) (pv 2) rfl)),?_⟩
 exact ⟨_,rfl,_,rfl,a,CW wd,dx,[],rfl,ha,T.cl wd,T.nW wd,(by show 0<1000;decide),_,rfl,_,rfl,a,CW wd,dx,_,rfl,ae,T.cl wd,T.nC wd,(by show 1<1000;decide),q _ ae kp2⟩
theorem mE{wd:Wd}(hw:isC wd=true){vs:List V}{H:Hp}{Q:VK}{E:XK}(h:gn CW wd vs H Q E):lR CW vs H Q E:=by
 obtain ⟨a,dx,ns,rfl,ar,ha,q⟩:=h
 obtain ⟨x,y,rfl,_,_,e⟩:=ar.c hw
 exact ⟨a,dx,wd,x,y,rfl,ha,λH' h1 h2=>q H' (by rw [e];exact h1) h2⟩
theorem ud(F:Fun K "__init__" "SumStep.__init__" dF f fd)(T:TxW K CW):FnOk P w K mg base CX0 1 f fd ["self","where","low","high"] (gn CW .sum):=by
 refine F.ok je (λvs H Q E h=>?_) (λcdv A outer s H vs Q E hr h=>?_)
 ·obtain ⟨a,dx,ns,rfl,ar,_⟩:=h
  obtain ⟨x,y,z,rfl,_⟩:=ar.s
  rfl
 obtain ⟨a,dx,ns,rfl,ar,ha,q⟩:=h
 obtain ⟨x,y,z,rfl,_⟩:=ar.s
 refine ⟨_,ac (aL (pv 0) (pv 1) rfl) (ac (aL (pv 0) (pv 2) rfl) (af (aL (pv 0) (pv 3) rfl))),?_⟩
 exact ⟨_,rfl,_,rfl,a,CW .sum,dx,[],rfl,ha,T.cl _,T.nW _,(by show 0<1000;decide),_,rfl,_,rfl,a,CW .sum,dx,_,rfl,ae,T.cl _,T.nL _,(by show 1<1000;decide),_,rfl,_,rfl,a,CW .sum,dx,_,rfl,ae,T.cl _,T.nH _,Nat.lt_of_le_of_lt (cG _ _ _) (by show 1+1<1000;decide),q _ ae λb o n e=>by rw [aw n,aw n,aw n];exact e⟩
theorem uG{CC fC:Addr}{dC:FuncData}(F:Fun K "__init__" "AddStep.__init__" dH f fd)(T:TxW K CW)(mgC:mg "CellStep"=some (.ref CC))(cf:vy K CC "__init__" fC)(GC:FnOk P w K mg base CX0 1 fC dC ["self","where","cell"] (lR CW))(bC:Binds K dC ["self","where","cell"] []) :
  FnOk P w K mg base CX0 2 f fd ["self","where","cell","amount"] (gn CW .add):=by
 refine F.ok jf (λvs H Q E h=>?_) (λcdv A outer s H vs Q E hr h=>?_)
 ·obtain ⟨a,dx,ns,rfl,ar,_⟩:=h
  obtain ⟨x,y,z,rfl,_⟩:=ar.a
  rfl
 obtain ⟨a,dx,ns,rfl,ar,ha,q⟩:=h
 obtain ⟨x,y,z,rfl,_⟩:=ar.a
 refine ⟨_,ac (bf (qo (dt (v:=.ref CC) rfl mgC rfl) cf GC hr bC bJ (aa (pv 0) (aa (pv 1) (aa (pv 2) ad))))) (af (aL (pv 0) (pv 3) rfl)),?_⟩
 refine ⟨_,rfl,_,rfl,_,rfl,a,dx,.add,x,y,rfl,ha,λH' h1 h2=>?_⟩
 exact ⟨_,rfl,_,rfl,a,CW .add,dx,_,rfl,h1,T.cl _,T.nA _,Nat.lt_of_le_of_lt (cG _ _ _) (by show 1+1<1000;decide),q _ ae λb o n e=>by rw [aw n];exact h2 b o n e⟩
theorem ur(F:Fun K "__init__" "PlusStep.__init__" df f fd)(T:TxW K CW):FnOk P w K mg base CX0 1 f fd ["self","amount"] (gn CW .plus):=by
 refine F.ok iE (λvs H Q E h=>?_) (λcdv A outer s H vs Q E hr h=>?_)
 ·obtain ⟨a,dx,ns,rfl,ar,_⟩:=h
  obtain ⟨x,rfl,_⟩:=ar.p
  rfl
 obtain ⟨a,dx,ns,rfl,ar,ha,q⟩:=h
 obtain ⟨x,rfl,_⟩:=ar.p
 refine ⟨_,af (aL (pv 0) (pv 1) rfl),?_⟩
 exact ⟨_,rfl,_,rfl,a,CW .plus,dx,[],rfl,ha,T.cl _,T.nA _,(by show 0<1000;decide),q _ ae aX⟩
theorem uu(F:Fun K "__init__" "NeedStep.__init__" dg f fd)(T:TxW K CW):FnOk P w K mg base CX0 1 f fd ["self","amount"] (gn CW .need):=by
 refine F.ok iF (λvs H Q E h=>?_) (λcdv A outer s H vs Q E hr h=>?_)
 ·obtain ⟨a,dx,ns,rfl,ar,_⟩:=h
  obtain ⟨x,rfl,_⟩:=ar.n
  rfl
 obtain ⟨a,dx,ns,rfl,ar,ha,q⟩:=h
 obtain ⟨x,rfl,_⟩:=ar.n
 refine ⟨_,af (aL (pv 0) (pv 1) rfl),?_⟩
 exact ⟨_,rfl,_,rfl,a,CW .need,dx,[],rfl,ha,T.cl _,T.nA _,(by show 0<1000;decide),q _ ae aX⟩
theorem nQ{wd:Wd}(hw:wd=.plus\/wd=.need)(F:Fun K "house" "Step.house" eW f fd):FnOk P w K mg base CX0 1 f fd ["self"] (dQ CW wd):=by
 refine F.ok ko (λvs H Q E h=>?_) (λcdv A outer s H vs Q E hr h=>?_)
 ·obtain ⟨v,ns,rfl,_⟩:=h
  rfl
 obtain ⟨v,ns,rfl,ar,st,q⟩:=h
 refine ⟨_,af (aq aY),?_⟩
 rcases hw with rfl | rfl<;>exact q
theorem ij{wd:Wd}(hw:isC wd=true\/wd=.add)(F:Fun K "house" "CellStep.house" cX f fd)(T:TxW K CW):FnOk P w K mg base CX0 1 f fd ["self"] (dQ CW wd):=by
 refine F.ok hZ (λvs H Q E h=>?_) (λcdv A outer s H vs Q E hr h=>?_)
 ·obtain ⟨v,ns,rfl,_⟩:=h
  rfl
 obtain ⟨v,ns,rfl,ar,⟨a,dx,rfl,ha⟩,q⟩:=h
 refine ⟨_,af (aq (au (pv 0) rfl)),?_⟩
 rcases hw with hw | rfl
 ·obtain ⟨x,y,rfl,_,_,e⟩:=ar.c hw
  rw [e] at ha
  refine ⟨_,rfl,a,CW wd,dx,_,_,rfl,ha,T.cl _,T.nW _,by rw [bn θ,bQ],?_⟩
  cases wd<;>first | exact q | cases hw
 ·obtain ⟨x,y,z,rfl,_⟩:=ar.a
  exact ⟨_,rfl,a,CW .add,dx,_,_,rfl,ha,T.cl _,T.nW _,(by show (ao "amount" _ (ao "cell" _ (ao "where" _ []))).lookup _=_;rw [bn θ,bn θ,bQ];rfl),q⟩
theorem wF(F:Fun K "house" "SumStep.house" db f fd)(T:TxW K CW):FnOk P w K mg base CX0 1 f fd ["self"] (dQ CW .sum):=by
 refine F.ok iD (λvs H Q E h=>?_) (λcdv A outer s H vs Q E hr h=>?_)
 ·obtain ⟨v,ns,rfl,_⟩:=h
  rfl
 obtain ⟨v,ns,rfl,ar,⟨a,dx,rfl,ha⟩,q⟩:=h
 obtain ⟨x,y,z,rfl,_⟩:=ar.s
 refine ⟨_,af (aq (au (pv 0) rfl)),?_⟩
 exact ⟨_,rfl,a,CW .sum,dx,_,_,rfl,ha,T.cl _,T.nW _,(by show (ao "high" _ (ao "low" _ (ao "where" _ []))).lookup _=_;rw [bn θ,bn θ,bQ];rfl),q⟩
theorem eJ{wd:Wd}(hw:wd≠.give)(F:Fun K "sure" "Step.sure" fV f fd):FnOk P w K mg base CX0 1 f fd ["self"] (lG wd):=by
 refine F.ok l8 (λvs H Q E h=>?_) (λcdv A outer s H vs Q E hr h=>?_)
 ·obtain ⟨v,rfl,_⟩:=h
  rfl
 obtain ⟨v,rfl,q⟩:=h
 rw [Γ hw] at q
 exact ⟨_,af (aq cH),q⟩
theorem ug(F:Fun K "sure" "GiveStep.sure" dh f fd):FnOk P w K mg base CX0 1 f fd ["self"] (lG .give):=by
 refine F.ok iG (λvs H Q E h=>?_) (λcdv A outer s H vs Q E hr h=>?_)
 ·obtain ⟨v,rfl,_⟩:=h
  rfl
 obtain ⟨v,rfl,q⟩:=h
 exact ⟨_,af (aq cH),q⟩
theorem iX{x:Stp}(h:Ar x.1 x.2):(aK x.1 x.2=.non/\hvI (aK x.1 x.2)=none)\/∃i,aK x.1 x.2=.int i:=by
 by_cases hw:x.1=.plus\/x.1=.need
 ·rw [Ar.homeless hw]
  exact .inl ⟨rfl,rfl⟩
 ·obtain ⟨i,r,e,eh⟩:=h.home (λz=>hw (.inl z)) (λz=>hw (.inr z))
  exact .inr ⟨i,eh⟩
theorem uj(F:Fun K "read_pact" "read_pact" cZ f fd)(B:TxB mg){aM:Addr}(mM:mg "MANNERS"=some (.ref aM))(tM:∀H,SqT K H aM [.str "held",.str "walked"])(cM:∃t,mg "MOST_STEPS"=some (.int 12 t)){fI:Addr}{dI:FuncData}(MP:Mk K CP fI)(mgP:mg "Pact"=some (.ref CP))
  (GI:FnOk P w K mg base CX0 1 fI dI ["self","manner","steps"] (p6 CP))(bI:Binds K dI ["self","manner","steps"] [])(GR:GF P w K mg base CX0 7 "read_part" ["text","number"] (lK CW)):FnOk P w K mg base CX0 8 f fd ["text"] (lL CP CW):=by
 refine F.ok sc_read_pact (λvs H Q E h=>?_) (λcdv A outer s H vs Q E hr h=>?_)
 ·obtain ⟨b,xs,rfl,_⟩:=h
  rfl
 obtain ⟨b,xs,rfl,ar,h0,hl,q⟩:=h
 obtain ⟨tM0,cM⟩:=cM
 have nd:=sc_read_pact.nd
 have hr1:Room (1+1) _:=hr.mono ζ
 refine ⟨_,ac (aC (i:=1) nd rfl (Or.inl rfl) (dj PySem.F.plainAttrs_str PySem.F.slot_str_partition PySem.F.type_str_partition wP (pv 0) (aa ay ad)))
  (ac (aE (PW.pt (i0 (ak (rj cStr (hun hr)) (aG (r:=cb K) aN (pv 1) ai (λ_ _=>rfl)) (dt (v:=.ref aM) rfl mM rfl) rfl) (gS (ak aO (aG (r:=cb K) aN (pv 1) ai (λ_ _=>rfl)) ay (ap _))))) aH av)
  (ac (aC (i:=2) nd rfl (Or.inr rfl) (dj PySem.F.plainAttrs_str PySem.F.slot_str_split PySem.F.type_str_split rE (aG (r:=cb K) aN (pv 1) ai (λ_ _=>rfl)) (aa ay ad)))
  (ac (aE (ak gG (aB aA rfl B.len PySem.boot_len (aa (pv 2) ad)) (dt (v:=.int 12) rfl cM ⟨_,rfl⟩) (ap _)) aH av)
  (af (aq (cu MP GI hr1 rfl mgP bI .nil bJ (aa (aG (r:=cb K) aN (pv 1) ai (λ_ _=>rfl)) (aa (i4 jK rfl (cS rfl B.range (aa (aB aA rfl B.len PySem.boot_len (aa (pv 2) ad)) ad)) (λ_ _ _ _=>eT)
   (λ_ _ _ _=>pc GR hr (aa (aG (r:=ce K) aJ (pv 1) (pv 0) (λ_ _=>rfl)) (aa (pv 0) ad)))) ad)))))))),?_⟩
 have js:=jX ar ω
 have ml:=yS b
 have l1:(Str.ofString " ").length=1:=by decide +kernel
 have hs:(100000:Nat)<=sizeLine:=by decide
 have pl:(ptx (mS b) xs).length<=40000:=by
  have:(ptx (mS b) xs).length=(mS b).length+(Str.ofString " ").length+(Str.join (Str.ofString "; ") (xs.map sx)).length:=by
   show (((mS b).cps++(Str.ofString " ").cps)++(Str.join (Str.ofString "; ") (xs.map sx)).cps).size=_
   rw [Array.size_append,Array.size_append]
   rfl
  omega
 refine ⟨_,rfl,rfl,_,_,rfl,rfl,θ,ω,λp hp=>?_⟩
 rw [t7]
 have s1:=aj (o:=.tup [.str (mS b),.str (Str.ofString " "),.str (Str.join (Str.ofString "; ") (xs.map sx))]) hp
 have hp1:(upd H p (.tup [.str (mS b),.str (Str.ofString " "),.str (Str.join (Str.ofString "; ") (xs.map sx))])) p=some (.tup [.str (mS b),.str (Str.ofString " "),.str (Str.join (Str.ofString "; ") (xs.map sx))]):=ae
 generalize (upd H p (HO.tup [.str (mS b),.str (Str.ofString " "),.str (Str.join (Str.ofString "; ") (xs.map sx))]))=H1 at s1 hp1 ⊢
 refine ⟨_,rfl,p,_,_,_,rfl,rfl,SqT.of hp1,St.at0,mS b,aM,_,["held","walked"],rfl,rfl,.inr (tM H1),.cons rfl (.cons rfl .nil),_,rfl,?_⟩
 have hin:mS b∈(["held","walked"]:List Str):=by cases b<;>decide +kernel
 refine bv (λc=>absurd hin (of_decide_eq_false (by simpa using c))) (λ_=>?_)
 refine ⟨_,rfl,p,_,_,_,rfl,rfl,SqT.of hp1,St.at1,rfl,_,rfl,bv (λc=>absurd (V.str.inj (Ξ c)) θ) (λ_=>?_)⟩
 refine ⟨_,rfl,p,_,_,_,rfl,rfl,SqT.of hp1,St.at2,rfl,_,_,rfl,rfl,θ,ω,λtl htl=>?_⟩
 rw [qV h0]
 have s2:=aj (o:=.lst ((xs.map sx).map V.str)) htl
 have ht2:(upd H1 tl (.lst ((xs.map sx).map V.str))) tl=some (.lst ((xs.map sx).map V.str)):=ae
 have hp2:=s2 _ _ hp1
 generalize (upd H1 tl (HO.lst ((xs.map sx).map V.str)))=H2 at s2 ht2 hp2 ⊢
 have s02:=s1.trans s2
 have ll:((xs.map sx).map V.str).length=xs.length:=by rw [List.length_map,List.length_map]
 refine ⟨_,rfl,tl,_,rfl,.inl (SqL.of ht2),_,_,rfl,rfl,_,rfl,bv (λc=>absurd (Ξ c) (by rw [ll];omega)) (λ_=>?_)⟩
 refine ⟨_,rfl,p,_,_,_,rfl,rfl,SqT.of hp2,St.at0,?_⟩
 refine ⟨_,rfl,tl,_,rfl,.inl (SqL.of ht2),_,rfl,ω,by rw [ll];omega,?_⟩
 have e0:((((xs.map sx).map V.str).length:Nat):Int).toNat=xs.length:=by rw [ll];rfl
 rw [e0]
 refine io (n:=xs.length) (λi ys H'=>Same H2 H'/\StsP CW H' (xs.take i) ys) ⟨Same.refl _,.nil⟩ ω ?_ ?_
 ·rintro i ys H3 hi ⟨s3,ps⟩
  have hx:xs[i]?=some xs[i]:=ξ hi
  refine kN ⟨_,rfl,_,rfl,tl,_,_,_,rfl,rfl,SqL.of (s3 _ _ ht2),aU (by rw [List.getElem?_map,List.getElem?_map,hx];rfl),_,rfl,xs[i],_,rfl,ar _ (List.getElem_mem hi),λv H4 s4 sv=>⟨s3.trans s4,?_⟩⟩
  have e2:xs.take (i+1)=xs.take i++[xs[i]]:=by
   rw [List.take_add_one,hx]
   rfl
  rw [e2]
  exact (ps.keep s4).app (.cons sv .nil)
 ·rintro ys H3 ⟨s3,ps⟩ l hl3
  rw [List.take_length] at ps
  have s4:=aj (o:=.lst ys) hl3
  have h4:(upd H3 l (.lst ys)) l=some (.lst ys):=ae
  have ps4:=ps.keep s4
  generalize (upd H3 l (HO.lst ys))=H4 at s4 h4 ps4 ⊢
  intro x dx nx ndx nex
  refine ⟨x,dx,_,l,ys,rfl,ae,(by rw [aw (ah h4 nx),aw (ah h4 ndx)];exact h4),λsl tp H5 e1 e2 e3 n1 n2 k=>⟨rfl,?_⟩⟩
  have s5:=fT nx ndx k
  have z4:H4 sl=none:=by
   cases e:H4 sl with
   | none=>rfl
   | some u =>
    rw [aw (ah e nx),aw (ah e ndx),e] at n1
    cases n1
  have z0:H sl=none:=by
   cases e:H sl with
   | none=>rfl
   | some u =>
    rw [(s02.trans (s3.trans s4)) _ _ e] at z4
    cases z4
  exact q x dx sl tp ys H5 (s02.trans (s3.trans (s4.trans s5))) z0 ⟨e1,e2,e3,ps4.keep s5⟩
theorem rC(F:Fun K "houses_of" "houses_of" c8 f fd)(B:TxB mg)(mSet:mg "set"=none)(T:TxP K CP)(W:TxW K CW)(GH:∀wd,GM P w K mg base CX0 1 (CW wd) "house" ["self"] (dQ CW wd)):FnOk P w K mg base CX0 2 f fd ["pact"] (jD CP CW):=by
 refine F.ok l0 (λvs H Q E h=>?_) (λcdv A outer s H vs Q E hr h=>?_)
 ·obtain ⟨v,b,xs,rfl,_⟩:=h
  rfl
 obtain ⟨v,b,xs,rfl,⟨a,dx,sl,tp,us,rfl,pa⟩,ar,hl,q⟩:=h
 refine ⟨_,af (aq (aV eE rfl B.tuple PyProof.Rows.boot_tuple (aa (aB (kD rfl) rfl B.sorted PyProof.Rows.boot_sorted (aa (aV (rW rfl) rfl mSet PyProof.Rows.boot_set (aa
  (i4 jL rfl (tO (au (pv 0) rfl)) (λ_ _ _ _=>qj (ak gs (i5 λwd=>pm0 (GH wd) (pv 0) (W.cl wd) hr) aY (ap _))) (λ_ _ _ _=>i5 λwd=>pm0 (GH wd) (pv 0) (W.cl wd) hr)) ad)) ad)) ad))),?_⟩
 have hs:(100000:Nat)<=sizeLine:=by decide
 have pl:xs.length=us.length:=pa.st.len
 refine ⟨_,rfl,a,CP,dx,_,_,rfl,pa.ins,T.cl,T.np,tR _ _ _,tp,rfl,⟨_,SqT.of pa.tp⟩,?_⟩
 refine yX (xs:=us) (λi ys H1=>H1=H/\ys=(iW (xs.take i)).map V.int) ⟨rfl,rfl⟩ ω (λi ys H1 _ z=>by rw [z.1];exact SqT.of pa.tp) ?_ ?_
 ·rintro i u ys H1 hu ⟨rfl,rfl⟩
  obtain ⟨x,ex,sa,sdx,rfl,hsa⟩:=pa.st.get hu
  have hx:=List.mem_of_getElem? ex
  have f1:=jb (m:="house") θ θ θ θ θ x.1 x.2
  have et:xs.take (i+1)=xs.take i++[x]:=by rw [List.take_add_one,ex];rfl
  have eh:iW (xs.take (i+1))=iW (xs.take i)++iW [x]:=by rw [et];exact List.filterMap_append
  refine ⟨x.1,_,rfl,sa,sdx,_,rfl,hsa,f1,_,x.2,rfl,ar x hx,⟨sa,sdx,rfl,hsa⟩,rfl,_,rfl,?_⟩
  rcases iX (ar x hx) with ⟨e1,e2⟩ | ⟨n,e1⟩
  ·rw [e1,τ rfl]
   refine aI ⟨rfl,?_⟩
   have:iW [x]=[]:=by
    unfold iW
    rw [List.filterMap_cons,e2]
    rfl
   rw [eh,this,List.append_nil]
  ·have ne:¬aK x.1 x.2=.non:=λz=>by rw [e1] at z;cases z
   rw [Γ ne]
   refine aW ⟨x.1,_,rfl,sa,sdx,_,rfl,hsa,f1,_,x.2,rfl,ar x hx,⟨sa,sdx,rfl,hsa⟩,rfl,?_⟩
   have:iW [x]=[n]:=by
    unfold iW
    rw [List.filterMap_cons,e1]
    rfl
   rw [eh,this,List.map_append,e1]
   rfl
 ·rintro ys H1 ⟨rfl,rfl⟩ l hl1
  rw [← pl,List.take_length]
  have s1:=aj (o:=.lst ((iW xs).map V.int)) hl1
  have lh:(iW xs).length<=xs.length:=List.length_filterMap_le _ _
  refine ⟨l,iW xs,rfl,SqL.of ae,ω,λa2 o2 is2 ha2 sd2 m2=>?_⟩
  have s2:=aj (o:=Fq a2 o2) ha2
  obtain ⟨_,_,_,_,_,_,_,_,_,nd2,_⟩:=id sd2
  refine ⟨a2,o2,is2,rfl,ae,sd2,?_,λl3 ns3 hl3 so3=>?_⟩
  ·have:(is2.map (·.1)).length<=(iW xs).length:=List.Nodup.length_le_of_subset nd2 λn hn=>(m2 n).mp hn
   rw [List.length_map] at this
   omega
  have s3:=aj (o:=.lst (ns3.map V.int)) hl3
  refine ⟨l3,_,rfl,.inl ⟨SqL.of ae,λt ht=>?_⟩⟩
  exact q t ns3 _ (s1.trans (s2.trans (s3.trans (aj ht)))) ae ⟨so3.1.symm.nodup nd2,so3.2,λn=>so3.1.mem_iff.trans (m2 n)⟩
theorem qL{xs:List Stp}{x:Stp}(h:∀y∈xs,y.1≠.give)(r:List Stp):(x.1=.give->aD (xs++x::r)=xs.length):=λhx=>by
 unfold aD
 rw [List.findIdx_append,if_neg]
 ·rw [List.findIdx_cons,τ hx]
  simp
 ·intro z
  rw [List.findIdx_lt_length] at z
  obtain ⟨y,hy,e⟩:=z
  exact h y hy (Ξ e)
theorem qM{xs:List Stp}(h:∀y∈xs,y.1≠.give):aD xs=xs.length:=by
 unfold aD
 rw [List.findIdx_eq_length]
 exact λy hy=>Γ (h y hy)
theorem pA(F:Fun K "turning" "turning" iI f fd)(B:TxB mg)(T:TxP K CP)(W:TxW K CW)(GU:∀wd,GM P w K mg base CX0 1 (CW wd) "sure" ["self"] (lG wd)):FnOk P w K mg base CX0 2 f fd ["pact"] (oN CP CW):=by
 refine F.ok sc_turning (λvs H Q E h=>?_) (λcdv A outer s H vs Q E hr h=>?_)
 ·obtain ⟨v,b,xs,rfl,_⟩:=h
  rfl
 obtain ⟨v,b,xs,rfl,⟨a,dx,sl,tp,us,rfl,pa⟩,hl,q⟩:=h
 have nd:=sc_turning.nd
 have pl:xs.length=us.length:=pa.st.len
 refine ⟨_,ac (iK PassesOwn.never rfl (cS rfl B.range (aa (aB aA rfl B.len PySem.boot_len (aa (au (pv 0) rfl) ad)) ad)) (cn (i:=1) nd rfl (Or.inl rfl))
   (af (aE (bj (i5 λwd=>pm0 (GU wd) (aG (r:=cb K) aN (au (pv 0) rfl) (pv 1) (λ_ _=>rfl)) (W.cl wd) hr)) (af (aq (pv 1))) av)))
  (af (aq (aB aA rfl B.len PySem.boot_len (aa (au (pv 0) rfl) ad)))),?_⟩
 have hs:(100000:Nat)<=sizeLine:=by decide
 refine ⟨_,rfl,a,CP,dx,_,_,rfl,pa.ins,T.cl,T.np,tR _ _ _,tp,_,rfl,.inr (SqT.of pa.tp),_,rfl,ω,ω,?_⟩
 have e0:((us.length:Nat):Int).toNat=us.length:=rfl
 refine iY (n:=us.length) (λi σ H'=>H'=H/\(∀y∈xs.take i,y.1≠.give)/\∃x1,σ=[some (.ref a),x1]) ⟨rfl,(λy hy=>nomatch hy),none,rfl⟩ ?_ ?_
 ·rintro i σ H' hi ⟨rfl,nog,x1,rfl⟩
  obtain ⟨x,ex,sa,sdx,e,hsa⟩:=pa.st.get (ξ hi)
  have f1:=jb (m:="sure") θ θ θ θ θ x.1 x.2
  have ei:(0:Int)+(i:Nat)=((i:Nat):Int):=Int.zero_add _
  rw [ei]
  refine ⟨x.1,_,rfl,a,CP,dx,_,_,rfl,pa.ins,T.cl,T.np,tR _ _ _,_,rfl,tp,_,_,_,rfl,rfl,SqT.of pa.tp,aU (by rw [ξ hi,e]),sa,sdx,_,rfl,hsa,f1,_,rfl,_,rfl,?_⟩
  have et:xs=xs.take i++x::xs.drop (i+1):=by
   have hx:=(List.getElem?_eq_some_iff.mp ex)
   obtain ⟨h1,h2⟩:=hx
   rw [← h2]
   rw [← List.drop_eq_getElem_cons h1,List.take_append_drop]
  by_cases hg:x.1=.give
  ·rw [τ hg]
   refine aW ⟨_,rfl,?_⟩
   have z:=qL nog (xs.drop (i+1)) hg
   rw [← et,List.length_take,Nat.min_eq_left ω] at z
   rw [z] at q
   exact q
  ·rw [Γ hg]
   refine aI ⟨rfl,λy hy=>?_,_,rfl⟩
   rw [List.take_add_one,ex] at hy
   rcases List.mem_append.mp hy with hy | hy
   ·exact nog y hy
   ·have:y=x:=by simpa using hy
    rw [this]
    exact hg
 ·rintro σ H' ⟨rfl,nog,x1,rfl⟩
  rw [← pl,List.take_length] at nog
  rw [qM nog,pl] at q
  exact ⟨_,rfl,a,CP,dx,_,_,rfl,pa.ins,T.cl,T.np,tR _ _ _,tp,_,rfl,.inr (SqT.of pa.tp),q⟩
end
end K45
namespace K45
open PySem L2 Lo
section
variable {P:Program}{w:World}{K:Frag}{mg:Str->Option Value}{base:Heap}{f CL CS CP:Addr}{fd:FuncData}{C:Kd->Addr}{CW:Wd->Addr}
theorem rm(F:Fun K "__init__" "Stand.__init__" fe f fd)(B:TxB mg)(D:TxD K CS):FnOk P w K mg base CX0 1 f fd ["self","cells"] (p5 CS K):=by
 refine F.ok kr (λvs H Q E h=>?_) (λcdv A outer s H vs Q E hr h=>?_)
 ·obtain ⟨l,dx,c,cs,rfl,_⟩:=h
  rfl
 obtain ⟨l,dx,c,cs,rfl,hl,hc,hz,q⟩:=h
 refine ⟨_,ac (aL (pv 0) (aV fi rfl B.list PyProof.Rows.boot_list (aa (pv 1) ad)) rfl)
  (ac (aL (pv 0) (aQ ad) rfl) (ac (aL (pv 0) ig rfl) (ac (aL (pv 0) ig rfl) (ac (aL (pv 0) ig rfl) (ac (aL (pv 0) tX rfl) (af (aL (pv 0) ig rfl))))))),?_⟩
 refine ⟨_,rfl,c,_,rfl,.inl (SqL.of hc),λcl n1=>?_⟩
 obtain ⟨a1,a2,a3,k1⟩:=cQ (o:=.lst (cs.map V.int)) (fs':=ao "cells" (.ref cl) []) hl n1
 refine ⟨_,rfl,l,CS,dx,_,rfl,a1,D.cl,D.nc,(by show 0<1000;decide),?_⟩
 have z1:cl≠l:=bp a3 a2 (by intro z;cases z)
 generalize (upd (upd H cl (.lst (cs.map V.int))) l (.ins CS dx (ao "cells" (.ref cl) [])))=H1 at a2 a3 k1 ⊢
 refine ⟨χ,λbg n2=>?_⟩
 obtain ⟨b1,b2,b3,k2⟩:=cQ (o:=.lst []) (fs':=ao "begins" (.ref bg) (ao "cells" (.ref cl) [])) a2 n2
 refine ⟨_,rfl,l,CS,dx,_,rfl,b1,D.cl,D.nb,(cD (n:=999) (by show 0<999;decide)),?_⟩
 have z2:bg≠l:=bp b3 b2 (by intro z;cases z)
 generalize (upd (upd H1 bg (.lst [])) l (.ins CS dx (ao "begins" (.ref bg) (ao "cells" (.ref cl) []))))=H2 at b2 b3 k2 ⊢
 refine λwk n3=>?_
 obtain ⟨c1,c2,c3,k3⟩:=cQ (o:=.dT []) (fs':=ao "worked" (.ref wk) (ao "begins" (.ref bg) (ao "cells" (.ref cl) []))) b2 n3
 refine ⟨_,rfl,l,CS,dx,_,rfl,c1,D.cl,D.nw,(cD (n:=999) (cD (n:=998) (by show 0<998;decide))),?_⟩
 have z3:wk≠l:=bp c3 c2 (by intro z;cases z)
 generalize (upd (upd H2 wk (.dT [])) l (.ins CS dx (ao "worked" (.ref wk) (ao "begins" (.ref bg) (ao "cells" (.ref cl) [])))))=H3 at c2 c3 k3 ⊢
 refine λrd n4=>?_
 obtain ⟨d1,d2,d3,k4⟩:=cQ (o:=.dT []) (fs':=ao "readies" (.ref rd) (ao "worked" (.ref wk) (ao "begins" (.ref bg) (ao "cells" (.ref cl) [])))) c2 n4
 refine ⟨_,rfl,l,CS,dx,_,rfl,d1,D.cl,D.nr,(cD (n:=999) (cD (n:=998) (cD (n:=997) (by show 0<997;decide)))),?_⟩
 have z4:rd≠l:=bp d3 d2 (by intro z;cases z)
 generalize (upd (upd H3 rd (.dT [])) l (.ins CS dx (ao "readies" (.ref rd) (ao "worked" (.ref wk) (ao "begins" (.ref bg) (ao "cells" (.ref cl) []))))))=H4 at d2 d3 k4 ⊢
 refine λen n5=>?_
 obtain ⟨e1,e2,e3,k5⟩:=cQ (o:=.dT []) (fs':=ao "ends" (.ref en) (ao "readies" (.ref rd) (ao "worked" (.ref wk) (ao "begins" (.ref bg) (ao "cells" (.ref cl) []))))) d2 n5
 refine ⟨_,rfl,l,CS,dx,_,rfl,e1,D.cl,D.ne,(cD (n:=999) (cD (n:=998) (cD (n:=997) (cD (n:=996) (by show 0<996;decide))))),?_⟩
 have z5:en≠l:=bp e3 e2 (by intro z;cases z)
 generalize (upd (upd H4 en (.dT [])) l (.ins CS dx (ao "ends" (.ref en) (ao "readies" (.ref rd) (ao "worked" (.ref wk) (ao "begins" (.ref bg) (ao "cells" (.ref cl) [])))))))=H5 at e2 e3 k5 ⊢
 refine λwa n6=>?_
 obtain ⟨f1,f2,f3,k6⟩:=cQ (o:=NDt wa []) (fs':=ao "walks" (.ref wa) (ao "ends" (.ref en) (ao "readies" (.ref rd) (ao "worked" (.ref wk) (ao "begins" (.ref bg) (ao "cells" (.ref cl) [])))))) e2 n6
 refine ⟨_,rfl,l,CS,dx,_,rfl,f1,D.cl,D.na,(cD (n:=999) (cD (n:=998) (cD (n:=997) (cD (n:=996) (cD (n:=995) (by show 0<995;decide)))))),?_⟩
 have z6:wa≠l:=bp f3 f2 (by intro z;cases z)
 generalize (upd (upd H5 wa (NDt wa [])) l (.ins CS dx (ao "walks" (.ref wa) (ao "ends" (.ref en) (ao "readies" (.ref rd) (ao "worked" (.ref wk) (ao "begins" (.ref bg) (ao "cells" (.ref cl) []))))))))=H6 at f2 f3 k6 ⊢
 refine λov n7=>?_
 obtain ⟨g1,g2,g3,k7⟩:=cQ (o:=.dT []) (fs':=sf ⟨l,dx,cl,bg,wk,rd,en,wa,ov⟩) f2 n7
 refine ⟨_,rfl,l,CS,dx,_,rfl,g1,D.cl,D.no,(cD (n:=999) (cD (n:=998) (cD (n:=997) (cD (n:=996) (cD (n:=995) (cD (n:=994) (by show 0<994;decide))))))),?_⟩
 have z7:ov≠l:=bp g3 g2 (by intro z;cases z)
 have a4:=k2 _ _ z1 a3
 have a5:=k3 _ _ z1 a4
 have a6:=k4 _ _ z1 a5
 have a7:=k5 _ _ z1 a6
 have a8:=k6 _ _ z1 a7
 have a9:=k7 _ _ z1 a8
 have b4:=k3 _ _ z2 b3
 have b5:=k4 _ _ z2 b4
 have b6:=k5 _ _ z2 b5
 have b7:=k6 _ _ z2 b6
 have b8:=k7 _ _ z2 b7
 have c4:=k4 _ _ z3 c3
 have c5:=k5 _ _ z3 c4
 have c6:=k6 _ _ z3 c5
 have c7:=k7 _ _ z3 c6
 have d4:=k5 _ _ z4 d3
 have d5:=k6 _ _ z4 d4
 have d6:=k7 _ _ z4 d5
 have e4:=k6 _ _ z5 e3
 have e5:=k7 _ _ z5 e4
 have f4:=k7 _ _ z6 f3
 refine q ⟨l,dx,cl,bg,wk,rd,en,wa,ov⟩ _ rfl ⟨[],g2,?_,.nil,(λx hx=>nomatch hx),⟨(λx hx=>nomatch hx),List.nodup_nil⟩,?_⟩ ?_ ((((((k1.trans k2).trans k3).trans k4).trans k5).trans k6).trans k7)
 ·intro x hx
  simp only [fo,List.mem_cons,List.not_mem_nil,or_false] at hx
  rcases hx with e | e | e | e | e | e | e<;>subst e
  ·exact a9
  ·exact b8
  ·exact c7
  ·exact d6
  ·exact e5
  ·exact f4
  ·exact g3
 ·show [cl,bg,wk,rd,en,wa,ov].Nodup
  have y12:cl≠bg:=ah a3 n2
  have y13:cl≠wk:=ah a4 n3
  have y14:cl≠rd:=ah a5 n4
  have y15:cl≠en:=ah a6 n5
  have y16:cl≠wa:=ah a7 n6
  have y17:cl≠ov:=ah a8 n7
  have y23:bg≠wk:=ah b3 n3
  have y24:bg≠rd:=ah b4 n4
  have y25:bg≠en:=ah b5 n5
  have y26:bg≠wa:=ah b6 n6
  have y27:bg≠ov:=ah b7 n7
  have y34:wk≠rd:=ah c3 n4
  have y35:wk≠en:=ah c4 n5
  have y36:wk≠wa:=ah c5 n6
  have y37:wk≠ov:=ah c6 n7
  have y45:rd≠en:=ah d3 n5
  have y46:rd≠wa:=ah d4 n6
  have y47:rd≠ov:=ah d5 n7
  have y56:en≠wa:=ah e3 n6
  have y57:en≠ov:=ah e4 n7
  have y67:wa≠ov:=ah f3 n7
  simp [*]
 ·intro b hb
  have hb':b∈[cl,bg,wk,rd,en,wa,ov]:=hb
  simp only [List.mem_cons,List.not_mem_nil,or_false] at hb'
  rcases hb' with e | e | e | e | e | e | e<;>subst e
  ·exact n1
  ·exact cE k1 a2 n2
  ·exact cE (k1.trans k2) b2 n3
  ·exact cE ((k1.trans k2).trans k3) c2 n4
  ·exact cE (((k1.trans k2).trans k3).trans k4) d2 n5
  ·exact cE ((((k1.trans k2).trans k3).trans k4).trans k5) e2 n6
  ·exact cE (((((k1.trans k2).trans k3).trans k4).trans k5).trans k6) f2 n7
section
variable (CS:Addr)(K:Frag)
def oT:Sp:=λvs H Q _=>∃A d r p,vs=[.ref A.l,.ref r]/\St CS K H A d/\RwAt K H (.over p) r/\∀t,H t=none->Q (.ref t) (upd H t (.tup []))
def lM:Sp:=λvs H Q _=>∃A d r p,vs=[.ref A.l,.ref r]/\St CS K H A d/\RwAt K H (.over p) r/\d.Small 900/\∀b H',St CS K H' A (d.keep r b (.over p))->KpS A H H'->Q .non H'
def jp:Sp:=λvs H Q _=>∃A d,vs=[.ref A.l]/\St CS K H A d/\d.ends=[]/\∀v H',Same H H'->NwAt K H' d.ends v->Q v H'
end
theorem pwn{X:Cx}{e:Expr}:PW X e (λ_ _ _=>False):=λ_ _ _ _ _ _ _ h=>h.elim
theorem eV{p:Pa}{a:Str}(h:decide ((Str.ofString "over")=a)=false):decide (V.str (Rw.over p).wd=V.str a)=false:=Γ λz=>of_decide_eq_false h (V.str.inj z)
theorem wI(F:Fun K "changes_of" "Stand.changes_of" cy f fd):FnOk P w K mg base CX0 1 f fd ["self","row"] (oT CS K):=by
 refine F.ok gx (λvs H Q E h=>?_) (λcdv A outer s H vs Q E hr h=>?_)
 ·obtain ⟨A,d,r,p,rfl,_⟩:=h
  rfl
 obtain ⟨S,d,r,p,rfl,st,⟨pv0,us,hrow,_⟩,q⟩:=h
 refine ⟨_,ac (aE (PW.pt (bH (ak aO (aG (r:=cb K) aN (pv 1) ai (λ_ _=>rfl)) ay (ap _)) pwn)) aH av)
  (ac (aE (PW.pt (i0 (ak aO (aG (r:=cb K) aN (pv 1) ai (λ_ _=>rfl)) ay (ap _)) (gS (ak aO (aG (r:=cb K) aN (pv 1) ai (λ_ _=>rfl)) ay (ap _))))) aH av)
  (af (aq (bi ad)))),?_⟩
 refine ⟨_,rfl,r,_,_,_,rfl,rfl,SqT.of hrow,at0,rfl,_,rfl,?_⟩
 rw [eV θ]
 refine aI (aI ⟨_,rfl,r,_,_,_,rfl,rfl,SqT.of hrow,at0,rfl,_,rfl,?_⟩)
 rw [eV θ]
 refine aI ⟨_,rfl,r,_,_,_,rfl,rfl,SqT.of hrow,at0,rfl,_,rfl,?_⟩
 rw [eV θ]
 exact aI ⟨χ,λt ht=>q t ht⟩
theorem ux(F:Fun K "keep" "Stand.keep" fb f fd)(D:TxD K CS)(GC:GM P w K mg base CX0 1 CS "changes_of" ["self","row"] (oT CS K)):FnOk P w K mg base CX0 2 f fd ["self","row"] (lM CS K):=by
 refine F.ok sc_Stand_keep (λvs H Q E h=>?_) (λcdv A outer s H vs Q E hr h=>?_)
 ·obtain ⟨A,d,r,p,rfl,_⟩:=h
  rfl
 obtain ⟨S,d,r,p,rfl,⟨us0,st⟩,rw0,sm,q⟩:=h
 have nd:=sc_Stand_keep.nd
 refine ⟨_,ac (iK PassesOwn.never rfl (tO (pm GC (pv 0) D.cl hr (aa (pv 1) ad))) (cn (i:=2) nd rfl (Or.inl rfl)) aH)
  (ac (aC (i:=3) nd rfl (Or.inl rfl) (aG (r:=cb K) aN (pv 1) ai (λ_ _=>rfl)))
  (af (aE (ak aO (aG (r:=cb K) aN (pv 1) ai (λ_ _=>rfl)) ay (ap _)) aH
  (af (aE (ak aO (aG (r:=cb K) aN (pv 1) ai (λ_ _=>rfl)) ay (ap _)) aH
  (af (aE (ak aO (aG (r:=cb K) aN (pv 1) ai (λ_ _=>rfl)) ay (ap _)) aH
  (af (aE (ak aO (aG (r:=cb K) aN (pv 1) ai (λ_ _=>rfl)) ay (ap _)) aH
  (af (aE (ak aO (aG (r:=cb K) aN (pv 1) ai (λ_ _=>rfl)) ay (ap _)) (af (wg (oh hr) (au (pv 0) rfl) (pv 3) cH rfl)) aH))))))))))),?_⟩
 refine ⟨_,rfl,S.l,S.dx,_,rfl,st.ins,qe θ,_,rfl,S,d,r,p,rfl,⟨us0,st⟩,rw0,λt ht=>?_⟩
 have s1:=aj (o:=.tup []) ht
 have ht1:(upd H t (.tup [])) t=some (.tup []):=ae
 have st1:=st.keep s1
 have rw1:=rw0.keep s1.ts
 generalize (upd H t (HO.tup []))=H1 at s1 ht1 st1 rw1 ⊢
 refine ⟨t,rfl,⟨_,SqT.of ht1⟩,?_⟩
 refine wY (xs:=[]) (λi σ H'=>σ=[some (.ref S.l),some (.ref r),none,none]/\H'=H1) ⟨rfl,rfl⟩ (λi σ H' _ z=>by rw [z.2];exact SqT.of ht1) (λi u σ H2 hu _=>by cases hu) ?_
 rintro σ H2 ⟨rfl,rfl⟩
 obtain ⟨pv0,us,hrow,⟨pa,rfl,hpa⟩,hm⟩:=rw1
 refine ⟨_,rfl,r,_,_,_,rfl,rfl,SqT.of hrow,at1,?_⟩
 refine ⟨_,rfl,r,_,_,_,rfl,rfl,SqT.of hrow,at0,rfl,_,rfl,?_⟩
 rw [eV θ]
 refine aI ⟨_,rfl,r,_,_,_,rfl,rfl,SqT.of hrow,at0,rfl,_,rfl,?_⟩
 rw [eV θ]
 refine aI ⟨_,rfl,r,_,_,_,rfl,rfl,SqT.of hrow,at0,rfl,_,rfl,?_⟩
 rw [eV θ]
 refine aI ⟨_,rfl,r,_,_,_,rfl,rfl,SqT.of hrow,at0,rfl,_,rfl,?_⟩
 rw [eV θ]
 refine aI ⟨_,rfl,r,_,_,_,rfl,rfl,SqT.of hrow,at0,rfl,_,rfl,bv (λ_=>?_) (λc=>absurd (τ rfl) c)⟩
 refine ⟨_,rfl,S.l,CS,S.dx,_,_,rfl,st1.ins,D.cl,D.no,zS S,_,rfl,S.ov,_,rfl,DPut.t (k:=pk p) st1.ov hpa (bw (by unfold dW;rw [List.length_map];have:=sm.ov;show d.overs.length<=1000;omega)),?_⟩
 rw [yk]
 obtain ⟨st4,k4⟩:=st1.put 6 (a:=S.ov) (o':=.dT (dW (pW d.overs p))) (d':=d.keep r r (.over p)) rfl rfl st1.bg st1.rd st1.wa
 exact q r _ ⟨_,st4⟩ ((KpS.of s1).trans k4)
theorem uv(F:Fun K "news" "Stand.news" eX f fd)(B:TxB mg)(D:TxD K CS):FnOk P w K mg base CX0 1 f fd ["self"] (jp CS K):=by
 refine F.ok kq (λvs H Q E h=>?_) (λcdv A outer s H vs Q E hr h=>?_)
 ·obtain ⟨A,d,rfl,_⟩:=h
  rfl
 obtain ⟨S,d,rfl,⟨us0,st⟩,h0,q⟩:=h
 refine ⟨_,af (aq (aV eE rfl B.tuple PyProof.Rows.boot_tuple (aa (aB (mF rfl) rfl B.sorted PyProof.Rows.boot_sorted (aa (tW (au (pv 0) rfl)) ad)) ad))),?_⟩
 have en:=st.en
 rw [h0] at en q
 refine ⟨_,rfl,S.l,CS,S.dx,_,_,rfl,st.ins,D.cl,D.ne,zT S,S.en,_,rfl,en,λv hv=>?_⟩
 have s1:=aj (o:=Vw v S.en) hv
 refine ⟨v,S.en,rfl,ae,s1 _ _ en,λl hl=>?_⟩
 have s3:=aj (o:=.lst []) hl
 refine ⟨l,[],rfl,.inl ⟨SqL.of ae,λt ht=>?_⟩⟩
 exact q _ _ (s1.trans (s3.trans (aj ht))) ⟨t,[],rfl,ae,.nil⟩
variable {CH:Addr}
theorem uB(F:Fun K "__init__" "Sheet.__init__" fh f fd)(DH:TxH K CH):FnOk P w K mg base CX0 1 f fd ["self","stand"] (p9 CS CH K):=by
 refine F.ok ku (λvs H Q E h=>?_) (λcdv A outer s H vs Q E hr h=>?_)
 ·obtain ⟨l,dx,A,d,rfl,_⟩:=h
  rfl
 obtain ⟨l,dx,S,d,rfl,hl,st,nSl,q⟩:=h
 refine ⟨_,ac (aL (pv 0) (pv 1) rfl) (ac (aL (pv 0) (aQ ad) rfl) (ac (aL (pv 0) (aQ ad) rfl) (af (aL (pv 0) aY rfl)))),?_⟩
 refine ⟨_,rfl,_,rfl,l,CH,dx,_,rfl,hl,DH.cl,DH.ht,(by show 0<1000;decide),?_⟩
 have k1:Kp l H (upd H l (.ins CH dx (ao "stand" (.ref S.l) []))):=aX
 have h1:(upd H l (.ins CH dx (ao "stand" (.ref S.l) []))) l=some (.ins CH dx (ao "stand" (.ref S.l) [])):=ae
 generalize (upd H l (HO.ins CH dx (ao "stand" (.ref S.l) [])))=H1 at k1 h1 ⊢
 refine ⟨χ,λrw' n1=>?_⟩
 obtain ⟨b1,b2,b3,k2⟩:=cQ (o:=.lst []) (fs':=ao "rows" (.ref rw') (ao "stand" (.ref S.l) [])) h1 n1
 refine ⟨_,rfl,l,CH,dx,_,rfl,b1,DH.cl,DH.hw,(cD (n:=999) (by show 0<999;decide)),?_⟩
 have z2:rw'≠l:=bp b3 b2 (by intro z;cases z)
 generalize (upd (upd H1 rw' (.lst [])) l (.ins CH dx (ao "rows" (.ref rw') (ao "stand" (.ref S.l) []))))=H2 at b2 b3 k2 ⊢
 refine ⟨χ,λsn n2=>?_⟩
 obtain ⟨c1,c2,c3,k3⟩:=cQ (o:=.lst []) (fs':=ao "sent" (.ref sn) (ao "rows" (.ref rw') (ao "stand" (.ref S.l) []))) b2 n2
 refine ⟨_,rfl,l,CH,dx,_,rfl,c1,DH.cl,DH.hs,(cD (n:=999) (cD (n:=998) (by show 0<998;decide))),?_⟩
 have z3:sn≠l:=bp c3 c2 (by intro z;cases z)
 have b4:=k3 _ _ z2 b3
 generalize (upd (upd H2 sn (.lst [])) l (.ins CH dx (ao "sent" (.ref sn) (ao "rows" (.ref rw') (ao "stand" (.ref S.l) [])))))=H3 at c2 c3 k3 b4 ⊢
 refine ⟨_,rfl,l,CH,dx,_,rfl,c2,DH.cl,DH.hl,(cD (n:=999) (cD (n:=998) (cD (n:=997) (by show 0<997;decide)))),?_⟩
 have k4:Kp l H3 (upd H3 l (.ins CH dx (hf S.l ⟨l,dx,rw',sn⟩ .non))):=aX
 have h4:(upd H3 l (.ins CH dx (hf S.l ⟨l,dx,rw',sn⟩ .non))) l=some (.ins CH dx (hf S.l ⟨l,dx,rw',sn⟩ .non)):=ae
 have kA:Kp l H (upd H3 l (.ins CH dx (hf S.l ⟨l,dx,rw',sn⟩ .non))):=k1.trans (k2.trans (k3.trans k4))
 have r0:H rw'=none:=cE k1 h1 n1
 have s0:H sn=none:=cE (k1.trans k2) b2 n2
 have no:∀{b:Addr},H b=none->b∉S.own:=λ{b} hb hm=>by
  obtain ⟨us0,stu⟩:=st
  obtain ⟨o,e,_⟩:=stu.own hm
  rw [hb] at e
  cases e
 have lo:l∉S.own:=λhm=>by
  obtain ⟨us0,stu⟩:=st
  obtain ⟨o,e,_,n⟩:=stu.own hm
  rw [hl] at e
  cases e
  exact n _ _ _ rfl
 have ts:bh H (upd H3 l (.ins CH dx (hf S.l ⟨l,dx,rw',sn⟩ .non))):=λb xs e=>kA b _ (λz=>by rw [z,hl] at e;cases e) e
 exact q ⟨l,dx,rw',sn⟩ _ rfl ⟨st.kp kA lo ts nSl,h4,k4 _ _ z2 b4,⟨[],k4 _ _ z3 c3,.nil⟩,.inl rfl,lo,no r0,no s0,ah b3 n2,nSl⟩ r0 s0 kA
section
variable (CS CH:Addr)(K:Frag)
def lP:Sp:=λvs H Q _=>∃A h d rs ws v r p,vs=[.ref h.l,.ref r]/\ShA CS CH K H A h d rs ws v/\RwAt K H (.over p) r/\d.Small 60/\d.ends=[]/\rs.length<=900 /\
 ∀b v' H',ShA CS CH K H' A h (d.keep r b (.over p)) (rs++[r]) ws v'->KpH A h H H'->Q .non H'
def jr:Sp:=λvs H Q _=>∃A h d rs ws v,vs=[.ref h.l]/\ShA CS CH K H A h d rs ws v/\d.ends=[]/\ws.length<=900/\∀p us H',Same H H'->H p=none->H' p=some (.lst us)->Paired (LtAt K H' d.ends) ws us->Q (.ref p) H'
end
theorem uA(F:Fun K "row" "Sheet.row" fX f fd)(D:TxD K CS)(DH:TxH K CH)(GK:GM P w K mg base CX0 2 CS "keep" ["self","row"] (lM CS K))(GW:GM P w K mg base CX0 1 CS "news" ["self"] (jp CS K)) :
  FnOk P w K mg base CX0 3 f fd ["self","row"] (lP CS CH K):=by
 refine F.ok l9 (λvs H Q E h=>?_) (λcdv A outer s H vs Q E hr h=>?_)
 ·obtain ⟨A,h,d,rs,ws,v,r,p,rfl,_⟩:=h
  rfl
 obtain ⟨S,h,d,rs,ws,v,r,p,rfl,sh,hw,sm,h0,hrs,q⟩:=h
 refine ⟨_,ac (bf (pm GK (au (pv 0) rfl) D.cl hr (aa (pv 1) ad)))
  (ac (bf (dj PySem.F.plainAttrs_list PySem.F.slot_list_append PySem.F.type_list_append cp (au (pv 0) rfl) (aa (pv 1) ad)))
  (af (aL (pv 0) (pm0 GW (au (pv 0) rfl) D.cl hr) rfl))),?_⟩
 refine ⟨_,rfl,h.l,CH,h.dx,_,_,rfl,sh.ins,DH.cl,DH.ht,uX _ _ _,S.l,S.dx,_,rfl,sh.st.ins,qe θ,_,rfl,S,d,r,p,rfl,sh.st,hw,sm.mono ζ,λkb H1 st1 k1=>?_⟩
 have ts1:=sh.st.ts k1
 obtain ⟨us,hsn,pws⟩:=sh.snt
 have ins1:=k1 _ _ sh.n1 sh.ins
 have rws1:=k1 _ _ sh.n2 sh.rws
 have hsn1:=k1 _ _ sh.n3 hsn
 refine ⟨_,rfl,h.l,CH,h.dx,_,_,rfl,ins1,DH.cl,DH.hw,xE _ _ _,.inl ⟨rfl,_,SqL.of rws1⟩,_,rfl,h.rw,_,_,rfl,rfl,rws1,bw (by rw [List.length_map];omega),?_⟩
 have kp2:Kp h.rw H1 (upd H1 h.rw (.lst (rs.map V.ref++[.ref r]))):=aX
 have ts2:bh H1 (upd H1 h.rw (.lst (rs.map V.ref++[.ref r]))):=λb xs e=>kp2 b _ (λz=>by rw [z,rws1] at e;cases e) e
 have nlr:h.l≠h.rw:=bp ins1 rws1 (by intro z;cases z)
 have nls:h.l≠h.sn:=bp ins1 hsn1 (by intro z;cases z)
 have ins2:=kp2 _ _ nlr ins1
 have hsn2:=kp2 _ _ (Ne.symm sh.n4) hsn1
 have rws2:(upd H1 h.rw (.lst (rs.map V.ref++[.ref r]))) h.rw=some (.lst ((rs++[r]).map V.ref)):=by rw [ae,List.map_append];rfl
 have st2:=st1.kp kp2 sh.n2 ts2 (λz=>by rw [← z,st1.ins] at rws1;cases rws1)
 generalize (upd H1 h.rw (HO.lst (rs.map V.ref++[.ref r])))=H2 at kp2 ts2 ins2 hsn2 rws2 st2 ⊢
 have hen:(d.keep r kb (.over p)).ends=[]:=h0
 refine ⟨_,rfl,h.l,CH,h.dx,_,_,rfl,ins2,DH.cl,DH.ht,uX _ _ _,S.l,S.dx,_,rfl,st2.ins,qe θ,S,_,rfl,st2,hen,λv' H3 s3 nw=>?_⟩
 have ins3:=s3 _ _ ins2
 refine ⟨_,rfl,h.l,CH,h.dx,_,rfl,ins3,DH.cl,DH.hl,zp _ _ _,?_⟩
 rw [zo]
 have kp4:Kp h.l H3 (upd H3 h.l (.ins CH h.dx (hf S.l h v'))):=aX
 have ts4:bh H3 (upd H3 h.l (.ins CH h.dx (hf S.l h v'))):=λb xs e=>kp4 b _ (λz=>by rw [z,ins3] at e;cases e) e
 have tsA:bh H (upd H3 h.l (.ins CH h.dx (hf S.l h v'))):=λb xs e=>ts4 _ _ (s3.ts _ _ (ts2 _ _ (ts1 _ _ e)))
 refine q kb v' _ ⟨(st2.keep s3).kp kp4 sh.n1 ts4 sh.n5,ae,kp4 _ _ (Ne.symm nlr) (s3 _ _ rws2),⟨us,kp4 _ _ (Ne.symm nls) (s3 _ _ hsn2),Paired.mapP pws λ_ _ z=>z.keep tsA⟩,.inr (nw.keep ts4),sh.n1,sh.n2,sh.n3,sh.n4,sh.n5⟩ λb o nb e=>?_
 simp only [Ah.own,List.mem_cons,not_or] at nb
 exact kp4 _ _ nb.1 (s3 _ _ (kp2 _ _ nb.2.1 (k1 _ _ nb.2.2.2 e)))
theorem uy(F:Fun K "send" "Sheet.send" fg f fd)(DH:TxH K CH):FnOk P w K mg base CX0 1 f fd ["self","to","word","p","more"] (jq CS CH K):=by
 refine F.ok kt (λvs H Q E h=>?_) (λcdv A outer s H vs Q E hr h=>?_)
 ·obtain ⟨A,h,d,rs,ws,v,x,rfl,_⟩:=h
  rfl
 obtain ⟨S,h,d,rs,ws,v,x,rfl,sh,hz,q⟩:=h
 obtain ⟨us,hsn,pws⟩:=sh.snt
 refine ⟨_,af (bf (dj PySem.F.plainAttrs_list PySem.F.slot_list_append PySem.F.type_list_append cp (au (pv 0) rfl) (aa (bi (aa (pv 1) (aa (bi (aa (pv 2) (aa (pv 3) (aa (pv 4) ad)))) ad))) ad))),?_⟩
 refine ⟨_,rfl,h.l,CH,h.dx,_,_,rfl,sh.ins,DH.cl,DH.hs,xD _ _ _,.inl ⟨rfl,_,SqL.of hsn⟩,_,rfl,_,rfl,_,rfl,_,rfl,χ,λt2 ht2=>⟨χ,λt ht=>?_⟩⟩
 have s1:=aj (o:=.tup [.str x.2.1,.ref x.2.2.1,.ref x.2.2.2]) ht2
 have s2:=aj (o:=.tup [.int x.1,.ref t2]) ht
 have hw:WsAt (upd (upd H t2 (.tup [.str x.2.1,.ref x.2.2.1,.ref x.2.2.2])) t (.tup [.int x.1,.ref t2])) x (.ref t):=⟨t,t2,rfl,ae,s2 _ _ ae⟩
 have s12:=s1.trans s2
 have sh2:=sh.keep s12
 have hsn2:=s12 _ _ hsn
 generalize (upd (upd H t2 (HO.tup [.str x.2.1,.ref x.2.2.1,.ref x.2.2.2])) t (HO.tup [.int x.1,.ref t2]))=H2 at s12 sh2 hsn2 hw ⊢
 refine ⟨h.sn,us,_,rfl,rfl,hsn2,bw (by rw [← pws.len];omega),?_⟩
 have kp3:Kp h.sn H2 (upd H2 h.sn (.lst (us++[.ref t]))):=aX
 have ts3:bh H2 (upd H2 h.sn (.lst (us++[.ref t]))):=λb xs e=>kp3 b _ (λz=>by rw [z,hsn2] at e;cases e) e
 refine q _ ⟨sh2.st.kp kp3 sh.n3 ts3 (λz=>by have e:=sh2.st.ins;rw [z,hsn2] at e;cases e),kp3 _ _ (bp sh2.ins hsn2 (by intro z;cases z)) sh2.ins,kp3 _ _ sh.n4 sh2.rws,⟨_,ae,(Paired.mapP pws λ_ _ z=>(z.keep s12.ts).keep ts3).app (.cons (hw.keep ts3) .nil)⟩,sh2.lat.imp id λz=>z.keep ts3,sh.n1,sh.n2,sh.n3,sh.n4,sh.n5⟩ λb o nb e=>?_
 simp only [Ah.own,List.mem_cons,not_or] at nb
 exact kp3 _ _ nb.2.2.1 (s12 _ _ e)
theorem uz(F:Fun K "rows_told" "Sheet.rows_told" cK f fd)(B:TxB mg)(DH:TxH K CH):FnOk P w K mg base CX0 1 f fd ["self"] (lO CS CH K):=by
 refine F.ok gN (λvs H Q E h=>?_) (λcdv A outer s H vs Q E hr h=>?_)
 ·obtain ⟨A,h,d,rs,ws,v,rfl,_⟩:=h
  rfl
 obtain ⟨S,h,d,rs,ws,v,rfl,sh,q⟩:=h
 refine ⟨_,af (aq (aV fi rfl B.list PyProof.Rows.boot_list (aa (au (pv 0) rfl) ad))),?_⟩
 exact ⟨_,rfl,h.l,CH,h.dx,_,_,rfl,sh.ins,DH.cl,DH.hw,xE _ _ _,h.rw,_,rfl,.inl (SqL.of sh.rws),λp hp=>q p _ (aj hp) hp ae⟩
variable {CH:Addr}
def AD(CS CH:Addr)(K:Frag):TS:=λD σ H=>∃S h d rs ws v nv,σ=[some (.ref (h:Ah).l),some nv]/\ShA CS CH K H S h d rs ws v/\ws.length<=900/\NwAt K H d.ends nv/\∀p us H',Same H H'->H p=none->H' p=some (.lst us)->Paired (LtAt K H' d.ends) ws us->D.rt (.ref p) H'
theorem wG(F:Fun K "letters_told" "Sheet.letters_told" be f fd)(D:TxD K CS)(DH:TxH K CH)(GW:GM P w K mg base CX0 1 CS "news" ["self"] (jp CS K)) :
  FnOk P w K mg base CX0 2 f fd ["self"] (jr CS CH K):=by
 refine F.ok sc_Sheet_letters_told (λvs H Q E h=>?_) (λcdv A outer s H vs Q E hr h=>?_)
 ·obtain ⟨A,h,d,rs,ws,v,rfl,_⟩:=h
  rfl
 obtain ⟨S,h,d,rs,ws,v,rfl,sh,hen,hz,q⟩:=h
 have nd:=sc_Sheet_letters_told.nd
 refine ⟨_,ac (aC (i:=1) nd rfl (Or.inr rfl) (jP (ak gX (au (pv 0) rfl) aY (ap _)) (pm0 GW (au (pv 0) rfl) D.cl hr) (au (pv 0) rfl)))
  (br (AD CS CH K) (af (aq (i4 eF rfl (ju (au (pv 0) rfl)) (λ_ _ _ _=>eT) (λ_ _ _ _=>bi (aa (aG (r:=cb K) aN (pv 0) ai (λ_ _=>rfl)) (aa (aF (r:=xt K) wq (aG (r:=cb K) aN (pv 0) ai (λ_ _=>rfl)) (bi (aa (pv 1) ad))) ad)))))) ?v1),?_⟩
 case v1 =>
  rintro D0 σ H ⟨S,h,d,rs,ws,v,nv,rfl,sh,hz,hnv,q⟩
  obtain ⟨us,hsn,pws⟩:=sh.snt
  refine ⟨_,rfl,h.l,CH,h.dx,_,_,rfl,sh.ins,DH.cl,DH.hs,xD _ _ _,h.sn,rfl,⟨_,SqL.of hsn⟩,?_⟩
  refine mv (xs:=us) (λi ys H'=>Same H H'/\Paired (LtAt K H' d.ends) (ws.take i) ys) ⟨Same.refl _,.nil⟩ (zQ (by rw [← pws.len];omega)) (λi ys H' _ z=>SqL.of (z.1 _ _ hsn)) ?_ ?_
  ·rintro i u ys H1 hu ⟨s1,py⟩
   obtain ⟨x,ex,t,t2,rfl,ht,ht2⟩:=pws.get hu
   have et:ws.take (i+1)=ws.take i++[x]:=by rw [List.take_succ,ex];rfl
   refine kN ⟨_,rfl,t,_,_,_,rfl,rfl,SqT.of (s1 _ _ ht),at0,_,rfl,t,_,_,_,rfl,rfl,SqT.of (s1 _ _ ht),at1,_,rfl,χ,λt3 ht3=>?_⟩
   have s3:=aj (o:=.tup [nv]) ht3
   refine ⟨t2,t3,_,_,rfl,rfl,SqT.of (s3 _ _ (s1 _ _ ht2)),SqT.of ae,(λz=>by cases z),χ,(λz=>by cases z),λ_ t4 ht4=>⟨χ,λt5 ht5=>?_⟩⟩
   have s4:=aj (o:=.tup ([.str x.2.1,.ref x.2.2.1,.ref x.2.2.2]++[nv])) ht4
   have s5:=aj (o:=.tup [.int x.1,.ref t4]) ht5
   have s15:=s1.trans (s3.trans (s4.trans s5))
   rw [et]
   exact ⟨s15,(Paired.mapP py λ_ _ z=>z.keep (s3.trans (s4.trans s5)).ts).app (.cons ⟨t5,t4,nv,rfl,ae,s5 _ _ ae,hnv.keep s15.ts⟩ .nil)⟩
  ·rintro ys H1 ⟨s1,py⟩ p hp
   rw [← pws.len,List.take_length] at py
   have s2:=aj (o:=.lst ys) hp
   have hp0:H p=none:=by
    cases e:H p with
    | none=>rfl
    | some o=>rw [s1 _ _ e] at hp;cases hp
   exact q p ys _ (s1.trans s2) hp0 ae (Paired.mapP py λ_ _ z=>z.keep s2.ts)
 refine ⟨_,rfl,h.l,CH,h.dx,_,_,rfl,sh.ins,DH.cl,DH.hl,xF _ _ _,rfl,_,rfl,?_⟩
 by_cases e:v=.non
 ·refine bv (λ_=>?_) (λc=>absurd (τ e) c)
  refine ⟨_,rfl,h.l,CH,h.dx,_,_,rfl,sh.ins,DH.cl,DH.ht,uX _ _ _,S.l,S.dx,_,rfl,sh.st.ins,qe θ,S,d,rfl,sh.st,hen,λnv H1 s1 nw=>?_⟩
  exact ⟨S,h,d,rs,ws,v,nv,rfl,sh.keep s1,hz,nw,λp us H' s' hp=>q p us H' (s1.trans s') (by
   cases e:H p with
   | none=>rfl
   | some o=>rw [s1 _ _ e] at hp;cases hp)⟩
 ·refine bv (λc=>absurd (Ξ c) e) (λ_=>?_)
  refine ⟨_,rfl,h.l,CH,h.dx,_,_,rfl,sh.ins,DH.cl,DH.hl,xF _ _ _,?_⟩
  exact ⟨S,h,d,rs,ws,v,v,rfl,sh,hz,sh.lat.resolve_left e,q⟩
end
end K45
namespace K45
open PySem L2 Lo St
section
variable {P:Program}{w:World}{K:Frag}{mg:Str->Option Value}{base:Heap}{f CL CS CP:Addr}{fd:FuncData}{C:Kd->Addr}{CW:Wd->Addr}
theorem uc(F:Fun K "spell" "spell" h9 f fd)(GS:GF P w K mg base CX0 2 "shown" ["thing"] K45T.lH):FnOk P w K mg base CX0 3 f fd ["word","numbers"] dq:=by
 refine F.ok sZ (λvs H Q E h=>?_) (λcdv A outer s H vs Q E hr h=>?_)
 ·obtain ⟨wd,b,ns,rfl,_⟩:=h
  rfl
 obtain ⟨wd,b,ns,rfl,hb,ar,q⟩:=h
 have hl3:=ar.len
 refine ⟨_,af (aq (dj PySem.F.plainAttrs_str PySem.F.slot_str_join PySem.F.type_str_join qu ay (aa (aF t9 (aQ (aa (pv 0) ad)) (i4 oZ rfl (ju (pv 1)) (λ_ _ _ _=>eT) (λ_ _ _ _=>pc GS hr (aa (pv 0) ad)))) ad))),?_⟩
 refine ⟨rfl,_,rfl,χ,λl hl=>?_⟩
 have s1:Same H _:=aj (o:=.lst [.str (wS wd)]) hl
 refine ⟨_,rfl,b,rfl,⟨_,SqL.of (s1 _ _ hb)⟩,?_⟩
 refine wR (g:=λi=>V.str (iS i)) (ns:=ns) (SqL.of (s1 _ _ hb)) (Λ hl3.2 ζ) (λi H1 Q hi s2 h=>?_) (λH1 s2 p hp=>?_)
 ·exact ⟨_,rfl,.inl ⟨i,rfl,jV (ar.all i hi),h H1 (Same.refl _)⟩⟩
 ·have el:H1 l=some (.lst [.str (wS wd)]):=s2 _ _ ae
  refine ⟨l,p,_,_,rfl,rfl,aj hp _ _ el,ae,?_,λp2 hp2=>?_⟩
  ·have h5:(ns.map λi=>V.str (iS i)).length=ns.length:=List.length_map _
   have h6:([V.str (wS wd)]:List V).length=1:=rfl
   have h7:(4:Nat)<=sizeLine:=by decide
   omega
  ·have e:([V.str (wS wd)]++ns.map λi=>V.str (iS i))=(wS wd::ns.map iS).map V.str:=by simp
   refine ⟨_,p2,wS wd::ns.map iS,rfl,rfl,SqL.of (by rw [ae,e]),Λ (iA ar) ζ,?_⟩
   exact q _ (s1.trans (s2.trans ((aj hp).trans (aj hp2))))
theorem uk(F:Fun K "spelled" "TakeStep.spelled" cw f fd)(W:TxW K CW)(GP:GF P w K mg base CX0 3 "spell" ["word","numbers"] dq):FnOk P w K mg base CX0 4 f fd ["self"] (bX CW .take):=by
 refine F.ok gw (λvs H Q E h=>?_) (λcdv A outer s H vs Q E hr h=>?_)
 ·obtain ⟨v,ns,rfl,_⟩:=h
  rfl
 obtain ⟨v,ns,rfl,ar,⟨a,dx,rfl,ha⟩,q⟩:=h
 obtain ⟨x,y,rfl,_,_,e⟩:=ar.c rfl
 rw [e] at ha
 refine ⟨_,af (aq (pc GP hr (aa ay (aa (aQ (aa (au (pv 0) rfl) (aa (au (pv 0) rfl) ad))) ad)))),?_⟩
 refine ⟨_,rfl,a,_,dx,_,_,rfl,ha,W.cl _,W.nW _,(by show (ao "cell" _ (ao "where" _ [])).lookup _=_;rw [bn θ,bQ]),_,rfl,a,_,dx,_,_,rfl,ha,W.cl _,W.nC _,(by show (ao "cell" _ (ao "where" _ [])).lookup _=_;rw [bQ]),χ,λl hl=>?_⟩
 exact ⟨.take,l,_,rfl,ae,ar,λH' s'=>q H' ((aj hl).trans s')⟩
theorem uq(F:Fun K "spelled" "MeanStep.spelled" cB f fd)(W:TxW K CW)(GP:GF P w K mg base CX0 3 "spell" ["word","numbers"] dq):FnOk P w K mg base CX0 4 f fd ["self"] (bX CW .mean):=by
 refine F.ok gA (λvs H Q E h=>?_) (λcdv A outer s H vs Q E hr h=>?_)
 ·obtain ⟨v,ns,rfl,_⟩:=h
  rfl
 obtain ⟨v,ns,rfl,ar,⟨a,dx,rfl,ha⟩,q⟩:=h
 obtain ⟨x,y,rfl,_,_,e⟩:=ar.c rfl
 rw [e] at ha
 refine ⟨_,af (aq (pc GP hr (aa ay (aa (aQ (aa (au (pv 0) rfl) (aa (au (pv 0) rfl) ad))) ad)))),?_⟩
 refine ⟨_,rfl,a,_,dx,_,_,rfl,ha,W.cl _,W.nW _,(by show (ao "cell" _ (ao "where" _ [])).lookup _=_;rw [bn θ,bQ]),_,rfl,a,_,dx,_,_,rfl,ha,W.cl _,W.nC _,(by show (ao "cell" _ (ao "where" _ [])).lookup _=_;rw [bQ]),χ,λl hl=>?_⟩
 exact ⟨.mean,l,_,rfl,ae,ar,λH' s'=>q H' ((aj hl).trans s')⟩
theorem ut(F:Fun K "spelled" "GiveStep.spelled" cC f fd)(W:TxW K CW)(GP:GF P w K mg base CX0 3 "spell" ["word","numbers"] dq):FnOk P w K mg base CX0 4 f fd ["self"] (bX CW .give):=by
 refine F.ok gB (λvs H Q E h=>?_) (λcdv A outer s H vs Q E hr h=>?_)
 ·obtain ⟨v,ns,rfl,_⟩:=h
  rfl
 obtain ⟨v,ns,rfl,ar,⟨a,dx,rfl,ha⟩,q⟩:=h
 obtain ⟨x,y,rfl,_,_,e⟩:=ar.c rfl
 rw [e] at ha
 refine ⟨_,af (aq (pc GP hr (aa ay (aa (aQ (aa (au (pv 0) rfl) (aa (au (pv 0) rfl) ad))) ad)))),?_⟩
 refine ⟨_,rfl,a,_,dx,_,_,rfl,ha,W.cl _,W.nW _,(by show (ao "cell" _ (ao "where" _ [])).lookup _=_;rw [bn θ,bQ]),_,rfl,a,_,dx,_,_,rfl,ha,W.cl _,W.nC _,(by show (ao "cell" _ (ao "where" _ [])).lookup _=_;rw [bQ]),χ,λl hl=>?_⟩
 exact ⟨.give,l,_,rfl,ae,ar,λH' s'=>q H' ((aj hl).trans s')⟩
theorem wx(F:Fun K "spelled" "SumStep.spelled" cJ f fd)(W:TxW K CW)(GP:GF P w K mg base CX0 3 "spell" ["word","numbers"] dq):FnOk P w K mg base CX0 4 f fd ["self"] (bX CW .sum):=by
 refine F.ok gM (λvs H Q E h=>?_) (λcdv A outer s H vs Q E hr h=>?_)
 ·obtain ⟨v,ns,rfl,_⟩:=h
  rfl
 obtain ⟨v,ns,rfl,ar,⟨a,dx,rfl,ha⟩,q⟩:=h
 obtain ⟨x,y,z0,rfl,_⟩:=ar.s
 refine ⟨_,af (aq (pc GP hr (aa ay (aa (aQ (aa (au (pv 0) rfl) (aa (au (pv 0) rfl) (aa (au (pv 0) rfl) ad)))) ad)))),?_⟩
 refine ⟨_,rfl,a,_,dx,_,_,rfl,ha,W.cl _,W.nW _,(by show (ao "high" _ (ao "low" _ (ao "where" _ []))).lookup _=_;rw [bn θ,bn θ,bQ]),_,rfl,a,_,dx,_,_,rfl,ha,W.cl _,W.nL _,(by show (ao "high" _ (ao "low" _ (ao "where" _ []))).lookup _=_;rw [bn θ,bQ]),_,rfl,a,_,dx,_,_,rfl,ha,W.cl _,W.nH _,(by show (ao "high" _ (ao "low" _ (ao "where" _ []))).lookup _=_;rw [bQ]),χ,λl hl=>?_⟩
 exact ⟨.sum,l,_,rfl,ae,ar,λH' s'=>q H' ((aj hl).trans s')⟩
theorem wA(F:Fun K "spelled" "AddStep.spelled" cN f fd)(W:TxW K CW)(GP:GF P w K mg base CX0 3 "spell" ["word","numbers"] dq):FnOk P w K mg base CX0 4 f fd ["self"] (bX CW .add):=by
 refine F.ok gP (λvs H Q E h=>?_) (λcdv A outer s H vs Q E hr h=>?_)
 ·obtain ⟨v,ns,rfl,_⟩:=h
  rfl
 obtain ⟨v,ns,rfl,ar,⟨a,dx,rfl,ha⟩,q⟩:=h
 obtain ⟨x,y,z0,rfl,_⟩:=ar.a
 refine ⟨_,af (aq (pc GP hr (aa ay (aa (aQ (aa (au (pv 0) rfl) (aa (au (pv 0) rfl) (aa (au (pv 0) rfl) ad)))) ad)))),?_⟩
 refine ⟨_,rfl,a,_,dx,_,_,rfl,ha,W.cl _,W.nW _,(by show (ao "amount" _ (ao "cell" _ (ao "where" _ []))).lookup _=_;rw [bn θ,bn θ,bQ]),_,rfl,a,_,dx,_,_,rfl,ha,W.cl _,W.nC _,(by show (ao "amount" _ (ao "cell" _ (ao "where" _ []))).lookup _=_;rw [bn θ,bQ]),_,rfl,a,_,dx,_,_,rfl,ha,W.cl _,W.nA _,(by show (ao "amount" _ (ao "cell" _ (ao "where" _ []))).lookup _=_;rw [bQ]),χ,λl hl=>?_⟩
 exact ⟨.add,l,_,rfl,ae,ar,λH' s'=>q H' ((aj hl).trans s')⟩
theorem um(F:Fun K "spelled" "PlusStep.spelled" cz f fd)(W:TxW K CW)(GP:GF P w K mg base CX0 3 "spell" ["word","numbers"] dq):FnOk P w K mg base CX0 4 f fd ["self"] (bX CW .plus):=by
 refine F.ok gy (λvs H Q E h=>?_) (λcdv A outer s H vs Q E hr h=>?_)
 ·obtain ⟨v,ns,rfl,_⟩:=h
  rfl
 obtain ⟨v,ns,rfl,ar,⟨a,dx,rfl,ha⟩,q⟩:=h
 obtain ⟨x,rfl,_⟩:=ar.p
 refine ⟨_,af (aq (pc GP hr (aa ay (aa (aQ (aa (au (pv 0) rfl) ad)) ad)))),?_⟩
 refine ⟨_,rfl,a,_,dx,_,_,rfl,ha,W.cl _,W.nA _,(by show (ao "amount" _ []).lookup _=_;rw [bQ]),χ,λl hl=>?_⟩
 exact ⟨.plus,l,_,rfl,ae,ar,λH' s'=>q H' ((aj hl).trans s')⟩
theorem uo(F:Fun K "spelled" "NeedStep.spelled" cA f fd)(W:TxW K CW)(GP:GF P w K mg base CX0 3 "spell" ["word","numbers"] dq):FnOk P w K mg base CX0 4 f fd ["self"] (bX CW .need):=by
 refine F.ok gz (λvs H Q E h=>?_) (λcdv A outer s H vs Q E hr h=>?_)
 ·obtain ⟨v,ns,rfl,_⟩:=h
  rfl
 obtain ⟨v,ns,rfl,ar,⟨a,dx,rfl,ha⟩,q⟩:=h
 obtain ⟨x,rfl,_⟩:=ar.n
 refine ⟨_,af (aq (pc GP hr (aa ay (aa (aQ (aa (au (pv 0) rfl) ad)) ad)))),?_⟩
 refine ⟨_,rfl,a,_,dx,_,_,rfl,ha,W.cl _,W.nA _,(by show (ao "amount" _ []).lookup _=_;rw [bQ]),χ,λl hl=>?_⟩
 exact ⟨.need,l,_,rfl,ae,ar,λH' s'=>q H' ((aj hl).trans s')⟩
theorem wC(F:Fun K "made_sum" "made_sum" gQ f fd)(I:WI P w K mg base CW .sum):FnOk P w K mg base CX0 4 f fd ["where","low","high"] (oR CW):=by
 refine F.ok nu (λvs H Q E h=>?_) (λcdv A outer s H vs Q E hr h=>?_)
 ·obtain ⟨x,y,z,rfl,_⟩:=h
  rfl
 obtain ⟨x,y,z,rfl,ar,q⟩:=h
 have hr1:Room (2+1) _:=hr
 refine ⟨_,ac (aE (ak gG (pv 1) (pv 2) (ap _)) aH av) (af (aq (cu I.M I.ok hr1 rfl I.m I.b .nil bJ (aa (pv 0) (aa (pv 1) (aa (pv 2) ad)))))),?_⟩
 have hle:y<=z:=ar.2.2.2
 refine ⟨_,rfl,_,rfl,_,_,rfl,rfl,_,rfl,bv (λc=>absurd (Ξ c) (show ¬z<y by omega)) (λ_=>?_)⟩
 exact ⟨_,rfl,_,rfl,_,rfl,λp dp np ndp nep=>⟨p,dp,[x,y,z],rfl,ar,ae,λH' h1 h2=>⟨rfl,q _ H' (fT np ndp h2) ⟨p,dp,rfl,h1⟩⟩⟩⟩
theorem uw(F:Fun K "made_step" "made_step" fF f fd)(I:∀wd,WI P w K mg base CW wd)(GS:GF P w K mg base CX0 4 "made_sum" ["where","low","high"] (oR CW)):FnOk P w K mg base CX0 5 f fd ["word","numbers"] (oQ CW):=by
 refine F.ok lY (λvs H Q E h=>?_) (λcdv A outer s H vs Q E hr h=>?_)
 ·obtain ⟨wd,b,ns,rfl,_⟩:=h
  rfl
 obtain ⟨wd,b,ns,rfl,hb,ar,q⟩:=h
 have hr1:Room (2+1) _:=hr.mono ζ
 refine ⟨_,(ac (aE (ak aO (pv 0) ay (ap _)) (af (aq (cu (I .take).M (I .take).ok hr1 rfl (I .take).m (I .take).b .nil bJ (aa (aG (r:=ce K) aJ (pv 1) ai (λ_ _=>rfl)) (aa (aG (r:=ce K) aJ (pv 1) ai (λ_ _=>rfl)) ad))))) av)
  (ac (aE (ak aO (pv 0) ay (ap _)) (af (aq (cu (I .mean).M (I .mean).ok hr1 rfl (I .mean).m (I .mean).b .nil bJ (aa (aG (r:=ce K) aJ (pv 1) ai (λ_ _=>rfl)) (aa (aG (r:=ce K) aJ (pv 1) ai (λ_ _=>rfl)) ad))))) av)
  (ac (aE (ak aO (pv 0) ay (ap _)) (af (aq (pc GS hr (aa (aG (r:=ce K) aJ (pv 1) ai (λ_ _=>rfl)) (aa (aG (r:=ce K) aJ (pv 1) ai (λ_ _=>rfl)) (aa (aG (r:=ce K) aJ (pv 1) ai (λ_ _=>rfl)) ad)))))) av)
  (ac (aE (ak aO (pv 0) ay (ap _)) (af (aq (cu (I .give).M (I .give).ok hr1 rfl (I .give).m (I .give).b .nil bJ (aa (aG (r:=ce K) aJ (pv 1) ai (λ_ _=>rfl)) (aa (aG (r:=ce K) aJ (pv 1) ai (λ_ _=>rfl)) ad))))) av)
  (ac (aE (ak aO (pv 0) ay (ap _)) (af (aq (cu (I .add).M (I .add).ok hr1 rfl (I .add).m (I .add).b .nil bJ (aa (aG (r:=ce K) aJ (pv 1) ai (λ_ _=>rfl)) (aa (aG (r:=ce K) aJ (pv 1) ai (λ_ _=>rfl)) (aa (aG (r:=ce K) aJ (pv 1) ai (λ_ _=>rfl)) ad)))))) av)
  (ac (aE (ak aO (pv 0) ay (ap _)) (af (aq (cu (I .plus).M (I .plus).ok hr1 rfl (I .plus).m (I .plus).b .nil bJ (aa (aG (r:=ce K) aJ (pv 1) ai (λ_ _=>rfl)) ad)))) av)
  (af (aq (cu (I .need).M (I .need).ok hr1 rfl (I .need).m (I .need).b .nil bJ (aa (aG (r:=ce K) aJ (pv 1) ai (λ_ _=>rfl)) ad)))))))))),?_⟩
 refine ⟨_,rfl,rfl,_,rfl,bv (λc=>?_) (λc0=>?_)⟩
 ·obtain rfl:wd=.take:=g9 c
  obtain ⟨x,y,rfl,_⟩:=ar.c rfl
  exact ⟨_,rfl,b,_,_,_,rfl,rfl,SqL.of hb,rfl,_,rfl,b,_,_,_,rfl,rfl,SqL.of hb,rfl,λp dp np ndp nep=>⟨p,dp,[x,y],rfl,ar,ae,λH' h1 h2=>⟨rfl,q _ H' (fT np ndp h2) ⟨p,dp,rfl,h1⟩⟩⟩⟩
 refine ⟨_,rfl,rfl,_,rfl,bv (λc=>?_) (λc1=>?_)⟩
 ·obtain rfl:wd=.mean:=g9 c
  obtain ⟨x,y,rfl,_⟩:=ar.c rfl
  exact ⟨_,rfl,b,_,_,_,rfl,rfl,SqL.of hb,rfl,_,rfl,b,_,_,_,rfl,rfl,SqL.of hb,rfl,λp dp np ndp nep=>⟨p,dp,[x,y],rfl,ar,ae,λH' h1 h2=>⟨rfl,q _ H' (fT np ndp h2) ⟨p,dp,rfl,h1⟩⟩⟩⟩
 refine ⟨_,rfl,rfl,_,rfl,bv (λc=>?_) (λc2=>?_)⟩
 ·obtain rfl:wd=.sum:=g9 c
  obtain ⟨x,y,z,rfl,_⟩:=ar.s
  exact ⟨_,rfl,b,_,_,_,rfl,rfl,SqL.of hb,rfl,_,rfl,b,_,_,_,rfl,rfl,SqL.of hb,rfl,_,rfl,b,_,_,_,rfl,rfl,SqL.of hb,rfl,x,y,z,rfl,ar,q⟩
 refine ⟨_,rfl,rfl,_,rfl,bv (λc=>?_) (λc3=>?_)⟩
 ·obtain rfl:wd=.give:=g9 c
  obtain ⟨x,y,rfl,_⟩:=ar.c rfl
  exact ⟨_,rfl,b,_,_,_,rfl,rfl,SqL.of hb,rfl,_,rfl,b,_,_,_,rfl,rfl,SqL.of hb,rfl,λp dp np ndp nep=>⟨p,dp,[x,y],rfl,ar,ae,λH' h1 h2=>⟨rfl,q _ H' (fT np ndp h2) ⟨p,dp,rfl,h1⟩⟩⟩⟩
 refine ⟨_,rfl,rfl,_,rfl,bv (λc=>?_) (λc4=>?_)⟩
 ·obtain rfl:wd=.add:=g9 c
  obtain ⟨x,y,z,rfl,_⟩:=ar.a
  exact ⟨_,rfl,b,_,_,_,rfl,rfl,SqL.of hb,rfl,_,rfl,b,_,_,_,rfl,rfl,SqL.of hb,rfl,_,rfl,b,_,_,_,rfl,rfl,SqL.of hb,rfl,λp dp np ndp nep=>⟨p,dp,[x,y,z],rfl,ar,ae,λH' h1 h2=>⟨rfl,q _ H' (fT np ndp h2) ⟨p,dp,rfl,h1⟩⟩⟩⟩
 refine ⟨_,rfl,rfl,_,rfl,bv (λc=>?_) (λc5=>?_)⟩
 ·obtain rfl:wd=.plus:=g9 c
  obtain ⟨x,rfl,_⟩:=ar.p
  exact ⟨_,rfl,b,_,_,_,rfl,rfl,SqL.of hb,rfl,λp dp np ndp nep=>⟨p,dp,[x],rfl,ar,ae,λH' h1 h2=>⟨rfl,q _ H' (fT np ndp h2) ⟨p,dp,rfl,h1⟩⟩⟩⟩
 obtain rfl:wd=.need:=xM (iB (b:=.take) c0) (iB (b:=.mean) c1) (iB (b:=.sum) c2) (iB (b:=.give) c3) (iB (b:=.add) c4) (iB (b:=.plus) c5)
 obtain ⟨x,rfl,_⟩:=ar.n
 exact ⟨_,rfl,b,_,_,_,rfl,rfl,SqL.of hb,rfl,λp dp np ndp nep=>⟨p,dp,[x],rfl,ar,ae,λH' h1 h2=>⟨rfl,q _ H' (fT np ndp h2) ⟨p,dp,rfl,h1⟩⟩⟩⟩
theorem wv{CN:Addr}{bm:List Value}{new:String}(F:Fun K "read_number" "read_number" d9 f fd)(B:TxB mg)(mN:mg "NoThing"=some (.ref CN))(xN:PySem.W.excIn K CN bm new=true)(hb:bm.contains (.type "BaseException")=true)
  (cF:∃t,mg "MOST_FIGURES_steps"=some (.int 40 t))(GR:GF P w K mg base CX0 4 "read_thing" ["text"] K45T.oO)(GW:GF P w K mg base CX0 1 "is_whole" ["thing"] K45T.jn):FnOk P w K mg base CX0 5 f fd ["word","letter"] oP:=by
 refine F.ok sc_read_number (λvs H Q E h=>?_) (λcdv A outer s H vs Q E hr h=>?_)
 ·obtain ⟨i,c,rfl,_⟩:=h
  rfl
 obtain ⟨i,c,rfl,hi,hneg,q⟩:=h
 have nd:=sc_read_number.nd
 refine ⟨_,ac (re (j:=2) (C:=CN) rfl rfl rfl nd rfl (Or.inl rfl) (yo (pc GR hr (aa (pv 0) ad))) rfl mN (oJ mN xN hb) (λ_=>aH))
  (ac (aE (PW.pt (i0 (eU (bj (pc GW hr (aa (pv 2) ad)))) (gS (ak gG (aB bo rfl B.len PySem.boot_len (aa (dj PySem.F.plainAttrs_str PySem.F.slot_str_lstrip PySem.F.type_str_lstrip pC (pv 0) (aa ay ad)) ad)) (my cF rfl) (ap _))))) aH av)
  (ac (aE (PW.pt (bH (ak gF (pv 2) ai (ap _)) (bF (ak kT (pv 1) ay (ap _))))) aH av)
  (af (aq (pv 2))))),?_⟩
 have hl:=wW hi
 have h1:(100000:Nat)<=sizeLine:=by decide
 have hL:=pG hi
 refine ⟨_,rfl,iS i,.int i,rfl,(by rw [og];exact .num i (Nat.lt_trans hi θ)),(λd hd=>?_),hl,λH1 s1=>?_⟩
 ·rw [og] at hd
  rcases uI hd with rfl | ⟨a1,a2⟩
  ·decide
  ·show (decide _&&decide _&&_)=true
   simp
   omega
 refine ⟨_,rfl,_,_,rfl,rfl,_,rfl,aI ?_⟩
 refine ⟨_,rfl,rfl,iS i,_,rfl,rfl,ω,_,rfl,Λ hL ζ,_,_,rfl,rfl,_,rfl,bv (λc=>absurd (Ξ c) (λz=>?_)) (λ_=>?_)⟩
 ·have z':(40:Int)<(((Txt.lstripChars (iS i) (Str.ofString "-")).length:Nat):Int):=z
  omega
 refine ⟨_,rfl,_,_,rfl,rfl,_,rfl,bv (λcc=>?_) (λ_=>⟨_,rfl,q H1 s1⟩)⟩
 have hc:c=86:=hneg (Ξ cc)
 subst hc
 exact ⟨_,rfl,rfl,_,rfl,xC (congrArg V.str θ) ⟨_,rfl,q H1 s1⟩⟩
theorem uh(F:Fun K "read_step" "read_step" cY f fd)(B:TxB mg){aS:Addr}(mS:mg "SHAPES"=some (.ref aS))(tS:TabK K aS jt)(GN:GF P w K mg base CX0 5 "read_number" ["word","letter"] oP)
  (GS:GF P w K mg base CX0 5 "made_step" ["word","numbers"] (oQ CW)):FnOk P w K mg base CX0 6 f fd ["text"] (lJ CW):=by
 refine F.ok sc_read_step (λvs H Q E h=>?_) (λcdv A outer s H vs Q E hr h=>?_)
 ·obtain ⟨wd,ns,rfl,_⟩:=h
  rfl
 obtain ⟨wd,ns,rfl,ar,q⟩:=h
 have nd:=sc_read_step.nd
 have hl3:=ar.len
 have el:=vR ar
 refine ⟨_,ac (aC (i:=1) nd rfl (Or.inr rfl) (dj PySem.F.plainAttrs_str PySem.F.slot_str_split PySem.F.type_str_split rF (pv 0) (aa ay ad)))
  (ac (aC (i:=2) nd rfl (Or.inr rfl) (wl (D:=jt) (dt (v:=.ref aS) rfl mS rfl) (aG (r:=ce K) aJ (pv 1) ai (λ_ _=>rfl)) ⟨rfl,rfl,rfl,rfl⟩ tS))
  (ac (aE (PW.pt (i0 (ak gX (pv 2) aY (ap _)) (gS (ak kT (aB aA rfl B.len PySem.boot_len (aa (pv 1) ad)) (aF cT (aB bo rfl B.len PySem.boot_len (aa (pv 2) ad)) ai) (ap _))))) aH av)
  (af (aq (pc GS hr (aa (aG (r:=ce K) aJ (pv 1) ai (λ_ _=>rfl)) (aa (i4 jJ rfl (cS rfl B.range (aa (aB bo rfl B.len PySem.boot_len (aa (pv 2) ad)) ad)) (λ_ _ _ _=>eT)
   (λ_ _ _ _=>pc GN hr (aa (aG (r:=ce K) aJ (pv 1) (aF cT (pv 0) ai) (λ_ _=>rfl)) (aa (aG uT (pv 2) (pv 0) (λ_ _=>rfl)) ad)))) ad))))))),?_⟩
 refine ⟨_,rfl,rfl,txt wd ns,32,rfl,congrArg (λz=>[V.str z]) fy,vG ar,λp hp=>?_⟩
 rw [qT]
 have s1:Same H _:=aj (o:=.lst ((wS wd::ns.map iS).map V.str)) hp
 have hp1:(upd H p (.lst ((wS wd::ns.map iS).map V.str))) p=some (.lst ((wS wd::ns.map iS).map V.str)):=ae
 generalize (upd H p _)=H1 at s1 hp1 ⊢
 refine ⟨_,rfl,p,_,_,_,rfl,rfl,SqL.of hp1,St.at0,wS wd,shp wd,rfl,sW wd,?_⟩
 refine ⟨_,rfl,rfl,_,rfl,bv (λc=>absurd (Ξ c) (by intro z;cases z)) (λ_=>?_)⟩
 refine ⟨_,rfl,p,_,rfl,.inl (SqL.of hp1),_,rfl,_,rfl,jF wd,_,_,rfl,rfl,rfl,_,rfl,xC ?_ ?_⟩
 ·rw [el]
  simp
 refine ⟨_,rfl,p,_,_,_,rfl,rfl,SqL.of hp1,St.at0,?_⟩
 refine ⟨_,rfl,_,rfl,jF wd,_,rfl,ω,by rw [el];omega,?_⟩
 have e0:(((shp wd).length:Nat):Int).toNat=ns.length:=by rw [el];rfl
 rw [e0]
 refine io (n:=ns.length) (λi ys H'=>Same H1 H'/\ys=(ns.take i).map V.int) ⟨Same.refl _,rfl⟩ (Λ hl3.2 ζ) ?_ ?_
 ·rintro i ys H2 hi ⟨s2,rfl⟩
  have hn:ns[i]?=some ns[i]:=ξ hi
  obtain ⟨c,hc,hneg⟩:=yd ar hn
  refine kN ⟨_,rfl,_,rfl,_,_,rfl,rfl,p,_,_,_,rfl,rfl,SqL.of (s2 _ _ hp1),?_,_,rfl,_,rfl,_,_,_,rfl,rfl,jF wd,aU hc,ns[i],c,rfl,ar.all _ (List.getElem_mem hi),hneg,λH3 s3=>⟨s2.trans s3,?_⟩⟩
  ·have e1:((i:Nat):Int)+1=((i+1:Nat):Int):=rfl
   rw [e1]
   refine aU ?_
   rw [List.map_cons,List.getElem?_cons_succ,List.map_map,List.getElem?_map,hn]
   rfl
  ·have e2:ns.take (i+1)=ns.take i++[ns[i]]:=by
    rw [List.take_add_one,hn]
    rfl
   rw [e2,List.map_append]
   rfl
 ·rintro ys H2 ⟨s2,rfl⟩ p2 hp2
  rw [List.take_length]
  exact ⟨wd,p2,ns,rfl,ae,ar,λv H3 s3 st=>q v H3 (s1.trans (s2.trans ((aj hp2).trans s3))) st⟩
theorem rA(F:Fun K "__init__" "Pact.__init__" fY f fd)(B:TxB mg)(T:TxP K CP):FnOk P w K mg base CX0 1 f fd ["self","manner","steps"] (p6 CP):=by
 refine F.ok md (λvs H Q E h=>?_) (λcdv A outer s H vs Q E hr h=>?_)
 ·obtain ⟨l,dx,m,q,us,rfl,_⟩:=h
  rfl
 obtain ⟨l,dx,m,q,us,rfl,hl,hq,qr⟩:=h
 refine ⟨_,ac (aL (pv 0) (pv 1) rfl) (ac (aL (pv 0) (aV fi rfl B.list PyProof.Rows.boot_list (aa (pv 2) ad)) rfl)
  (af (aL (pv 0) (aV eE rfl B.tuple PyProof.Rows.boot_tuple (aa (pv 2) ad)) rfl))),?_⟩
 have nlq:q≠l:=λz=>by rw [z,hl] at hq;cases hq
 refine ⟨_,rfl,_,rfl,l,CP,dx,[],rfl,hl,T.cl,T.nm,(by show 0<1000;decide),?_⟩
 have k1:Kp l H (upd H l (.ins CP dx (ao "manner" (.str m) []))):=aX
 have hl1:(upd H l (.ins CP dx (ao "manner" (.str m) []))) l=some (.ins CP dx (ao "manner" (.str m) [])):=ae
 have hq1:=k1 _ _ nlq hq
 generalize (upd H l (HO.ins CP dx (ao "manner" (.str m) [])))=H1 at k1 hl1 hq1 ⊢
 refine ⟨_,rfl,q,us,rfl,.inl (SqL.of hq1),λsl hsl=>?_⟩
 have s2:=aj (o:=.lst us) hsl
 have nl:l≠sl:=ah hl1 hsl
 refine ⟨_,rfl,l,CP,dx,_,rfl,s2 _ _ hl1,T.cl,T.ns,(by show 1<1000;decide),?_⟩
 have k2:Kp l H1 (upd (upd H1 sl (.lst us)) l (.ins CP dx (ao "steps" (.ref sl) (ao "manner" (.str m) [])))):=(Kp.of s2).trans aX
 have hl2:(upd (upd H1 sl (.lst us)) l (.ins CP dx (ao "steps" (.ref sl) (ao "manner" (.str m) [])))) l=some (.ins CP dx (ao "steps" (.ref sl) (ao "manner" (.str m) []))):=ae
 have hs2:(upd (upd H1 sl (.lst us)) l (.ins CP dx (ao "steps" (.ref sl) (ao "manner" (.str m) [])))) sl=some (.lst us):=by rw [aw (Ne.symm nl)];exact ae
 have hq2:=k2 _ _ nlq hq1
 generalize (upd (upd H1 sl (.lst us)) l (HO.ins CP dx (ao "steps" (.ref sl) (ao "manner" (.str m) []))))=H2 at k2 hl2 hs2 hq2 ⊢
 refine ⟨_,rfl,q,us,rfl,.inl ⟨SqL.of hq2,λtp htp=>?_⟩⟩
 have s3:=aj (o:=.tup us) htp
 have nl3:l≠tp:=ah hl2 htp
 refine ⟨_,rfl,l,CP,dx,_,rfl,s3 _ _ hl2,T.cl,T.np,Nat.lt_of_le_of_lt (cG _ _ _) (by show 1+1<1000;decide),?_⟩
 have k3:Kp l H2 (upd (upd H2 tp (.tup us)) l (.ins CP dx (pf m sl tp))):=(Kp.of s3).trans aX
 refine qr sl tp _ ae (k3 _ _ (Ne.symm nl) hs2) (by rw [aw (Ne.symm nl3)];exact ae) ?_ ?_ ((k1.trans k2).trans k3)
 ·cases e:H sl with
  | none=>rfl
  | some o=>rw [k1 _ _ (Ne.symm nl) e] at hsl;cases hsl
 ·cases e:H tp with
  | none=>rfl
  | some o=>rw [(k1.trans k2) _ _ (Ne.symm nl3) e] at htp;cases htp
theorem ui(F:Fun K "read_part" "read_part" fE f fd)(GS:GF P w K mg base CX0 6 "read_step" ["text"] (lJ CW)):FnOk P w K mg base CX0 7 f fd ["text","number"] (lK CW):=by
 refine F.ok lX (λvs H Q E h=>?_) (λcdv A outer s H vs Q E hr h=>?_)
 ·obtain ⟨x,k,rfl,_⟩:=h
  rfl
 obtain ⟨x,k,rfl,ar,q⟩:=h
 exact ⟨_,af (we (af (aq (pc GS hr (aa (pv 0) ad))))),_,rfl,x.1,x.2,rfl,ar,q⟩
structure Al where
 (l dx na tp ho hd:Addr)
def lf(A:Al)(tn:Int)(nm:V)(cl:Bool)(ex:List (Str×V)):List (Str×V):=("name",.ref A.na)::("steps",.ref A.tp)::("houses",.ref A.ho)::("hands",.ref A.hd)::("turns",.int tn)::("named",nm)::("closed",.bl cl)::ex
abbrev lfN:List Str:=["name","steps","houses","hands","turns","named","closed"]
section
variable {A:Al}{tn:Int}{nm:V}{cl:Bool}{ex:List (Str×V)}
theorem uQ:(lf A tn nm cl ex).lookup ("name":Str)=some (.ref A.na):=by kernel_rfl
theorem jW:(lf A tn nm cl ex).lookup ("steps":Str)=some (.ref A.tp):=by kernel_rfl
theorem gc:(lf A tn nm cl ex).lookup ("hands":Str)=some (.ref A.hd):=by kernel_rfl
theorem xx:(lf A tn nm cl ex).lookup ("turns":Str)=some (.int tn):=by kernel_rfl
theorem kU:(lf A tn nm cl ex).lookup ("named":Str)=some nm:=by kernel_rfl
theorem qw:(lf A tn nm cl ex).lookup ("closed":Str)=some (.bl cl):=by kernel_rfl
theorem xy{m:Str}(h:decide (m∈lfN)=false):(lf A tn nm cl ex).lookup m=ex.lookup m:=by
 have h':m∉lfN:=of_decide_eq_false h
 simp only [lfN,List.mem_cons,List.not_mem_nil,or_false,not_or] at h'
 obtain ⟨h1,h2,h3,h4,h5,h6,h7⟩:=h'
 unfold lf
 simp only [List.lookup_cons,beq_false_of_ne h1,beq_false_of_ne h2,beq_false_of_ne h3,beq_false_of_ne h4,beq_false_of_ne h5,beq_false_of_ne h6,beq_false_of_ne h7]
theorem yU(n:Int):ao "turns" (.int n) (lf A tn nm cl ex)=lf A n nm cl ex:=by kernel_rfl
theorem uP(v:V):ao "named" v (lf A tn nm cl ex)=lf A tn v cl ex:=by kernel_rfl
theorem yV(b:Bool):ao "closed" (.bl b) (lf A tn nm cl ex)=lf A tn nm b ex:=by kernel_rfl
end
structure TxA(K:Frag)(CL:Addr):Prop where
 cl:Cls K CL
 na:NoAttr K CL "name"
 tp:NoAttr K CL "steps"
 ho:NoAttr K CL "houses"
 hd:NoAttr K CL "hands"
 tn:NoAttr K CL "turns"
 nm:NoAttr K CL "named"
 cd:NoAttr K CL "closed"
structure Ld(CL:Addr)(CW:Wd->Addr)(H:Hp)(A:Al)(p:Pa)(xs:List Stp)(hs ys:List Int)(tn:Int)(nm:V)(cl:Bool)(ex:List (Str×V)):Prop where
 ins:H A.l=some (.ins CL A.dx (lf A tn nm cl ex))
 nam:H A.na=some (.tup [.int p.1,.int p.2])
 stp:∃us,H A.tp=some (.tup us)/\StsP CW H xs us
 hou:H A.ho=some (.tup (hs.map V.int))
 han:H A.hd=some (.lst (ys.map V.int))
 ar:ArS xs
 le:ys.length<=xs.length
 lx:xs.length<=12
 fx:ex.length<=9
section
variable {CL:Addr}{CW:Wd->Addr}{H H':Hp}{A:Al}{p:Pa}{xs:List Stp}{hs ys:List Int}{tn:Int}{nm:V}{cl:Bool}{ex:List (Str×V)}
theorem Ld.keep(q:Ld CL CW H A p xs hs ys tn nm cl ex)(e:Same H H'):Ld CL CW H' A p xs hs ys tn nm cl ex:=by
 obtain ⟨us,h1,h2⟩:=q.stp
 exact ⟨e _ _ q.ins,e _ _ q.nam,⟨us,e _ _ h1,h2.keep e⟩,e _ _ q.hou,e _ _ q.han,q.ar,q.le,q.lx,q.fx⟩
theorem Ld.few(q:Ld CL CW H A p xs hs ys tn nm cl ex):(lf A tn nm cl ex).length<1000:=by
 have:=q.fx
 unfold lf
 simp only [List.length_cons]
 omega
theorem Ld.upd(q:Ld CL CW H A p xs hs ys tn nm cl ex){tn':Int}{nm':V}{cl':Bool}{ex':List (Str×V)}(hx:ex'.length<=9)(hC:∀wd,CW wd≠CL):Ld CL CW (upd H A.l (.ins CL A.dx (lf A tn' nm' cl' ex'))) A p xs hs ys tn' nm' cl' ex':=by
 obtain ⟨us,h1,h2⟩:=q.stp
 have k:Kp A.l H (L2.upd H A.l (.ins CL A.dx (lf A tn' nm' cl' ex'))):=aX
 refine ⟨ae,k _ _ (bp q.nam q.ins (by intro z;cases z)) q.nam,⟨us,k _ _ (bp h1 q.ins (by intro z;cases z)) h1,Paired.mapP h2 λx v z=>?_⟩,k _ _ (bp q.hou q.ins (by intro z;cases z)) q.hou,k _ _ (bp q.han q.ins (by intro z;cases z)) q.han,q.ar,q.le,q.lx,hx⟩
 obtain ⟨a,dx,rfl,e⟩:=z
 exact ⟨a,dx,rfl,k _ _ (λz=>by rw [z,q.ins] at e;exact hC _ (HO.ins.inj (Δ e)).1.symm) e⟩
end
def bL(xs:List Stp)(ys:List Int):V:=match xs[ys.length]? with | none=>.non | some x=>aK x.1 x.2
def aR(ys:List Int):Int:=ys.getLast?.getD 0
section
variable (CL:Addr)(CW:Wd->Addr)
def jC:Sp:=λvs H Q _=>∃A p xs hs ys tn nm cl ex,vs=[.ref (A:Al).l]/\Ld CL CW H A p xs hs ys tn nm cl ex/\Q (bL xs ys) H
def lN:Sp:=λvs H Q _=>∃A p xs hs ys tn nm cl ex,vs=[.ref (A:Al).l]/\Ld CL CW H A p xs hs ys tn nm cl ex/\Q (.int (aR ys)) H
def sN:Sp:=λvs H Q _=>∃A p xs hs ys tn nm cl ex m i us,vs=[.ref (A:Al).l,.ref m]/\Ld CL CW H A p xs hs ys tn nm cl ex/\ex.lookup ("next_house":Str)=none/\H m=some (.tup (.int i::us))/\Q (.bl (!decide (bL xs ys=.non)&&decide (i=(ys.length:Nat)))) H
def mZ:Sp:=λvs H Q _=>∃A p xs hs ys tn nm cl ex o,vs=[.ref (A:Al).l,.str o]/\Ld CL CW H A p xs hs ys tn nm cl ex/\Q (.str o) (upd H A.l (.ins CL A.dx (lf A tn (.str o) cl ex)))
end
theorem wB(F:Fun K "next_house" "Lead.next_house" cL f fd)(B:TxB mg)(T:TxA K CL)(W:TxW K CW)(GH:∀wd,GM P w K mg base CX0 1 (CW wd) "house" ["self"] (dQ CW wd)):FnOk P w K mg base CX0 2 f fd ["self"] (jC CL CW):=by
 refine F.ok gO (λvs H Q E h=>?_) (λcdv A outer s H vs Q E hr h=>?_)
 ·obtain ⟨A,p,xs,hs,ys,tn,nm,cl,ex,rfl,_⟩:=h
  rfl
 obtain ⟨A,p,xs,hs,ys,tn,nm,cl,ex,rfl,ld,q⟩:=h
 refine ⟨_,ac (aE (ak aO (aB aA rfl B.len PySem.boot_len (aa (au (pv 0) rfl) ad)) (aB aA rfl B.len PySem.boot_len (aa (au (pv 0) rfl) ad)) (ap _)) (af (aq aY)) av)
  (af (aq (i5 λwd=>pm0 (GH wd) (aG (r:=cb K) aN (au (pv 0) rfl) (aB aA rfl B.len PySem.boot_len (aa (au (pv 0) rfl) ad)) (λ_ _=>rfl)) (W.cl wd) hr))),?_⟩
 obtain ⟨us,h1,h2⟩:=ld.stp
 have pl:xs.length=us.length:=h2.len
 have hy:(ys.map V.int).length=ys.length:=List.length_map _
 refine ⟨_,rfl,A.l,CL,A.dx,_,_,rfl,ld.ins,T.cl,T.hd,gc,A.hd,_,rfl,.inl (SqL.of ld.han),_,rfl,A.l,CL,A.dx,_,_,rfl,ld.ins,T.cl,T.tp,jW,A.tp,_,rfl,.inr (SqT.of h1),rfl,_,rfl,?_⟩
 rw [hy]
 by_cases e:ys.length=us.length
 ·have e2:bL xs ys=.non:=by unfold bL;rw [List.getElem?_eq_none ω]
  rw [e2] at q
  exact bv (λ_=>q) (λc=>absurd (τ (by rw [e])) c)
 ·refine bv (λc=>absurd (Ξ c) (λz=>e (by have:=V.int.inj z;omega))) (λ_=>?_)
  have hk:ys.length<us.length:=by have:=ld.le;omega
  obtain ⟨x,ex',sa,sdx,e3,hsa⟩:=h2.get (ξ hk)
  have e2:bL xs ys=aK x.1 x.2:=by unfold bL;rw [ex']
  rw [e2] at q
  have f1:=jb (m:="house") θ θ θ θ θ x.1 x.2
  exact ⟨x.1,_,rfl,A.l,CL,A.dx,_,_,rfl,ld.ins,T.cl,T.tp,jW,_,rfl,A.l,CL,A.dx,_,_,rfl,ld.ins,T.cl,T.hd,gc,A.hd,_,rfl,.inl (SqL.of ld.han),A.tp,_,_,_,rfl,rfl,SqT.of h1,aU (by rw [hy,ξ hk,e3]),sa,sdx,_,rfl,hsa,f1,_,x.2,rfl,ld.ar x (List.mem_of_getElem? ex'),⟨sa,sdx,rfl,hsa⟩,q⟩
theorem wH(F:Fun K "present_hand" "Lead.present_hand" cq f fd)(T:TxA K CL):FnOk P w K mg base CX0 1 f fd ["self"] (lN CL CW):=by
 refine F.ok fz (λvs H Q E h=>?_) (λcdv A outer s H vs Q E hr h=>?_)
 ·obtain ⟨A,p,xs,hs,ys,tn,nm,cl,ex,rfl,_⟩:=h
  rfl
 obtain ⟨A,p,xs,hs,ys,tn,nm,cl,ex,rfl,ld,q⟩:=h
 refine ⟨_,af (aq (jP (nD (au (pv 0) rfl) (λ_=>rfl)) (aG (r:=ce K) aJ (au (pv 0) rfl) (nG jz ai) (λ_ _=>rfl)) ai)),?_⟩
 refine ⟨_,rfl,A.l,CL,A.dx,_,_,rfl,ld.ins,T.cl,T.hd,gc,_,.inl ⟨_,SqL.of ld.han,rfl⟩,?_⟩
 rcases List.eq_nil_or_concat ys with rfl | ⟨zs,z,rfl⟩
 ·exact aI q
 ·have e:(!List.isEmpty ((zs.concat z).map V.int))=true:=by simp
  rw [e]
  refine aW ⟨_,rfl,A.l,CL,A.dx,_,_,rfl,ld.ins,T.cl,T.hd,gc,_,rfl,A.hd,_,_,_,rfl,rfl,SqL.of ld.han,?_,q⟩
  have e2:aR (zs.concat z)=z:=by unfold aR;simp
  rw [e2,List.concat_eq_append,List.map_append]
  exact iz _ _
theorem yJ(F:Fun K "is_answer" "Lead.is_answer" cW f fd)(B:TxB mg)(T:TxA K CL)(GN:GM P w K mg base CX0 2 CL "next_house" ["self"] (jC CL CW)):FnOk P w K mg base CX0 3 f fd ["self","more"] (sN CL CW):=by
 refine F.ok hX (λvs H Q E h=>?_) (λcdv A outer s H vs Q E hr h=>?_)
 ·obtain ⟨A,p,xs,hs,ys,tn,nm,cl,ex,m,i,us,rfl,_⟩:=h
  rfl
 obtain ⟨A,p,xs,hs,ys,tn,nm,cl,ex,m,i,us,rfl,ld,nx,hm,q⟩:=h
 refine ⟨_,af (aq (gU (cv gs (pm0 GN (pv 0) T.cl hr) aY (ap _)) (fO (cv aO (aG (r:=cb K) aN (pv 1) ai (λ_ _=>rfl)) (aB aA rfl B.len PySem.boot_len (aa (au (pv 0) rfl) ad)) (ap _))))),?_⟩
 have hy:(ys.map V.int).length=ys.length:=List.length_map _
 refine ⟨_,rfl,A.l,A.dx,_,rfl,ld.ins,(by rw [xy θ];exact nx),A,p,xs,hs,ys,tn,nm,cl,ex,rfl,ld,rfl,_,rfl,?_⟩
 by_cases e:bL xs ys=.non
 ·rw [τ e] at q ⊢
  exact aI q
 ·rw [Γ e] at q ⊢
  refine aW ⟨_,rfl,m,_,_,_,rfl,rfl,SqT.of hm,St.at0,_,rfl,A.l,CL,A.dx,_,_,rfl,ld.ins,T.cl,T.hd,gc,A.hd,_,rfl,.inl (SqL.of ld.han),rfl,?_⟩
  have e2:decide (V.int i=V.int (((ys.map V.int).length:Nat):Int))=decide (i=(ys.length:Nat)):=by rw [hy,jw];rfl
  rw [e2]
  exact q
theorem yF(F:Fun K "naming" "Lead.naming" eC f fd)(T:TxA K CL):FnOk P w K mg base CX0 1 f fd ["self","outcome"] (mZ CL CW):=by
 refine F.ok jI (λvs H Q E h=>?_) (λcdv A outer s H vs Q E hr h=>?_)
 ·obtain ⟨A,p,xs,hs,ys,tn,nm,cl,ex,o,rfl,_⟩:=h
  rfl
 obtain ⟨A,p,xs,hs,ys,tn,nm,cl,ex,o,rfl,ld,q⟩:=h
 refine ⟨_,ac (aL (pv 0) (pv 1) rfl) (af (aq (pv 1))),?_⟩
 refine ⟨_,rfl,_,rfl,A.l,CL,A.dx,_,rfl,ld.ins,T.cl,T.nm,ld.few,?_⟩
 rw [uP]
 exact ⟨_,rfl,q⟩
variable {CH:Addr}
theorem AM{H H':Hp}{A:Ad}{h:Ah}{d:Sd}{rs:List Addr}{ws:List Ws}{v:V}(q:ShA CS CH K H A h d rs ws v)(k:∀b u,b∈A.l::h.own A->H b=some u->H' b=some u)(t:bh H H'):ShA CS CH K H' A h d rs ws v:=by
 obtain ⟨us,stu⟩:=q.st
 obtain ⟨us2,h1,h2⟩:=q.snt
 have kk:∀b u,b∈h.own A->H b=some u->H' b=some u:=λb u hb=>k b u (Θ _ hb)
 have own:∀x∈A.own,x∈h.own A:=λx hx=>.tail _ (.tail _ (.tail _ hx))
 refine ⟨⟨us,k _ _ Ω stu.ins,λx hx=>kk _ _ (own _ (List.mem_map.mpr ⟨x,hx,rfl⟩)) (stu.co x hx),pp stu.bg λ_ _ z=>z.keep t,λx hx=>(stu.rd x hx).keep t,stu.wa.keep t,stu.nd⟩,kk _ _ (.head _) q.ins,kk _ _ (.tail _ (.head _)) q.rws,⟨us2,kk _ _ (.tail _ (.tail _ (.head _))) h1,Paired.mapP h2 λ_ _ z=>z.keep t⟩,q.lat.imp id λz=>z.keep t,q.n1,q.n2,q.n3,q.n4,q.n5⟩
theorem vS{a:Addr}{o:HO}{H H':Hp}{A:Ad}{h:Ah}{d:Sd}{rs:List Addr}{ws:List Ws}{v:V}(q:ShA CS CH K H A h d rs ws v)(k:Kp a H H')(n:a∉A.l::h.own A)(e:H a=some o)(ht:∀xs,o≠.tup xs):ShA CS CH K H' A h d rs ws v :=
 AM q (λb u hb=>k b u (λz=>n (z▸hb))) (λb xs e2=>k b _ (λz=>by rw [z,e] at e2;exact ht xs (Δ e2)) e2)
theorem zR{H:Hp}{A:Ad}{h:Ah}{d:Sd}{rs:List Addr}{ws:List Ws}{v:V}(q:ShA CS CH K H A h d rs ws v){b c dx:Addr}{fs:List (Str×V)}(e:H b=some (.ins c dx fs))(hc:c≠CH):b∉h.own A:=λhb=>by
 simp only [Ah.own,List.mem_cons] at hb
 rcases hb with z | z | z | z
 ·rw [z,q.ins] at e
  exact hc (HO.ins.inj (Δ e)).1.symm
 ·rw [z,q.rws] at e
  cases e
 ·obtain ⟨us,e',_⟩:=q.snt
  rw [z,e'] at e
  cases e
 ·obtain ⟨us,stu⟩:=q.st
  obtain ⟨o,e',_,n2⟩:=stu.own z
  rw [e] at e'
  cases e'
  exact n2 _ _ _ rfl
abbrev exW(b:Int)(ag:Addr)(sg:Bool):List (Str×V):=[("bend",.int b),("undoing",.ref ag),("signed",.bl sg)]
section
variable {A:Al}{tn:Int}{nm:V}{cl:Bool}{ag:Addr}{b:Int}{sg:Bool}
theorem aT{m:Str}(h:decide (m∈(["bend","undoing","signed"]:List Str)++lfN)=false):(lf A tn nm cl (exW b ag sg)).lookup m=none:=by
 have h':m∉(["bend","undoing","signed"]:List Str)++lfN:=of_decide_eq_false h
 rw [xy (Γ λz=>h' (Ψ _ z))]
 have h2:m∉(["bend","undoing","signed"]:List Str):=λz=>h' (List.mem_append_left _ z)
 simp only [List.mem_cons,List.not_mem_nil,or_false,not_or] at h2
 obtain ⟨e1,e2,e3⟩:=h2
 show List.lookup m [(_,_),(_,_),(_,_)]=none
 simp only [List.lookup_cons,beq_false_of_ne e1,beq_false_of_ne e2,beq_false_of_ne e3]
 rfl
theorem Aj:(lf A tn nm cl (exW b ag sg)).lookup ("bend":Str)=some (.int b):=by kernel_rfl
theorem Ai:(lf A tn nm cl (exW b ag sg)).lookup ("signed":Str)=some (.bl sg):=by kernel_rfl
theorem yW(s':Bool):ao "signed" (.bl s') (lf A tn nm cl (exW b ag sg))=lf A tn nm cl (exW b ag s'):=by kernel_rfl
end
def cO(A:Al)(ag:Addr)(S:Ad)(h:Ah):List Addr:=A.l::A.hd::ag::h.own S
def KpA(A:Al)(ag:Addr)(S:Ad)(h:Ah)(H H':Hp):Prop:=∀b o,b∉cO A ag S h->H b=some o->H' b=some o
theorem KpA.trans{A:Al}{ag:Addr}{S:Ad}{h:Ah}{H H1 H2:Hp}(a:KpA A ag S h H H1)(b:KpA A ag S h H1 H2):KpA A ag S h H H2:=λc o n e=>b c o n (a c o n e)
theorem KpA.of{A:Al}{ag:Addr}{S:Ad}{h:Ah}{H H1:Hp}(a:Same H H1):KpA A ag S h H H1:=λc o _ e=>a c o e
theorem KpA.sh{A:Al}{ag:Addr}{S:Ad}{h:Ah}{H H1:Hp}(a:KpH S h H H1):KpA A ag S h H H1:=λc o n e=>a c o (λz=>n (.tail _ (.tail _ (.tail _ z)))) e
theorem KpA.up{A:Al}{ag a:Addr}{S:Ad}{h:Ah}{H:Hp}{o:HO}(m:a∈cO A ag S h):KpA A ag S h H (upd H a o):=λc u n e=>by
 rw [aw (λ(z:c=a)=>n (by rw [z];exact m))]
 exact e
structure TxC(K:Frag)(CW:Wd->Addr)(CL CH:Addr):Prop where
 t:TxA K CL
 bd:NoAttr K CL "bend"
 un:NoAttr K CL "undoing"
 sg:NoAttr K CL "signed"
 n1:∀wd,CW wd≠CL
 n2:∀wd,CW wd≠CH
 n3:CL≠CH
structure LSh(CL CS CH:Addr)(CW:Wd->Addr)(K:Frag)(H:Hp)(A:Al)(ag:Addr)(S:Ad)(h:Ah)(p:Pa)(xs:List Stp)(hs ys:List Int)(tn:Int)(nm:V)(cl sg:Bool)(ks:List Int)(d:Sd)(rs:List Addr)(ws:List Ws)(v:V):Prop where
 ld:Ld CL CW H A p xs hs ys tn nm cl (exW (aD xs:Nat) ag sg)
 agr:H ag=some (.lst (ks.map V.int))
 sh:ShA CS CH K H S h d rs ws v
 m1:A.l∉S.l::h.own S
 m2:A.hd∉S.l::h.own S
 m3:ag∉S.l::h.own S
 hl:ag≠A.hd
section
variable {H H':Hp}{A:Al}{ag:Addr}{S:Ad}{h:Ah}{p:Pa}{xs:List Stp}{hs ys:List Int}{tn:Int}{nm:V}{cl sg:Bool}{ks:List Int}{d:Sd}{rs:List Addr}{ws:List Ws}{v:V}
theorem LSh.keep(q:LSh CL CS CH CW K H A ag S h p xs hs ys tn nm cl sg ks d rs ws v)(e:Same H H'):LSh CL CS CH CW K H' A ag S h p xs hs ys tn nm cl sg ks d rs ws v:=⟨q.ld.keep e,e _ _ q.agr,q.sh.keep e,q.m1,q.m2,q.m3,q.hl⟩
theorem LSh.ts(q:LSh CL CS CH CW K H A ag S h p xs hs ys tn nm cl sg ks d rs ws v)(k:KpA A ag S h H H'):bh H H':=λb us e=>k b _ (λhb=>by
 rcases List.mem_cons.mp hb with z | hb
 ·rw [z,q.ld.ins] at e;cases e
 rcases List.mem_cons.mp hb with z | hb
 ·rw [z,q.ld.han] at e;cases e
 rcases List.mem_cons.mp hb with z | hb
 ·rw [z,q.agr] at e;cases e
 obtain ⟨o,e1,n⟩:=q.sh.own hb
 rw [e] at e1
 exact n us (Δ e1).symm) e
theorem LSh.sent(q:LSh CL CS CH CW K H A ag S h p xs hs ys tn nm cl sg ks d rs ws v)(T:TxC K CW CL CH){ws':List Ws}{d':Sd}{rs':List Addr}{v':V}(sh:ShA CS CH K H' S h d' rs' ws' v')(k:KpH S h H H'):LSh CL CS CH CW K H' A ag S h p xs hs ys tn nm cl sg ks d' rs' ws' v':=by
 obtain ⟨us,h1,h2⟩:=q.ld.stp
 have t:=q.sh.ts k
 have no:∀{a:Addr},a∉S.l::h.own S->a∉h.own S:=λn z=>n (.tail _ z)
 exact ⟨⟨k _ _ (no q.m1) q.ld.ins,t _ _ q.ld.nam,⟨us,t _ _ h1,Paired.mapP h2 λx u ⟨a,dx,e,z⟩=>⟨a,dx,e,k _ _ (zR q.sh z (T.n2 _)) z⟩⟩,t _ _ q.ld.hou,k _ _ (no q.m2) q.ld.han,q.ld.ar,q.ld.le,q.ld.lx,q.ld.fx⟩,k _ _ (no q.m3) q.agr,sh,q.m1,q.m2,q.m3,q.hl⟩
theorem LSh.set(q:LSh CL CS CH CW K H A ag S h p xs hs ys tn nm cl sg ks d rs ws v)(T:TxC K CW CL CH)(tn':Int)(nm':V)(cl' sg':Bool):LSh CL CS CH CW K (upd H A.l (.ins CL A.dx (lf A tn' nm' cl' (exW (aD xs:Nat) ag sg')))) A ag S h p xs hs ys tn' nm' cl' sg' ks d rs ws v :=
 ⟨q.ld.upd (by show 3<=9;decide) T.n1,aX _ _ (bp q.agr q.ld.ins (by intro z;cases z)) q.agr,vS q.sh aX q.m1 q.ld.ins (λ_ z=>by cases z),q.m1,q.m2,q.m3,q.hl⟩
theorem ya{a:Addr}{o:HO}{us:List V}(k:Kp a H H')(e:H a=some o)(ho:∀c dx fs,o≠.ins c dx fs)(h:StsP CW H xs us):StsP CW H' xs us:=Paired.mapP h λx u ⟨b,dx,e2,z⟩=>⟨b,dx,e2,k _ _ (λy=>by rw [y,e] at z;exact ho _ _ _ (Δ z)) z⟩
theorem LSh.more(q:LSh CL CS CH CW K H A ag S h p xs hs ys tn nm cl sg ks d rs ws v)(n:Int)(hn:ys.length<xs.length):LSh CL CS CH CW K (upd H A.hd (.lst (ys.map V.int++[.int n]))) A ag S h p xs hs (ys++[n]) tn nm cl sg ks d rs ws v:=by
 obtain ⟨us,h1,h2⟩:=q.ld.stp
 have k:Kp A.hd H (upd H A.hd (.lst (ys.map V.int++[.int n]))):=aX
 have ne:∀{b:Addr} {o:HO},H b=some o->o≠.lst (ys.map V.int)->b≠A.hd:=λe n=>bp e q.ld.han n
 exact ⟨⟨k _ _ (ne q.ld.ins (by intro z;cases z)) q.ld.ins,k _ _ (ne q.ld.nam (by intro z;cases z)) q.ld.nam,⟨us,k _ _ (ne h1 (by intro z;cases z)) h1,ya k q.ld.han (λ_ _ _ z=>by cases z) h2⟩,k _ _ (ne q.ld.hou (by intro z;cases z)) q.ld.hou,by rw [ae,List.map_append];rfl,q.ld.ar,by rw [List.length_append];exact hn,q.ld.lx,q.ld.fx⟩,
  k _ _ q.hl q.agr,vS q.sh k q.m2 q.ld.han (λ_ z=>by cases z),q.m1,q.m2,q.m3,q.hl⟩
end
section
variable {A:Al}{tn:Int}{nm:V}{cl:Bool}{ag:Addr}{b:Int}{sg:Bool}
theorem n8:(lf A tn nm cl (exW b ag sg)).lookup ("undoing":Str)=some (.ref ag):=by kernel_rfl
end
section
variable {H H':Hp}{A:Al}{ag:Addr}{S:Ad}{h:Ah}{p:Pa}{xs:List Stp}{hs ys:List Int}{tn:Int}{nm:V}{cl sg:Bool}{ks:List Int}{d:Sd}{rs:List Addr}{ws:List Ws}{v:V}
theorem LSh.und(q:LSh CL CS CH CW K H A ag S h p xs hs ys tn nm cl sg ks d rs ws v)(ks':List Int):LSh CL CS CH CW K (upd H ag (.lst (ks'.map V.int))) A ag S h p xs hs ys tn nm cl sg ks' d rs ws v:=by
 obtain ⟨us,h1,h2⟩:=q.ld.stp
 have k:Kp ag H (upd H ag (.lst (ks'.map V.int))):=aX
 have ne:∀{b:Addr} {o:HO},H b=some o->o≠.lst (ks.map V.int)->b≠ag:=λe n=>bp e q.agr n
 exact ⟨⟨k _ _ (ne q.ld.ins (by intro z;cases z)) q.ld.ins,k _ _ (ne q.ld.nam (by intro z;cases z)) q.ld.nam,⟨us,k _ _ (ne h1 (by intro z;cases z)) h1,ya k q.agr (λ_ _ _ z=>by cases z) h2⟩,k _ _ (ne q.ld.hou (by intro z;cases z)) q.ld.hou,k _ _ (λz=>q.hl z.symm) q.ld.han,q.ld.ar,q.ld.le,q.ld.lx,q.ld.fx⟩,
  ae,vS q.sh k q.m3 q.agr (λ_ z=>by cases z),q.m1,q.m2,q.m3,q.hl⟩
end
variable {CH CN:Addr}
structure Sg where
 (A:Al)(ag:Addr)(S:Ad)(h:Ah)(p:Pa)(xs:List Stp)(hs ys:List Int)(tn:Int)(nm:V)(cl sg:Bool)(ks:List Int)(d:Sd)(rs:List Addr)(ws:List Ws)(v:V)
abbrev Lg(CL CS CH:Addr)(CW:Wd->Addr)(K:Frag)(H:Hp)(g:Sg):Prop:=LSh CL CS CH CW K H g.A g.ag g.S g.h g.p g.xs g.hs g.ys g.tn g.nm g.cl g.sg g.ks g.d g.rs g.ws g.v
abbrev KpG(g:Sg)(H H':Hp):Prop:=KpA g.A g.ag g.S g.h H H'
theorem tV{X:Cx}{e:Expr}:PE X e (λ_ _ _=>False):=λ_ _ _ _ _ _ h=>h.elim
def pw:Bool->Wd
 | true=>.plus
 | false=>.need
def iO(x:Stp)(n:Int):Int:=match x.1,x.2 with | .plus,[a]=>n+a | _,_=>n
def dz(x:Stp)(n:Int):Bool:=match x.1,x.2 with | .need,[a]=>decide (n<a) | _,_=>false
def gW(xs:List Stp):Nat->List Int->List Int×Bool
 | 0,ys=>(ys,true)
 | k+1,ys=>match xs[ys.length]? with
  | none=>(ys,true)
  | some x=>if aK x.1 x.2=V.non then (if dz x (aR ys)=true then (ys,false) else gW xs k (ys++[iO x (aR ys)])) else (ys,true)
def own(xs:List Stp)(ys:List Int):List Int×Bool:=gW xs (xs.length-ys.length) ys
theorem gr(xs:List Stp)(k:Nat)(ys:List Int):gW xs (k+1) ys=match xs[ys.length]? with | none=>(ys,true) | some x=>if aK x.1 x.2=V.non then (if dz x (aR ys)=true then (ys,false) else gW xs k (ys++[iO x (aR ys)])) else (ys,true):=rfl
theorem iN{xs:List Stp}{ys:List Int}(k:Nat)(h:xs[ys.length]?=none):gW xs (k+1) ys=(ys,true):=by rw [gr,h]
theorem mq{xs:List Stp}{ys:List Int}{x:Stp}(k:Nat)(h:xs[ys.length]?=some x)(e:aK x.1 x.2=.non)(f:dz x (aR ys)=false):gW xs (k+1) ys=gW xs k (ys++[iO x (aR ys)]):=by
 rw [gr,h]
 show (if aK x.1 x.2=V.non then (if dz x (aR ys)=true then (ys,false) else gW xs k (ys++[iO x (aR ys)])) else (ys,true))=_
 rw [if_pos e,f]
 rfl
theorem jR{xs:List Stp}{ys:List Int}{x:Stp}(k:Nat)(h:xs[ys.length]?=some x)(e:aK x.1 x.2=.non)(f:dz x (aR ys)=true):gW xs (k+1) ys=(ys,false):=by
 rw [gr,h]
 show (if aK x.1 x.2=V.non then (if dz x (aR ys)=true then (ys,false) else gW xs k (ys++[iO x (aR ys)])) else (ys,true))=_
 rw [if_pos e,if_pos f]
theorem mr{xs:List Stp}{ys:List Int}{x:Stp}(k:Nat)(h:xs[ys.length]?=some x)(e:aK x.1 x.2≠.non):gW xs (k+1) ys=(ys,true):=by
 rw [gr,h]
 exact if_neg e
theorem ii{xs:List Stp}{ys:List Int}(h:bL xs ys≠.non\/xs.length<=ys.length):own xs ys=(ys,true):=by
 unfold own
 cases e:xs.length-ys.length with
 | zero=>rfl
 | succ k =>
  cases ex:xs[ys.length]? with
  | none=>exact iN k ex
  | some x =>
   refine mr k ex ?_
   have h':=h.resolve_right ω
   unfold bL at h'
   rw [ex] at h'
   exact h'
theorem qq{xs:List Stp}{ys:List Int}{x:Stp}(hx:xs[ys.length]?=some x)(hh:aK x.1 x.2=.non)(f:dz x (aR ys)=true):own xs ys=(ys,false):=by
 have hl:=(List.getElem?_eq_some_iff.mp hx).1
 unfold own
 obtain ⟨k,ek⟩:∃k,xs.length-ys.length=k+1:=⟨xs.length-ys.length-1,ω⟩
 rw [ek]
 exact jR k hx hh f
theorem fQ{xs:List Stp}{ys:List Int}{x:Stp}(hx:xs[ys.length]?=some x)(hh:aK x.1 x.2=.non)(f:dz x (aR ys)=false):own xs ys=own xs (ys++[iO x (aR ys)]):=by
 have hl:=(List.getElem?_eq_some_iff.mp hx).1
 unfold own
 have e2:(ys++[iO x (aR ys)]).length=ys.length+1:=by rw [List.length_append];rfl
 have e:xs.length-ys.length=(xs.length-(ys++[iO x (aR ys)]).length)+1:=by rw [e2];omega
 rw [e]
 exact mq _ hx hh f
theorem uY(ys:List Int)(n:Int):aR (ys++[n])=n:=by unfold aR;simp
theorem nM(xs:List Stp)(R:List Int->Prop)(hs:∀ys x,xs[ys.length]?=some x->aK x.1 x.2=.non->dz x (aR ys)=false->R ys->R (ys++[iO x (aR ys)])):∀k ys,R ys->R (gW xs k ys).1
 | 0,_,r=>r
 | k+1,ys,r=>by
  cases ex:xs[ys.length]? with
  | none=>rw [iN k ex];exact r
  | some x =>
   by_cases e:aK x.1 x.2=.non
   ·cases f:dz x (aR ys) with
    | true=>rw [jR k ex e f];exact r
    | false=>rw [mq k ex e f];exact nM xs R hs k _ (hs ys x ex e f r)
   ·rw [mr k ex e];exact r
theorem nN(xs:List Stp):∀k ys,xs.length-ys.length=k->(gW xs k ys).2=true->bL xs (gW xs k ys).1≠.non\/xs.length<=(gW xs k ys).1.length
 | 0,ys,h,_=>.inr (by show xs.length<=ys.length;omega)
 | k+1,ys,h,t=>by
  cases ex:xs[ys.length]? with
  | none=>rw [iN k ex];exact .inr (List.getElem?_eq_none_iff.mp ex)
  | some x =>
   by_cases e:aK x.1 x.2=.non
   ·cases f:dz x (aR ys) with
    | true=>rw [jR k ex e f] at t;cases t
    | false =>
     rw [mq k ex e f] at t ⊢
     refine nN xs k _ ?_ t
     have e2:(ys++[iO x (aR ys)]).length=ys.length+1:=by rw [List.length_append];rfl
     omega
   ·rw [mr k ex e]
    exact .inl (by unfold bL;rw [ex];exact e)
theorem qp{xs:List Stp}{ys:List Int}(t:(own xs ys).2=true):bL xs (own xs ys).1≠.non\/xs.length<=(own xs ys).1.length:=nN xs _ ys rfl t
section
variable (CL CS CH CN:Addr)(CW:Wd->Addr)(K:Frag)
def vN(b:Bool):Sp:=λvs H Q E=>∃v ns n u,vs=[v,.int n,u]/\Ar (pw b) ns/\StO CW H (pw b) ns v/\(dz (pw b,ns) n=false->∀t t2 H',Same H H'->H' t=some (.tup [.int (iO (pw b,ns) n),.ref t2])->Q (.ref t) H')/\(dz (pw b,ns) n=true->∀ea,E (.ref ea) (some CN) H)
def StQ(wd:Str)(H:Hp)(g:Sg)(Q:V->Hp->Prop):Prop:=∃x n,g.xs[g.ys.length]?=some x/\aK x.1 x.2=.int n/\g.ws.length<=900 /\
 ∀t H',Lg CL CS CH CW K H' {g with ws:=g.ws++[(n,wd,g.A.na,t)]}->H' t=some (.tup [.int (g.ys.length:Nat),.int (aR g.ys),.str (sx x)])->KpG g H H'->Q .non H'
def lI:Sp:=λvs H Q _=>∃g wd,vs=[.ref (g:Sg).A.l,.ref g.h.l,.str wd]/\Lg CL CS CH CW K H g/\StQ CL CS CH CW K wd H g Q
def Sg.own(g:Sg):Sg:={g with ys:=(K45.own g.xs g.ys).1}
def sJ:Sp:=λvs H Q _=>∃g,vs=[.ref (g:Sg).A.l]/\Lg CL CS CH CW K H g/\∀H',Lg CL CS CH CW K H' g.own->KpG g H H'->Q (.bl (own g.xs g.ys).2) H'
end
structure TxN(K:Frag)(mg:Str->Option Value)(CN:Addr):Prop where
 mN:mg "NoNeed"=some (.ref CN)
 xN:PySem.W.excIn K CN [.type "ValueError",.type "Exception",.type "BaseException",.type "object"] "ValueError.__new__"=true
 sub:PySem.W.mroIn K CN (.ref CN)=some true
theorem uC(F:Fun K "step_done" "PlusStep.step_done" ci f fd)(W:TxW K CW):FnOk P w K mg base (CXE P w) 1 f fd ["self","hand","value_of"] (vN CN CW true):=by
 refine F.okE ft (λvs H Q E h=>?_) (λcdv A outer s H vs Q E hr h=>?_)
 ·obtain ⟨v,ns,n,u,rfl,_⟩:=h
  rfl
 obtain ⟨v,ns,n,u,rfl,ar,⟨a,dx,rfl,ha⟩,q,_⟩:=h
 obtain ⟨b,rfl,_⟩:=Ar.p ar
 have ha:H a=some (.ins (CW .plus) dx (ao "amount" (.int b) [])):=ha
 refine ⟨_,af (aq (bi (aa (aF cT (pv 1) (au (pv 0) rfl)) (aa (bi ad) ad)))),?_⟩
 refine ⟨_,rfl,_,rfl,a,CW .plus,dx,_,_,rfl,ha,W.cl _,W.nA _,bQ,_,_,rfl,rfl,χ,λt2 ht2=>⟨χ,λt ht=>?_⟩⟩
 exact q rfl t t2 _ ((aj ht2).trans (aj ht)) ae
theorem uD(F:Fun K "step_done" "NeedStep.step_done" cj f fd)(W:TxW K CW)(N:TxN K mg CN):FnOk P w K mg base (CXE P w) 1 f fd ["self","hand","value_of"] (vN CN CW false):=by
 refine F.okE fu (λvs H Q E h=>?_) (λcdv A outer s H vs Q E hr h=>?_)
 ·obtain ⟨v,ns,n,u,rfl,_⟩:=h
  rfl
 obtain ⟨v,ns,n,u,rfl,ar,⟨a,dx,rfl,ha⟩,q,qn⟩:=h
 obtain ⟨b,rfl,_⟩:=Ar.n ar
 have ha:H a=some (.ins (CW .need) dx (ao "amount" (.int b) [])):=ha
 refine ⟨_,ac (aE (ak gF (pv 1) (au (pv 0) rfl) (ap _)) (af (tK zt rfl rfl N.mN N.xN PySem.F.excBase_ValueError (aa ay ad))) av) (af (aq (bi (aa (pv 1) (aa (bi ad) ad))))),?_⟩
 refine ⟨_,rfl,_,rfl,a,CW .need,dx,_,_,rfl,ha,W.cl _,W.nA _,bQ,_,_,rfl,rfl,_,rfl,bv (λc=>?_) (λc=>?_)⟩
 ·exact ⟨ι _,qn (show decide (n<b)=true from c)⟩
 ·have c':decide (n<b)=false:=by
   cases e:decide (n<b) with
   | false=>rfl
   | true=>exact absurd e c
  refine ⟨_,rfl,χ,λt2 ht2=>⟨χ,λt ht=>?_⟩⟩
  exact q c' t t2 _ ((aj ht2).trans (aj ht)) ae
theorem yD{fN:Addr}(F:Fun K "own_steps_done" "Lead.own_steps_done" bZ f fd)(B:TxB mg)(T:TxC K CW CL CH)(W:TxW K CW)(N:TxN K mg CN)(mN:mg "no_value"=some (.ref fN))(GN:GM P w K mg base CX0 2 CL "next_house" ["self"] (jC CL CW))(GA:GM P w K mg base CX0 1 CL "present_hand" ["self"] (lN CL CW))
  (GD:∀b,GM P w K mg base (CXE P w) 1 (CW (pw b)) "step_done" ["self","hand","value_of"] (vN CN CW b)):FnOk P w K mg base CX0 3 f fd ["self"] (sJ CL CS CH CW K):=by
 refine F.ok sc_Lead_own_steps_done (λvs H Q E h=>?_) (λcdv A outer s H vs Q E hr h=>?_)
 ·obtain ⟨g,rfl,_⟩:=h
  rfl
 obtain ⟨g,rfl,lg,q⟩:=h
 have nd:=sc_Lead_own_steps_done.nd
 refine ⟨_,ac (jO PassesOwn.never (PW.pt (bH (ak gF (aB aA rfl B.len PySem.boot_len (aa (au (pv 0) rfl) ad)) (aB aA rfl B.len PySem.boot_len (aa (au (pv 0) rfl) ad)) (ap _)) (bF (ak gX (pm0 GN (pv 0) T.t.cl hr) aY (ap _)))))
   (ac (aC (i:=1) nd rfl (Or.inl rfl) (aG (r:=cb K) aN (au (pv 0) rfl) (aB aA rfl B.len PySem.boot_len (aa (au (pv 0) rfl) ad)) (λ_ _=>rfl)))
   (af (ph (C:=CN) rfl rfl rfl (yr PySem.F.plainAttrs_list PySem.F.slot_list_append PySem.F.type_list_append cp (au (pv 0) rfl) (yp (r:=cb K) aN (yq λb=>tT (pv 1) (W.cl _) (GD b).me (GD b).ok (hr.mono ζ) (GD b).bd (aa (pm0 GA (pv 0) T.t.cl hr) (aa (dt (v:=.ref fN) rfl mN rfl) ad))) ai (λ_ _=>rfl))) rfl N.mN (qQ N.mN N.xN N.mN N.xN θ N.sub) (λev=>af (aq cH))))))
  (af (aq cH)),?_⟩
 refine ⟨λm σ' H'=>∃y1 ys,σ'=[some (.ref g.A.l),y1]/\Lg CL CS CH CW K H' {g with ys:=ys}/\KpG g H H'/\own g.xs ys=own g.xs g.ys/\m=g.xs.length-ys.length,⟨_,none,g.ys,rfl,lg,λb o _ e=>e,rfl,rfl⟩,?_⟩
 rintro m σ' H1 ⟨y1,ys,rfl,lg1,k1,eo,rfl⟩
 have ld:=lg1.ld
 obtain ⟨us,hu1,hu2⟩:=ld.stp
 have pl:g.xs.length=us.length:=hu2.len
 have hy:(ys.map V.int).length=ys.length:=List.length_map _
 have n12:g.xs.length<=12:=ld.lx
 have to:∀{H2:Hp} {b:Bool},Lg CL CS CH CW K H2 {g with ys:=ys}->KpG g H H2->own g.xs ys=(ys,b)->Q (.bl b) H2:=λ{H2 b} l2 k2 e=>by
  have e2:own g.xs g.ys=(ys,b):=eo.symm.trans e
  have z:=q H2 (by
   show LSh _ _ _ _ _ _ _ _ _ _ _ _ _ (own g.xs g.ys).1 _ _ _ _ _ _ _ _ _
   rw [e2]
   exact l2) k2
  rw [e2] at z
  exact z
 have fin:bL g.xs ys≠.non\/g.xs.length<=ys.length->Q (.bl true) H1:=λz=>to lg1 k1 (ii z)
 refine ⟨_,rfl,g.A.l,CL,g.A.dx,_,_,rfl,ld.ins,T.t.cl,T.t.hd,gc,g.A.hd,_,rfl,.inl (SqL.of ld.han),_,rfl,g.A.l,CL,g.A.dx,_,_,rfl,ld.ins,T.t.cl,T.t.tp,jW,g.A.tp,_,rfl,.inr (SqT.of hu1),_,_,rfl,rfl,_,rfl,?_⟩
 rw [hy]
 refine bv (λc=>?_) (λc=>aI (fin (.inr ?_)))
 ·have c':ys.length<g.xs.length:=by have z:=Ξ c;omega
  refine ⟨_,rfl,g.A.l,g.A.dx,_,rfl,ld.ins,aT θ,g.A,g.p,g.xs,g.hs,ys,g.tn,g.nm,g.cl,_,rfl,ld,rfl,_,rfl,?_⟩
  by_cases en:bL g.xs ys=.non
  ·rw [τ en]
   refine aW ?_
   obtain ⟨x,ex⟩:∃x,g.xs[ys.length]?=some x:=⟨_,ξ c'⟩
   have hh:aK x.1 x.2=.non:=by unfold bL at en;rw [ex] at en;exact en
   have arx:=ld.ar x (List.mem_of_getElem? ex)
   obtain ⟨b,eb⟩:∃b,x.1=pw b:=by
    by_cases w1:x.1=.plus
    ·exact ⟨true,w1⟩
    by_cases w2:x.1=.need
    ·exact ⟨false,w2⟩
    obtain ⟨i,r,_,e2⟩:=arx.home w1 w2
    rw [e2] at hh
    cases hh
   obtain ⟨u,eu,sa,sdx,rfl,hsa⟩:=hu2.get1 ex
   obtain ⟨wd,ns⟩:=x
   cases (show wd=pw b from eb)
   have f1:=jb (m:="step_done") θ θ θ θ θ (pw b) ns
   refine ⟨fun σ' H'=>∃y1 ys',σ'=[some (.ref g.A.l),y1]/\Lg CL CS CH CW K H' {g with ys:=ys'}/\KpG g H H'/\own g.xs ys'=own g.xs g.ys/\ys'.length=ys.length+1,fun σ' H' ⟨y1,ys',e1,e2,e3,e4,e6⟩=>⟨g.xs.length-ys'.length,ω,y1,ys',e1,e2,e3,e4,rfl⟩,?_⟩
   refine ⟨_,rfl,g.A.l,CL,g.A.dx,_,_,rfl,ld.ins,T.t.cl,T.t.tp,jW,_,rfl,g.A.l,CL,g.A.dx,_,_,rfl,ld.ins,T.t.cl,T.t.hd,gc,g.A.hd,_,rfl,.inl (SqL.of ld.han),g.A.tp,_,_,_,rfl,rfl,SqT.of hu1,aU (by rw [hy];exact eu),?_⟩
   refine ⟨_,rfl,g.A.l,CL,g.A.dx,_,_,rfl,ld.ins,T.t.cl,T.t.hd,gc,.inl ⟨rfl,_,SqL.of ld.han⟩,b,_,rfl,sa,sdx,_,rfl,hsa,f1,_,rfl,g.A.l,g.A.dx,_,rfl,ld.ins,aT θ,g.A,g.p,g.xs,g.hs,ys,g.tn,g.nm,g.cl,_,rfl,ld,_,ns,_,_,rfl,arx,⟨sa,sdx,rfl,hsa⟩,λnf t t2 H2 s2 ht=>?_,λnf ea=>⟨ea,rfl,rfl,λhe=>?_⟩⟩
   ·have lg2:=lg1.keep s2
    refine ⟨t,_,_,_,rfl,rfl,SqT.of ht,St.at0,g.A.hd,_,_,rfl,rfl,lg2.ld.han,bw (by rw [hy];omega),?_⟩
    have lg3:=lg2.more (iO (pw b,ns) (aR ys)) c'
    have e3:own g.xs (ys++[iO (pw b,ns) (aR ys)])=own g.xs g.ys:=(fQ ex hh nf).symm.trans eo
    exact ⟨_,_,rfl,lg3,(k1.trans (KpA.of s2)).trans (KpA.up (.tail _ (.head _))),e3,by rw [List.length_append];rfl⟩
   ·exact to (lg1.keep (aj he)) (k1.trans (KpA.of (aj he))) (qq ex hh nf)
  ·rw [Γ en]
   exact aI (fin (.inl en))
 ·have z:¬((ys.length:Nat):Int)<((us.length:Nat):Int):=λz=>c (τ z)
  omega
theorem ub(F:Fun K "send_step" "Lead.send_step" cV f fd)(B:TxB mg)(T:TxC K CW CL CH)(W:TxW K CW)(DH:TxH K CH)(GP:∀wd,GM P w K mg base CX0 4 (CW wd) "spelled" ["self"] (bX CW wd))(GN:GM P w K mg base CX0 2 CL "next_house" ["self"] (jC CL CW))(GA:GM P w K mg base CX0 1 CL "present_hand" ["self"] (lN CL CW))
  (GS:GM P w K mg base CX0 1 CH "send" ["self","to","word","p","more"] (jq CS CH K)):FnOk P w K mg base CX0 5 f fd ["self","sheet","word"] (lI CL CS CH CW K):=by
 refine F.ok sc_Lead_send_step (λvs H Q E h=>?_) (λcdv A outer s H vs Q E hr h=>?_)
 ·obtain ⟨g,wd,rfl,_⟩:=h
  rfl
 obtain ⟨g,wd,rfl,lg,x,n,hx,hh,hw,q⟩:=h
 have nd:=sc_Lead_send_step.nd
 refine ⟨_,ac (aC (i:=3) nd rfl (Or.inl rfl) (aB aA rfl B.len PySem.boot_len (aa (au (pv 0) rfl) ad)))
  (ac (aC (i:=4) nd rfl (Or.inl rfl) (i5 λwd=>pm0 (GP wd) (aG (r:=cb K) aN (au (pv 0) rfl) (pv 3) (λ_ _=>rfl)) (W.cl wd) hr))
  (af (bf (pm GS (pv 1) DH.cl hr (aa (pm0 GN (pv 0) T.t.cl hr) (aa (pv 2) (aa (au (pv 0) rfl) (aa (bi (aa (pv 3) (aa (pm0 GA (pv 0) T.t.cl hr) (aa (pv 4) ad)))) ad)))))))),?_⟩
 have ld:=lg.ld
 obtain ⟨us,h1,h2⟩:=ld.stp
 have hy:(g.ys.map V.int).length=g.ys.length:=List.length_map _
 obtain ⟨u,eu,sa,sdx,rfl,hsa⟩:=h2.get1 hx
 have f1:=jb (m:="spelled") θ θ θ θ θ x.1 x.2
 refine ⟨_,rfl,g.A.l,CL,g.A.dx,_,_,rfl,ld.ins,T.t.cl,T.t.hd,gc,g.A.hd,_,rfl,.inl (SqL.of ld.han),?_⟩
 rw [hy]
 refine ⟨x.1,_,rfl,g.A.l,CL,g.A.dx,_,_,rfl,ld.ins,T.t.cl,T.t.tp,jW,_,rfl,g.A.tp,_,_,_,rfl,rfl,SqT.of h1,aU eu,sa,sdx,_,rfl,hsa,f1,_,x.2,rfl,ld.ar x (List.mem_of_getElem? hx),⟨sa,sdx,rfl,hsa⟩,λH1 s1=>?_⟩
 have lg1:=lg.keep s1
 have ld1:=lg1.ld
 have e2:bL g.xs g.ys=.int n:=by unfold bL;rw [hx];exact hh
 refine ⟨_,rfl,g.h.l,g.h.dx,_,rfl,lg1.sh.ins,ip θ,_,rfl,g.A.l,g.A.dx,_,rfl,ld1.ins,(aT θ),g.A,g.p,g.xs,g.hs,g.ys,g.tn,g.nm,g.cl,_,rfl,ld1,?_⟩
 rw [e2]
 refine ⟨_,rfl,_,rfl,g.A.l,CL,g.A.dx,_,_,rfl,ld1.ins,T.t.cl,T.t.na,uQ,_,rfl,_,rfl,g.A.l,g.A.dx,_,rfl,ld1.ins,(aT θ),g.A,g.p,g.xs,g.hs,g.ys,g.tn,g.nm,g.cl,_,rfl,ld1,_,rfl,χ,λt ht=>?_⟩
 have s2:=aj (o:=.tup [.int (g.ys.length:Nat),.int (aR g.ys),.str (sx x)]) ht
 have lg2:=lg1.keep s2
 have ht2:(upd H1 t (.tup [.int (g.ys.length:Nat),.int (aR g.ys),.str (sx x)])) t=some (.tup [.int (g.ys.length:Nat),.int (aR g.ys),.str (sx x)]):=ae
 refine ⟨g.S,g.h,g.d,g.rs,g.ws,g.v,(n,wd,g.A.na,t),rfl,lg2.sh,hw,λH3 sh3 k3=>?_⟩
 exact q t H3 (lg2.sent T sh3 k3) (lg2.sh.ts k3 _ _ ht2) (((KpA.of s1).trans (KpA.of s2)).trans (KpA.sh k3))
variable {CH CN:Addr}
section
variable (CL CS CH:Addr)(CW:Wd->Addr)(K:Frag)
def GoQ(H:Hp)(g:Sg)(Q:V->Hp->Prop):Prop:=(g.ys.length=aD g.xs/\∀H',Lg CL CS CH CW K H' {g with nm:=.str "done"}->KpG g H H'->Q (.str "done") H')\/(g.ys.length≠aD g.xs/\StQ CL CS CH CW K "walk" H g Q)
def sP:Sp:=λvs H Q _=>∃g,vs=[.ref (g:Sg).A.l,.ref g.h.l]/\Lg CL CS CH CW K H g/\GoQ CL CS CH CW K H g Q
def UnQ(H:Hp)(g:Sg)(Q:V->Hp->Prop):Prop:=∃k0 j x n,g.ks=k0++[((j:Nat):Int)]/\g.xs[j]?=some x/\aK x.1 x.2=.int n/\g.ws.length<=900 /\
 ∀t H',Lg CL CS CH CW K H' {g with ws:=g.ws++[(n,("undo":Str),g.A.na,t)]}->H' t=some (.tup [.int (j:Nat),.str (sx x)])->KpG g H H'->Q .non H'
def yb:Sp:=λvs H Q _=>∃g,vs=[.ref (g:Sg).A.l,.ref g.h.l]/\Lg CL CS CH CW K H g/\((g.ks=[]/\Q (.bl false) H)\/UnQ CL CS CH CW K H g (λ_ H2=>Q (.bl true) H2))
def BuQ(H:Hp)(g:Sg)(Q:V->Hp->Prop):Prop:=(g.ks=[]/\((g.sg=true/\Q .non H)\/(g.sg=false/\g.rs.length<=100/\g.d.Small 50/\g.d.ends=[] /\
  ∀r b v' H2,Lg CL CS CH CW K H2 {g with sg:=true,d:=g.d.keep r b (.over g.p),rs:=g.rs++[r],v:=v'}->H2 r=some (.tup [.str "over",.ref g.A.na])->KpG g H H2->Q .non H2)))
 \/ UnQ CL CS CH CW K H g Q
def oU:Sp:=λvs H Q _=>∃g,vs=[.ref (g:Sg).A.l,.ref g.h.l]/\Lg CL CS CH CW K H g/\g.nm=.str "broken"/\BuQ CL CS CH CW K H g Q
def GgQ(H:Hp)(g:Sg)(Q:V->Hp->Prop):Prop:=(g.cl=true/\g.nm=.str "broken"/\BuQ CL CS CH CW K H g Q)\/(g.cl=false/\g.nm=.non/\∀H',Lg CL CS CH CW K H' g.own->KpG g H H' ->
 ((own g.xs g.ys).2=false/\∀H2,Lg CL CS CH CW K H2 {g.own with nm:=.str "broken"}->KpG g H' H2->Q (.str "broken") H2)\/((own g.xs g.ys).2=true/\GoQ CL CS CH CW K H' g.own Q))
def sQ:Sp:=λvs H Q _=>∃g,vs=[.ref (g:Sg).A.l,.ref g.h.l]/\Lg CL CS CH CW K H g/\GgQ CL CS CH CW K H g Q
def TuQ(H:Hp)(g:Sg)(Q:V->Hp->Prop):Prop:=(g.nm≠.non/\GgQ CL CS CH CW K H g Q)\/(g.nm=.non/\g.tn+1≠4/\∀H',Lg CL CS CH CW K H' {g with tn:=g.tn+1}->KpG g H H'->GgQ CL CS CH CW K H' {g with tn:=g.tn+1} Q)
 \/ (g.nm=.non/\g.tn+1=4/\∀H',Lg CL CS CH CW K H' {g with tn:=g.tn+1,nm:=.str "broken"}->KpG g H H'->Q (.str "broken") H')
def jo:Sp:=λvs H Q _=>∃g,vs=[.ref (g:Sg).A.l,.ref g.h.l]/\Lg CL CS CH CW K H g/\TuQ CL CS CH CW K H g Q
def sC:Sp:=λvs H Q _=>∃g,vs=[.ref (g:Sg).A.l]/\Lg CL CS CH CW K H g/\((g.nm=.non/\Q (.bl true) H)\/(g.cl=true/\g.nm=.str "broken"/\Q (.bl false) H))
def sE:Sp:=λvs H Q _=>∃g,vs=[.ref (g:Sg).A.l]/\Lg CL CS CH CW K H g/\g.cl=true/\g.nm=.str "broken"/\Q (.bl (decide (0<g.ks.length))) H
def CmQ(wd:Str)(m:Addr)(H:Hp)(g:Sg)(Q:V->Hp->Prop):Prop :=
 (wd="went"/\∃i n,H m=some (.tup [.int i,.int n]) /\
  ((g.nm=.non/\i=(g.ys.length:Nat)/\bL g.xs g.ys≠.non/\∀H',Lg CL CS CH CW K H' {g with ys:=g.ys++[n]}->KpG g H H'->GgQ CL CS CH CW K H' {g with ys:=g.ys++[n]} Q) \/
   (g.cl=true/\g.nm=.str "broken"/\Q .non H))) \/
 (wd="undid"/\g.cl=true/\g.nm=.str "broken"/\∃i,H m=some (.tup [.int i]) /\
  ((∃k0,g.ks=k0++[i]/\∀H',Lg CL CS CH CW K H' {g with ks:=k0}->KpG g H H'->GgQ CL CS CH CW K H' {g with ks:=k0} Q)\/((∀k0,g.ks≠k0++[i])/\Q .non H)))
def lQ:Sp:=λvs H Q _=>∃g wd sd m,vs=[.ref (g:Sg).A.l,.ref g.h.l,.str wd,sd,.ref m]/\Lg CL CS CH CW K H g/\CmQ CL CS CH CW K wd m H g Q
def sR:Sp:=λvs H Q _=>∃g,vs=[.ref (g:Sg).A.l,.ref g.h.l,.str "broken"]/\Lg CL CS CH CW K H g/\g.cl=false/\∀H',Lg CL CS CH CW K H' {g with nm:=.str "broken",cl:=true}->KpG g H H'->BuQ CL CS CH CW K H' {g with nm:=.str "broken",cl:=true} Q
end
theorem yK(F:Fun K "go_ahead" "WalkedLead.go_ahead" bY f fd)(B:TxB mg)(T:TxC K CW CL CH)(GT:GM P w K mg base CX0 5 CL "send_step" ["self","sheet","word"] (lI CL CS CH CW K))(GM':GM P w K mg base CX0 1 CL "naming" ["self","outcome"] (mZ CL CW)):FnOk P w K mg base CX0 6 f fd ["self","sheet"] (sP CL CS CH CW K):=by
 refine F.ok eO (λvs H Q E h=>?_) (λcdv A outer s H vs Q E hr h=>?_)
 ·obtain ⟨g,rfl,_⟩:=h
  rfl
 obtain ⟨g,rfl,lg,q⟩:=h
 refine ⟨_,ac (aE (ak aO (aB aA rfl B.len PySem.boot_len (aa (au (pv 0) rfl) ad)) (au (pv 0) rfl) (ap _)) (af (aq (pm GM' (pv 0) T.t.cl hr (aa ay ad)))) av)
  (ac (bf (pm GT (pv 0) T.t.cl hr (aa (pv 1) (aa ay ad)))) (af (aq aY))),?_⟩
 have ld:=lg.ld
 have hy:(g.ys.map V.int).length=g.ys.length:=List.length_map _
 refine ⟨_,rfl,g.A.l,CL,g.A.dx,_,_,rfl,ld.ins,T.t.cl,T.t.hd,gc,g.A.hd,_,rfl,.inl (SqL.of ld.han),_,rfl,g.A.l,CL,g.A.dx,_,_,rfl,ld.ins,T.t.cl,T.bd,Aj,rfl,_,rfl,?_⟩
 rw [hy]
 rcases q with ⟨e,q⟩ | ⟨e,q⟩
 ·refine bv (λ_=>?_) (λc=>absurd (τ (congrArg V.int (by rw [e]))) c)
  refine ⟨_,rfl,g.A.l,g.A.dx,_,rfl,ld.ins,aT θ,g.A,g.p,g.xs,g.hs,g.ys,g.tn,g.nm,g.cl,_,_,rfl,ld,?_⟩
  exact q _ (lg.set T g.tn (.str "done") g.cl g.sg) (KpA.up (.head _))
 ·refine bv (λc=>absurd (V.int.inj (Ξ c)) (λz=>e (Int.ofNat.inj z))) (λ_=>?_)
  obtain ⟨x,n,hx,hh,hw,q⟩:=q
  exact ⟨_,rfl,g.A.l,g.A.dx,_,rfl,ld.ins,aT θ,_,rfl,g,_,rfl,lg,x,n,hx,hh,hw,q⟩
theorem Ab(F:Fun K "undo_rest" "WalkedLead.undo_rest" bT f fd)(T:TxC K CW CL CH)(W:TxW K CW)(DH:TxH K CH)(GH:∀wd,GM P w K mg base CX0 1 (CW wd) "house" ["self"] (dQ CW wd))(GP:∀wd,GM P w K mg base CX0 4 (CW wd) "spelled" ["self"] (bX CW wd))
  (GS:GM P w K mg base CX0 1 CH "send" ["self","to","word","p","more"] (jq CS CH K)):FnOk P w K mg base CX0 5 f fd ["self","sheet"] (yb CL CS CH CW K):=by
 refine F.ok sc_WalkedLead_undo_rest (λvs H Q E h=>?_) (λcdv A outer s H vs Q E hr h=>?_)
 ·obtain ⟨g,rfl,_⟩:=h
  rfl
 obtain ⟨g,rfl,lg,q⟩:=h
 have nd:=sc_WalkedLead_undo_rest.nd
 refine ⟨_,ac (aE (eU (nD (au (pv 0) rfl) (λ_=>rfl))) (af (aq cH)) av)
  (ac (aC (i:=2) nd rfl (Or.inl rfl) (aG (r:=ce K) aJ (au (pv 0) rfl) (nG jz ai) (λ_ _=>rfl)))
  (ac (aC (i:=3) nd rfl (Or.inl rfl) (aG (r:=cb K) aN (au (pv 0) rfl) (pv 2) (λ_ _=>rfl)))
  (ac (bf (pm GS (pv 1) DH.cl hr (aa (i5 λwd=>pm0 (GH wd) (pv 3) (W.cl wd) hr) (aa ay (aa (au (pv 0) rfl) (aa (bi (aa (pv 2) (aa (i5 λwd=>pm0 (GP wd) (pv 3) (W.cl wd) hr) ad))) ad))))))
  (af (aq cH))))),?_⟩
 have ld:=lg.ld
 refine ⟨_,rfl,g.A.l,CL,g.A.dx,_,_,rfl,ld.ins,T.t.cl,T.un,n8,_,.inl ⟨_,SqL.of lg.agr,rfl⟩,?_⟩
 rcases q with ⟨e,q⟩ | ⟨k0,j,x,n,ek,hx,hh,hw,q⟩
 ·rw [e]
  exact aW q
 ·have e1:(!List.isEmpty (g.ks.map V.int))=true:=by rw [ek];simp
  rw [e1]
  refine aI ?_
  obtain ⟨us,h1,h2⟩:=ld.stp
  obtain ⟨u,eu,sa,sdx,rfl,hsa⟩:=h2.get1 hx
  refine ⟨_,rfl,g.A.l,CL,g.A.dx,_,_,rfl,ld.ins,T.t.cl,T.un,n8,_,rfl,g.ag,_,_,.int (j:Nat),rfl,rfl,SqL.of lg.agr,(by rw [ek,List.map_append];exact iz _ _),?_⟩
  refine ⟨_,rfl,g.A.l,CL,g.A.dx,_,_,rfl,ld.ins,T.t.cl,T.t.tp,jW,_,rfl,g.A.tp,_,_,_,rfl,rfl,SqT.of h1,aU eu,?_⟩
  have f1:=jb (m:="spelled") θ θ θ θ θ x.1 x.2
  have f2:=jb (m:="house") θ θ θ θ θ x.1 x.2
  have arx:=ld.ar x (List.mem_of_getElem? hx)
  refine ⟨_,rfl,g.h.l,g.h.dx,_,rfl,lg.sh.ins,ip θ,x.1,_,rfl,sa,sdx,_,rfl,hsa,f2,_,x.2,rfl,arx,⟨sa,sdx,rfl,hsa⟩,?_⟩
  rw [hh]
  refine ⟨_,rfl,g.A.l,CL,g.A.dx,_,_,rfl,ld.ins,T.t.cl,T.t.na,uQ,_,rfl,x.1,_,rfl,sa,sdx,_,rfl,hsa,f1,_,x.2,rfl,arx,⟨sa,sdx,rfl,hsa⟩,λH1 s1=>⟨χ,λt ht=>?_⟩⟩
  have lg1:=lg.keep s1
  have s2:=aj (o:=.tup [.int (j:Nat),.str (sx x)]) ht
  have lg2:=lg1.keep s2
  have ht2:(upd H1 t (.tup [.int (j:Nat),.str (sx x)])) t=some (.tup [.int (j:Nat),.str (sx x)]):=ae
  refine ⟨g.S,g.h,g.d,g.rs,g.ws,g.v,(n,("undo":Str),g.A.na,t),rfl,lg2.sh,hw,λH3 sh3 k3=>?_⟩
  exact q t H3 (lg2.sent T sh3 k3) (lg2.sh.ts k3 _ _ ht2) (((KpA.of s1).trans (KpA.of s2)).trans (KpA.sh k3))
theorem Af(F:Fun K "go_behind" "WalkedLead.go_behind" bU f fd)(T:TxC K CW CL CH)(DH:TxH K CH)(GU:GM P w K mg base CX0 5 CL "undo_rest" ["self","sheet"] (yb CL CS CH CW K))(GR:GM P w K mg base CX0 3 CH "row" ["self","row"] (lP CS CH K)):FnOk P w K mg base CX0 6 f fd ["self","sheet"] (oU CL CS CH CW K):=by
 refine F.ok sc_WalkedLead_go_behind (λvs H Q E h=>?_) (λcdv A outer s H vs Q E hr h=>?_)
 ·obtain ⟨g,rfl,_⟩:=h
  rfl
 obtain ⟨g,rfl,lg,en,q⟩:=h
 have nd:=sc_WalkedLead_go_behind.nd
 refine ⟨_,ac (aC (i:=2) nd rfl (Or.inl rfl) (jP (ak aO (au (pv 0) rfl) ay (ap _)) tV (pm GU (pv 0) T.t.cl hr (aa (pv 1) ad))))
  (af (aE (PW.pt (bH (eU (bj (pv 2))) (bF (eU (bj (au (pv 0) rfl)))))) (ac (aL (pv 0) cH rfl) (af (bf (pm GR (pv 1) DH.cl hr (aa (bi (aa ay (aa (au (pv 0) rfl) ad))) ad))))) av)),?_⟩
 refine ⟨_,rfl,g.A.l,CL,g.A.dx,_,_,rfl,lg.ld.ins,T.t.cl,T.t.nm,kU,(by rw [en];rfl),_,rfl,?_⟩
 rw [en,Γ (λz=>by cases z)]
 refine aI ⟨_,rfl,g.A.l,g.A.dx,_,rfl,lg.ld.ins,aT θ,_,rfl,g,rfl,lg,?_⟩
 rcases q with ⟨e,q⟩ | ⟨k0,j,x,n,ek,hx,hh,hw,q⟩
 ·refine .inl ⟨e,⟨_,rfl,_,rfl,aW ⟨_,rfl,g.A.l,CL,g.A.dx,_,_,rfl,lg.ld.ins,T.t.cl,T.sg,Ai,_,rfl,?_⟩⟩⟩
  rcases q with ⟨es,q⟩ | ⟨es,h1,sm,hc,q⟩
  ·rw [es]
   exact aI q
  ·rw [es]
   refine aW ⟨_,rfl,g.A.l,CL,g.A.dx,_,rfl,lg.ld.ins,T.t.cl,T.sg,lg.ld.few,?_⟩
   rw [yW]
   have lg2:Lg CL CS CH CW K (upd H g.A.l (.ins CL g.A.dx (lf g.A g.tn g.nm g.cl (exW (aD g.xs:Nat) g.ag true)))) {g with sg:=true}:=lg.set T g.tn g.nm g.cl true
   have k2:KpG g H (upd H g.A.l (.ins CL g.A.dx (lf g.A g.tn g.nm g.cl (exW (aD g.xs:Nat) g.ag true)))):=KpA.up (.head _)
   generalize (upd H g.A.l (HO.ins CL g.A.dx (lf g.A g.tn g.nm g.cl (exW (aD g.xs:Nat) g.ag true))))=H2 at lg2 k2 ⊢
   refine ⟨_,rfl,g.h.l,g.h.dx,_,rfl,lg2.sh.ins,ip θ,_,rfl,g.A.l,CL,g.A.dx,_,_,rfl,lg2.ld.ins,T.t.cl,T.t.na,uQ,χ,λr hr'=>?_⟩
   have s3:=aj (o:=.tup [.str "over",.ref g.A.na]) hr'
   have lg3:=lg2.keep s3
   have hr3:(upd H2 r (.tup [.str "over",.ref g.A.na])) r=some (.tup [.str "over",.ref g.A.na]):=ae
   refine ⟨g.S,g.h,g.d,g.rs,g.ws,g.v,r,g.p,rfl,lg3.sh,⟨_,_,hr3,⟨g.A.na,rfl,lg3.ld.nam⟩,rfl⟩,sm.mono ζ,hc,ω,λb v' H4 sh4 k4=>?_⟩
   exact q r b v' H4 (lg3.sent T sh4 k4) (lg3.sh.ts k4 _ _ hr3) ((k2.trans (KpA.of s3)).trans (KpA.sh k4))
 ·exact .inr ⟨k0,j,x,n,ek,hx,hh,hw,λt H2 lg2 ht k2=>⟨_,rfl,_,rfl,aI (aI (q t H2 lg2 ht k2))⟩⟩
theorem Ae(F:Fun K "go_from_end" "WalkedLead.go_from_end" bE f fd)(T:TxC K CW CL CH)(GB:GM P w K mg base CX0 6 CL "go_behind" ["self","sheet"] (oU CL CS CH CW K)):FnOk P w K mg base CX0 7 f fd ["self","sheet"] (oU CL CS CH CW K):=by
 refine F.ok dO (λvs H Q E h=>?_) (λcdv A outer s H vs Q E hr h=>?_)
 ·obtain ⟨g,rfl,_⟩:=h
  rfl
 obtain ⟨g,rfl,lg,en,q⟩:=h
 exact ⟨_,af (bf (pm GB (pv 0) T.t.cl hr (aa (pv 1) ad))),_,rfl,g.A.l,g.A.dx,_,rfl,lg.ld.ins,aT θ,_,rfl,g,rfl,lg,en,q⟩
theorem Ac(F:Fun K "go" "Lead.go" iQ f fd)(T:TxC K CW CL CH)(GB:GM P w K mg base CX0 6 CL "go_behind" ["self","sheet"] (oU CL CS CH CW K))(GO:GM P w K mg base CX0 3 CL "own_steps_done" ["self"] (sJ CL CS CH CW K))(GM':GM P w K mg base CX0 1 CL "naming" ["self","outcome"] (mZ CL CW))(GA:GM P w K mg base CX0 6 CL "go_ahead" ["self","sheet"] (sP CL CS CH CW K)):FnOk P w K mg base CX0 7 f fd ["self","sheet"] (sQ CL CS CH CW K):=by
 refine F.ok oY (λvs H Q E h=>?_) (λcdv A outer s H vs Q E hr h=>?_)
 ·obtain ⟨g,rfl,_⟩:=h
  rfl
 obtain ⟨g,rfl,lg,q⟩:=h
 refine ⟨_,ac (aE (bj (au (pv 0) rfl)) (ac (bf (pm GB (pv 0) T.t.cl hr (aa (pv 1) ad))) (af (aq aY))) av)
  (ac (aE (ak gs (au (pv 0) rfl) aY (ap _)) (af (aq aY)) av)
  (ac (aE (eU (bj (pm0 GO (pv 0) T.t.cl hr))) (af (aq (pm GM' (pv 0) T.t.cl hr (aa ay ad)))) av)
  (af (aq (pm GA (pv 0) T.t.cl hr (aa (pv 1) ad)))))),?_⟩
 refine ⟨_,rfl,g.A.l,CL,g.A.dx,_,_,rfl,lg.ld.ins,T.t.cl,T.t.cd,qw,_,rfl,?_⟩
 rcases q with ⟨ec,en,q⟩ | ⟨ec,en,q⟩
 ·rw [ec]
  refine aW ⟨_,rfl,g.A.l,g.A.dx,_,rfl,lg.ld.ins,aT θ,_,rfl,g,rfl,lg,en,?_⟩
  exact q
 ·rw [ec]
  refine aI ⟨_,rfl,g.A.l,CL,g.A.dx,_,_,rfl,lg.ld.ins,T.t.cl,T.t.nm,kU,rfl,_,rfl,?_⟩
  rw [en]
  refine aI ⟨_,rfl,g.A.l,g.A.dx,_,rfl,lg.ld.ins,aT θ,g,rfl,lg,λH1 lg1 k1=>⟨_,rfl,?_⟩⟩
  rcases q H1 lg1 k1 with ⟨e,q⟩ | ⟨e,q⟩
  ·rw [e]
   refine aW ⟨_,rfl,g.A.l,g.A.dx,_,rfl,lg1.ld.ins,aT θ,g.A,g.p,g.xs,g.hs,g.own.ys,g.tn,g.nm,g.cl,_,_,rfl,lg1.ld,?_⟩
   exact q _ (lg1.set T g.tn (.str "broken") g.cl g.sg) (KpA.up (.head _))
  ·rw [e]
   exact aI ⟨_,rfl,g.A.l,g.A.dx,_,rfl,lg1.ld.ins,aT θ,_,rfl,g.own,rfl,lg1,q⟩
theorem wt(F:Fun K "turn" "Lead.turn" f7 f fd)(T:TxC K CW CL CH)(cP:∃t,mg "PATIENCE"=some (.int 4 t))(GM':GM P w K mg base CX0 1 CL "naming" ["self","outcome"] (mZ CL CW))(GG:GM P w K mg base CX0 7 CL "go" ["self","sheet"] (sQ CL CS CH CW K)):FnOk P w K mg base CX0 8 f fd ["self","sheet"] (jo CL CS CH CW K):=by
 refine F.ok mf (λvs H Q E h=>?_) (λcdv A outer s H vs Q E hr h=>?_)
 ·obtain ⟨g,rfl,_⟩:=h
  rfl
 obtain ⟨g,rfl,lg,q⟩:=h
 obtain ⟨tP,cP⟩:=cP
 refine ⟨_,ac (aE (ak gX (au (pv 0) rfl) aY (ap _)) (ac (iL (pv 0) ai pM) (af (aE (ak aO (au (pv 0) rfl) (dt (v:=.int 4) rfl cP ⟨_,rfl⟩) (ap _)) (af (aq (pm GM' (pv 0) T.t.cl hr (aa ay ad)))) av))) av)
  (af (aq (pm GG (pv 0) T.t.cl hr (aa (pv 1) ad)))),?_⟩
 refine ⟨_,rfl,g.A.l,CL,g.A.dx,_,_,rfl,lg.ld.ins,T.t.cl,T.t.nm,kU,rfl,_,rfl,?_⟩
 rcases q with ⟨en,q⟩ | q
 ·rw [Γ en]
  exact aI ⟨_,rfl,g.A.l,g.A.dx,_,rfl,lg.ld.ins,aT θ,_,rfl,g,rfl,lg,q⟩
 ·have en:g.nm=.non:=by rcases q with ⟨e,_⟩ | ⟨e,_⟩<;>exact e
  rw [τ en]
  refine aW ⟨_,rfl,g.A.l,CL,g.A.dx,_,_,rfl,lg.ld.ins,T.t.cl,T.t.tn,xx,_,_,rfl,rfl,_,_,lg.ld.ins,lg.ld.few,?_⟩
  rw [yU]
  have lg1:=lg.set T (g.tn+1) g.nm g.cl g.sg
  have k1:KpG g H (upd H g.A.l (.ins CL g.A.dx (lf g.A (g.tn+1) g.nm g.cl (exW (aD g.xs:Nat) g.ag g.sg)))):=KpA.up (.head _)
  generalize (upd H g.A.l (HO.ins CL g.A.dx (lf g.A (g.tn+1) g.nm g.cl (exW (aD g.xs:Nat) g.ag g.sg))))=H1 at lg1 k1 ⊢
  refine ⟨_,rfl,g.A.l,CL,g.A.dx,_,_,rfl,lg1.ld.ins,T.t.cl,T.t.tn,xx,rfl,_,rfl,?_⟩
  rcases q with ⟨_,e4,q⟩ | ⟨_,e4,q⟩
  ·rw [Γ (λz=>e4 (V.int.inj z))]
   exact aI ⟨_,rfl,g.A.l,g.A.dx,_,rfl,lg1.ld.ins,aT θ,_,rfl,{g with tn:=g.tn+1},rfl,lg1,q H1 lg1 k1⟩
  ·rw [τ (congrArg V.int e4)]
   refine aW ⟨_,rfl,g.A.l,g.A.dx,_,rfl,lg1.ld.ins,aT θ,g.A,g.p,g.xs,g.hs,g.ys,g.tn+1,g.nm,g.cl,_,_,rfl,lg1.ld,?_⟩
   exact q _ (lg1.set T (g.tn+1) (.str "broken") g.cl g.sg) (k1.trans (KpA.up (.head _)))
theorem yL(F:Fun K "end" "Lead.end" gY f fd)(T:TxC K CW CL CH)(GF':GM P w K mg base CX0 7 CL "go_from_end" ["self","sheet"] (oU CL CS CH CW K)):FnOk P w K mg base CX0 8 f fd ["self","sheet","outcome"] (sR CL CS CH CW K):=by
 refine F.ok ny (λvs H Q E h=>?_) (λcdv A outer s H vs Q E hr h=>?_)
 ·obtain ⟨g,rfl,_⟩:=h
  rfl
 obtain ⟨g,rfl,lg,ec,q⟩:=h
 refine ⟨_,ac (aE (bj (au (pv 0) rfl)) (af wf) av)
  (ac (aL (pv 0) (pv 2) rfl) (ac (aL (pv 0) cH rfl) (af (bf (pm GF' (pv 0) T.t.cl hr (aa (pv 1) ad)))))),?_⟩
 refine ⟨_,rfl,g.A.l,CL,g.A.dx,_,_,rfl,lg.ld.ins,T.t.cl,T.t.cd,qw,_,rfl,?_⟩
 rw [ec]
 refine aI ⟨_,rfl,_,rfl,g.A.l,CL,g.A.dx,_,rfl,lg.ld.ins,T.t.cl,T.t.nm,lg.ld.few,?_⟩
 rw [uP]
 have lg1:=lg.set T g.tn (.str "broken") g.cl g.sg
 have k1:KpG g H (upd H g.A.l (.ins CL g.A.dx (lf g.A g.tn (.str "broken") g.cl (exW (aD g.xs:Nat) g.ag g.sg)))):=KpA.up (.head _)
 generalize (upd H g.A.l (HO.ins CL g.A.dx (lf g.A g.tn (.str "broken") g.cl (exW (aD g.xs:Nat) g.ag g.sg))))=H1 at lg1 k1 ⊢
 refine ⟨_,rfl,g.A.l,CL,g.A.dx,_,rfl,lg1.ld.ins,T.t.cl,T.t.cd,lg1.ld.few,?_⟩
 rw [yV]
 have lg2:=lg1.set T g.tn (.str "broken") true g.sg
 have k2:KpG g H1 (upd H1 g.A.l (.ins CL g.A.dx (lf g.A g.tn (.str "broken") true (exW (aD g.xs:Nat) g.ag g.sg)))):=KpA.up (.head _)
 generalize (upd H1 g.A.l (HO.ins CL g.A.dx (lf g.A g.tn (.str "broken") true (exW (aD g.xs:Nat) g.ag g.sg))))=H2 at lg2 k2 ⊢
 exact ⟨_,rfl,g.A.l,g.A.dx,_,rfl,lg2.ld.ins,aT θ,_,rfl,{g with nm:=.str "broken",cl:=true},rfl,lg2,rfl,q H2 lg2 (k1.trans k2)⟩
theorem yy(F:Fun K "is_walking" "WalkedLead.is_walking" bM f fd)(T:TxC K CW CL CH):FnOk P w K mg base CX0 1 f fd ["self"] (sC CL CS CH CW K):=by
 refine F.ok d7 (λvs H Q E h=>?_) (λcdv A outer s H vs Q E hr h=>?_)
 ·obtain ⟨g,rfl,_⟩:=h
  rfl
 obtain ⟨g,rfl,lg,q⟩:=h
 refine ⟨_,af (aq (xu (cv gX (au (pv 0) rfl) aY (ap _)) (fO (gU (au (pv 0) rfl) (fO (cv aO (au (pv 0) rfl) ay (ap _))))))),?_⟩
 refine ⟨_,rfl,g.A.l,CL,g.A.dx,_,_,rfl,lg.ld.ins,T.t.cl,T.t.nm,kU,rfl,_,rfl,?_⟩
 rcases q with ⟨en,q⟩ | ⟨ec,en,q⟩
 ·rw [τ en]
  exact aW q
 ·rw [Γ (λz=>by rw [en] at z;cases z)]
  refine aI ⟨_,rfl,g.A.l,CL,g.A.dx,_,_,rfl,lg.ld.ins,T.t.cl,T.t.cd,qw,_,rfl,?_⟩
  rw [ec]
  refine aW ⟨_,rfl,g.A.l,CL,g.A.dx,_,_,rfl,lg.ld.ins,T.t.cl,T.t.nm,kU,(by rw [en];rfl),?_⟩
  rw [en,Γ (λz=>by cases z)]
  exact q
theorem yA(F:Fun K "is_undoing" "WalkedLead.is_undoing" bO f fd)(B:TxB mg)(T:TxC K CW CL CH):FnOk P w K mg base CX0 1 f fd ["self"] (sE CL CS CH CW K):=by
 refine F.ok d8 (λvs H Q E h=>?_) (λcdv A outer s H vs Q E hr h=>?_)
 ·obtain ⟨g,rfl,_⟩:=h
  rfl
 obtain ⟨g,rfl,lg,ec,en,q⟩:=h
 refine ⟨_,af (aq (gU (au (pv 0) rfl) (gU (cv aO (au (pv 0) rfl) ay (ap _)) (fO (cv gG (aB aA rfl B.len PySem.boot_len (aa (au (pv 0) rfl) ad)) ai (ap _)))))),?_⟩
 refine ⟨_,rfl,g.A.l,CL,g.A.dx,_,_,rfl,lg.ld.ins,T.t.cl,T.t.cd,qw,_,rfl,?_⟩
 rw [ec]
 refine aW ⟨_,rfl,g.A.l,CL,g.A.dx,_,_,rfl,lg.ld.ins,T.t.cl,T.t.nm,kU,(by rw [en];rfl),_,rfl,?_⟩
 rw [en,τ rfl]
 refine aW ⟨_,rfl,g.A.l,CL,g.A.dx,_,_,rfl,lg.ld.ins,T.t.cl,T.un,n8,g.ag,_,rfl,.inl (SqL.of lg.agr),_,_,rfl,rfl,?_⟩
 have e:decide ((0:Int)<(((g.ks.map V.int).length:Nat):Int))=decide (0<g.ks.length):=by
  rw [List.length_map]
  exact decide_eq_decide.mpr ⟨λz=>by omega,λz=>by omega⟩
 show Q (.bl (decide ((0:Int)<(((g.ks.map V.int).length:Nat):Int)))) H
 rw [e]
 exact q
theorem wK(F:Fun K "came" "WalkedLead.came" cI f fd)(T:TxC K CW CL CH)(GK:GM P w K mg base CX0 1 CL "is_walking" ["self"] (sC CL CS CH CW K))(GU:GM P w K mg base CX0 1 CL "is_undoing" ["self"] (sE CL CS CH CW K))(GI:GM P w K mg base CX0 3 CL "is_answer" ["self","more"] (sN CL CW))(GG:GM P w K mg base CX0 7 CL "go" ["self","sheet"] (sQ CL CS CH CW K)) :
  FnOk P w K mg base CX0 8 f fd ["self","sheet","word","sender","more"] (lQ CL CS CH CW K):=by
 refine F.ok gL (λvs H Q E h=>?_) (λcdv A outer s H vs Q E hr h=>?_)
 ·obtain ⟨g,wd,sd,m,rfl,_⟩:=h
  rfl
 obtain ⟨g,wd,sd,m,rfl,lg,q⟩:=h
 refine ⟨_,ac (aE (PW.pt (bH (ak aO (pv 2) ay (ap _)) (bH (bj (pm0 GK (pv 0) T.t.cl hr)) (bF (bj (pm GI (pv 0) T.t.cl hr (aa (pv 4) ad)))))))
   (ac (bf (dj PySem.F.plainAttrs_list PySem.F.slot_list_append PySem.F.type_list_append cp (au (pv 0) rfl) (aa (aG (r:=cb K) aN (pv 4) ai (λ_ _=>rfl)) ad))) (af (aq (pm GG (pv 0) T.t.cl hr (aa (pv 1) ad))))) av)
  (ac (aE (PW.pt (bH (ak aO (pv 2) ay (ap _)) (bH (bj (pm0 GU (pv 0) T.t.cl hr)) (bF (ak aO (aG (r:=cb K) aN (pv 4) ai (λ_ _=>rfl)) (aG (r:=ce K) aJ (au (pv 0) rfl) (nG jz ai) (λ_ _=>rfl)) (ap _))))))
   (ac (bf (t6 PySem.F.plainAttrs_list PySem.F.slot_list_pop PySem.F.type_list_pop yR (au (pv 0) rfl))) (af (aq (pm GG (pv 0) T.t.cl hr (aa (pv 1) ad))))) av)
  (af (aq aY))),?_⟩
 have ld:=lg.ld
 have hy:(g.ys.map V.int).length=g.ys.length:=List.length_map _
 have l12:=ld.lx
 have le:=ld.le
 rcases q with ⟨rfl,i,n,hm,q⟩ | ⟨rfl,ec,en,i,hm,q⟩
 ·refine ⟨_,rfl,rfl,_,rfl,aW ?_⟩
  refine ⟨_,rfl,g.A.l,g.A.dx,_,rfl,ld.ins,aT θ,g,rfl,lg,?_⟩
  rcases q with ⟨en,e1,e2,q⟩ | ⟨ec,en,q⟩
  ·refine .inl ⟨en,_,rfl,aW ?_⟩
   refine ⟨_,rfl,g.A.l,g.A.dx,_,rfl,ld.ins,aT θ,_,rfl,g.A,g.p,g.xs,g.hs,g.ys,g.tn,g.nm,g.cl,_,m,i,_,rfl,ld,by kernel_rfl,hm,_,rfl,?_⟩
   rw [Γ e2,τ e1]
   refine aW ?_
   have hlt:g.ys.length<g.xs.length:=by
    by_cases z:g.ys.length=g.xs.length
    ·exact absurd (by unfold bL;rw [List.getElem?_eq_none ω]) e2
    ·omega
   refine ⟨_,rfl,g.A.l,CL,g.A.dx,_,_,rfl,ld.ins,T.t.cl,T.t.hd,gc,.inl ⟨rfl,_,SqL.of ld.han⟩,_,rfl,m,_,_,_,rfl,rfl,SqT.of hm,St.at1,g.A.hd,_,_,rfl,rfl,ld.han,bw (by rw [hy];omega),?_⟩
   have lg1:=lg.more n hlt
   have k1:KpG g H (upd H g.A.hd (.lst (g.ys.map V.int++[.int n]))):=KpA.up (.tail _ (.head _))
   generalize (upd H g.A.hd (HO.lst (g.ys.map V.int++[.int n])))=H1 at lg1 k1 ⊢
   exact ⟨_,rfl,g.A.l,g.A.dx,_,rfl,lg1.ld.ins,aT θ,_,rfl,{g with ys:=g.ys++[n]},rfl,lg1,q H1 lg1 k1⟩
  ·exact .inr ⟨ec,en,_,rfl,aI (aI ⟨_,rfl,rfl,_,rfl,aI (aI q)⟩)⟩
 ·refine ⟨_,rfl,rfl,_,rfl,aI (aI ⟨_,rfl,rfl,_,rfl,aW ?_⟩)⟩
  refine ⟨_,rfl,g.A.l,g.A.dx,_,rfl,ld.ins,aT θ,g,rfl,lg,ec,en,_,rfl,?_⟩
  by_cases e0:g.ks=[]
  ·have q':Q .non H:=by
    rcases q with ⟨k0,ek,_⟩ | ⟨_,q⟩
    ·rw [e0] at ek
     exact absurd (congrArg List.length ek) (by simp)
    ·exact q
   rw [e0]
   exact aI (aI q')
  ·obtain ⟨k0,j,ek⟩:∃k0 j,g.ks=k0++[j]:=by
    rcases List.eq_nil_or_concat g.ks with z | ⟨k0,j,z⟩
    ·exact absurd z e0
    ·exact ⟨k0,j,by rw [z,List.concat_eq_append]⟩
   have e1:decide (0<g.ks.length)=true:=τ (by rw [ek,List.length_append];show 0<k0.length+1;omega)
   rw [e1]
   refine aW ⟨_,rfl,m,_,_,_,rfl,rfl,SqT.of hm,St.at0,_,rfl,g.A.l,CL,g.A.dx,_,_,rfl,ld.ins,T.t.cl,T.un,n8,_,rfl,g.ag,_,_,.int j,rfl,rfl,SqL.of lg.agr,(by rw [ek,List.map_append];exact iz _ _),rfl,_,rfl,?_⟩
   by_cases ej:i=j
   ·subst ej
    rw [τ rfl]
    refine aW ⟨_,rfl,g.A.l,CL,g.A.dx,_,_,rfl,ld.ins,T.t.cl,T.un,n8,.inl ⟨rfl,_,SqL.of lg.agr⟩,g.ag,_,.int i,rfl,rfl,lg.agr,(by rw [ek,List.map_append,List.length_append];simp),?_⟩
    have ed:(g.ks.map V.int).dropLast=k0.map V.int:=by rw [ek,List.map_append];exact List.dropLast_concat
    rw [ed]
    have lg1:=lg.und k0
    have k1:KpG g H (upd H g.ag (.lst (k0.map V.int))):=KpA.up (.tail _ (.tail _ (.head _)))
    generalize (upd H g.ag (HO.lst (k0.map V.int)))=H1 at lg1 k1 ⊢
    refine ⟨_,rfl,g.A.l,g.A.dx,_,rfl,lg1.ld.ins,aT θ,_,rfl,{g with ks:=k0},rfl,lg1,?_⟩
    rcases q with ⟨k1',ek',q⟩ | ⟨ne,q⟩
    ·have:k1'=k0:=by
      rw [ek] at ek'
      exact (List.append_inj' ek' rfl).1.symm
     subst this
     exact q H1 lg1 k1
    ·exact absurd ek (ne k0)
   ·rw [Γ (λz=>ej (V.int.inj z))]
    refine aI ?_
    rcases q with ⟨k1',ek',q⟩ | ⟨ne,q⟩
    ·rw [ek] at ek'
     exact absurd (List.cons.inj (List.append_inj' ek' rfl).2).1.symm ej
    ·exact q
end
end K45
namespace L2
open PySem PySem.Spec PyProof.Rows PySem.W
end L2
namespace L2
open PySem PySem.Spec PyProof.Rows PySem.W Lo
end L2
namespace L2
open PySem PySem.Spec PyProof.Rows PySem.W Lo Tb
end L2
namespace L2
open PySem PySem.Spec PyProof.Rows
section
variable {X:Cx}
theorem nO(hu:X.A.units<cLine):OpR X (compareOp .Eq) (λx y H Q=>∃a b us,x=.ref a/\y=.ref b/\SqL X.K H a us/\SqL X.K H b []/\Q (.bl (decide (us=[]))) H):=by
 intro pins s σ H x y v u Q I rx ry h
 obtain ⟨a,b,us,rfl,rfl,ha,hb,q⟩:=h
 cases rx
 cases ry
 obtain ⟨i1,v1,p1,_⟩:=I.list ha
 obtain ⟨i2,v2,p2,_⟩:=I.list hb
 cases v2
 have l1:=v1.length
 by_cases e:us=[]
 ·subst e
  cases v1
  have z:=PySem.SeqAt.RcAt.lists (A:=X.A) (s:=s) (e:=λ_=>true) p1.isList p2.isList rfl hu (λj h1 h2=>by cases h1)
  rw [τ rfl] at q
  exact z X.prog X.w X.xe _ ⟨.bl true,H,I,rfl,q⟩
 ·have hsz:(i1.toArray.size != ([]:List Value).toArray.size)=true:=by
   have:i1.length≠0:=λz=>e (List.length_eq_zero_iff.mp (by rw [l1];exact z))
   simpa using this
  rw [Γ e] at q
  exact PySem.SeqAt.RcAt.lists_lengths p1.isList p2.isList hsz hu X.prog X.w X.xe _ ⟨.bl false,H,I,rfl,q⟩
end
end L2
namespace Lo
open PySem L2
end Lo
namespace L2
open PySem PySem.Spec PyProof.Rows Lo
end L2
namespace K45
open PySem L2 Lo St
section
variable {P:Program}{w:World}{K:Frag}{mg:Str->Option Value}{base:Heap}{f CL CS CP:Addr}{fd:FuncData}{C:Kd->Addr}{CW:Wd->Addr}
variable {CH:Addr}
def hsd(xs:List Stp)(k:Nat):Bool:=match xs[k]? with | some x=>!decide (aK x.1 x.2=V.non) | none=>false
def hV(xs:List Stp)(i:Nat):List Int:=((List.range i).filter (hsd xs)).map λ(k:Nat)=>(k:Int)
def gJ(xs:List Stp):List Int:=hV xs (aD xs)
theorem kM(xs:List Stp)(i:Nat):hV xs (i+1)=hV xs i++(if hsd xs i=true then [((i:Nat):Int)] else []):=by
 unfold hV
 rw [List.range_succ,List.filter_append,List.map_append]
 congr 1
 cases h:hsd xs i with
 | true=>rw [List.filter_cons,if_pos h];rfl
 | false=>rw [List.filter_cons,if_neg (by rw [h];decide)];rfl
theorem mQ{xs:List Stp}{i:Nat}{x:Stp}(ex:xs[i]?=some x)(e:aK x.1 x.2≠.non):hV xs (i+1)=hV xs i++[((i:Nat):Int)]:=by
 have:hsd xs i=true:=by unfold hsd;rw [ex];show (!decide (aK x.1 x.2=V.non))=true;rw [decide_eq_false e];rfl
 rw [kM,if_pos this]
theorem pX{xs:List Stp}{i:Nat}{x:Stp}(ex:xs[i]?=some x)(e:aK x.1 x.2=.non):hV xs (i+1)=hV xs i:=by
 have:hsd xs i=false:=by unfold hsd;rw [ex];show (!decide (aK x.1 x.2=V.non))=false;rw [decide_eq_true e];rfl
 rw [kM,if_neg (by rw [this];decide),List.append_nil]
theorem mR(xs:List Stp)(i:Nat):(hV xs i).length<=i:=by
 unfold hV
 rw [List.length_map]
 exact Λ (List.length_filter_le _ _) (Nat.le_of_eq List.length_range)
theorem sj{xs:List Stp}{i:Nat}{n:Int}(h:n∈hV xs i):∃j x,n=((j:Nat):Int)/\xs[j]?=some x/\aK x.1 x.2≠.non:=by
 obtain ⟨j,hj,rfl⟩:=List.mem_map.mp h
 have h2:=(List.mem_filter.mp hj).2
 cases ex:xs[j]? with
 | none=>unfold hsd at h2;rw [ex] at h2;cases h2
 | some x =>
  refine ⟨j,x,rfl,ex,λz=>?_⟩
  unfold hsd at h2
  rw [ex] at h2
  have h3:(!decide (aK x.1 x.2=V.non))=true:=h2
  rw [τ z] at h3
  cases h3
def p8(CL CP:Addr)(CW:Wd->Addr):Sp:=λvs H Q _=>∃l dx na v p b xs,vs=[.ref l,.ref na,v]/\H l=some (.ins CL dx [])/\H na=some (.tup [.int (p:Pa).1,.int p.2])/\PaO CP CW H (mS b) xs v/\ArS xs/\xs.length<=12 /\
 ∀A hs H',(A:Al).l=l->A.na=na->Ld CL CW H' A p xs hs [] 0 .non false []->zx xs hs->H A.hd=none->Kp l H H'->Q .non H'
theorem rB(F:Fun K "__init__" "Lead.__init__" f8 f fd)(T:TxA K CL)(TP:TxP K CP)(hC:∀wd,CW wd≠CL)(GH:GF P w K mg base CX0 2 "houses_of" ["pact"] (jD CP CW)):FnOk P w K mg base CX0 3 f fd ["self","name","pact"] (p8 CL CP CW):=by
 refine F.ok mh (λvs H Q E h=>?_) (λcdv A outer s H vs Q E hr h=>?_)
 ·obtain ⟨l,dx,na,v,p,b,xs,rfl,_⟩:=h
  rfl
 obtain ⟨l,dx,na,v,p,b,xs,rfl,hl,hna,⟨a,adx,sl,tp,us,rfl,pa⟩,ar,lx,q⟩:=h
 refine ⟨_,ac (aL (pv 0) (pv 1) rfl) (ac (aL (pv 0) (au (pv 2) rfl) rfl) (ac (aL (pv 0) (pc GH hr (aa (pv 2) ad)) rfl)
  (ac (aL (pv 0) (aQ ad) rfl) (ac (aL (pv 0) ai rfl) (ac (aL (pv 0) aY rfl) (af (aL (pv 0) cH rfl))))))),?_⟩
 have nal:a≠l:=λz=>by have e:=pa.ins;rw [z,hl] at e;cases e
 have ntl:tp≠l:=bp pa.tp hl (by intro z;cases z)
 have nnl:na≠l:=bp hna hl (by intro z;cases z)
 have kpP:∀{H':Hp},Kp l H H'->PaU CP CW H' (mS b) xs a adx sl tp us:=λk=>⟨k _ _ nal pa.ins,k _ _ (bp pa.sl hl (by intro z;cases z)) pa.sl,k _ _ ntl pa.tp,Paired.mapP pa.st λx u ⟨c,cdx,e,z⟩=>⟨c,cdx,e,k _ _ (λy=>by rw [y,hl] at z;exact hC _ (HO.ins.inj (Δ z)).1.symm) z⟩⟩
 refine ⟨_,rfl,_,rfl,l,CL,dx,_,rfl,hl,T.cl,T.na,(by show 0<1000;decide),?_⟩
 have k1:Kp l H (upd H l (.ins CL dx (ao "name" (.ref na) []))):=aX
 have h1:(upd H l (.ins CL dx (ao "name" (.ref na) []))) l=some (.ins CL dx [("name",.ref na)]):=ae
 generalize (upd H l (HO.ins CL dx (ao "name" (.ref na) [])))=H1 at k1 h1 ⊢
 refine ⟨_,rfl,a,CP,adx,_,_,rfl,(kpP k1).ins,TP.cl,TP.np,tR _ _ _,_,rfl,l,CL,dx,_,rfl,h1,T.cl,T.tp,(by show 1<1000;decide),?_⟩
 have k2:Kp l H1 (upd H1 l (.ins CL dx (ao "steps" (.ref tp) [("name",.ref na)]))):=aX
 have h2:(upd H1 l (.ins CL dx (ao "steps" (.ref tp) [("name",.ref na)]))) l=some (.ins CL dx [("name",.ref na),("steps",.ref tp)]):=by rw [ae];kernel_rfl
 generalize (upd H1 l (HO.ins CL dx (ao "steps" (.ref tp) [("name",.ref na)])))=H2 at k2 h2 ⊢
 have k02:=k1.trans k2
 refine ⟨_,rfl,_,b,xs,rfl,⟨a,adx,sl,tp,us,rfl,kpP k02⟩,ar,ω,λho hs H3 s3 hho his=>?_⟩
 have h3:=s3 _ _ h2
 have k03:=k02.trans (Kp.of s3)
 refine ⟨_,rfl,l,CL,dx,_,rfl,h3,T.cl,T.ho,(by show 2<1000;decide),?_⟩
 have k4:Kp l H3 (upd H3 l (.ins CL dx (ao "houses" (.ref ho) [("name",.ref na),("steps",.ref tp)]))):=aX
 have h4:(upd H3 l (.ins CL dx (ao "houses" (.ref ho) [("name",.ref na),("steps",.ref tp)]))) l=some (.ins CL dx [("name",.ref na),("steps",.ref tp),("houses",.ref ho)]):=by rw [ae];kernel_rfl
 have hho4:=k4 _ _ (bp hho h3 (by intro z;cases z)) hho
 generalize (upd H3 l (HO.ins CL dx (ao "houses" (.ref ho) [("name",.ref na),("steps",.ref tp)])))=H4 at k4 h4 hho4 ⊢
 have k04:=k03.trans k4
 refine ⟨χ,λhd n5=>?_⟩
 obtain ⟨b1,b2,b3,k5⟩:=cQ (o:=.lst []) (fs':=ao "hands" (.ref hd) [("name",.ref na),("steps",.ref tp),("houses",.ref ho)]) h4 n5
 refine ⟨_,rfl,l,CL,dx,_,rfl,b1,T.cl,T.hd,(by show 3<1000;decide),?_⟩
 have z5:hd≠l:=bp b3 b2 (by intro z;cases z)
 have hho5:=k5 _ _ (bp hho4 h4 (by intro z;cases z)) hho4
 generalize (upd (upd H4 hd _) l _)=H5 at b2 b3 k5 hho5 ⊢
 have k05:=k04.trans k5
 have h5:H5 l=some (.ins CL dx [("name",.ref na),("steps",.ref tp),("houses",.ref ho),("hands",.ref hd)]):=by rw [b2];kernel_rfl
 refine ⟨_,rfl,l,CL,dx,_,rfl,h5,T.cl,T.tn,(by show 4<1000;decide),?_⟩
 have k6:Kp l H5 (upd H5 l (.ins CL dx (ao "turns" (.int 0) [("name",.ref na),("steps",.ref tp),("houses",.ref ho),("hands",.ref hd)]))):=aX
 have h6:(upd H5 l (.ins CL dx (ao "turns" (.int 0) [("name",.ref na),("steps",.ref tp),("houses",.ref ho),("hands",.ref hd)]))) l=some (.ins CL dx [("name",.ref na),("steps",.ref tp),("houses",.ref ho),("hands",.ref hd),("turns",.int 0)]):=by rw [ae];kernel_rfl
 generalize (upd H5 l _)=H6 at k6 h6 ⊢
 refine ⟨_,rfl,l,CL,dx,_,rfl,h6,T.cl,T.nm,(by show 5<1000;decide),?_⟩
 have k7:Kp l H6 (upd H6 l (.ins CL dx (ao "named" .non [("name",.ref na),("steps",.ref tp),("houses",.ref ho),("hands",.ref hd),("turns",.int 0)]))):=aX
 have h7:(upd H6 l (.ins CL dx (ao "named" .non [("name",.ref na),("steps",.ref tp),("houses",.ref ho),("hands",.ref hd),("turns",.int 0)]))) l=some (.ins CL dx [("name",.ref na),("steps",.ref tp),("houses",.ref ho),("hands",.ref hd),("turns",.int 0),("named",.non)]):=by rw [ae];kernel_rfl
 generalize (upd H6 l _)=H7 at k7 h7 ⊢
 refine ⟨_,rfl,l,CL,dx,_,rfl,h7,T.cl,T.cd,(by show 6<1000;decide),?_⟩
 have k8:Kp l H7 (upd H7 l (.ins CL dx (ao "closed" (.bl false) [("name",.ref na),("steps",.ref tp),("houses",.ref ho),("hands",.ref hd),("turns",.int 0),("named",.non)]))):=aX
 have h8:(upd H7 l (.ins CL dx (ao "closed" (.bl false) [("name",.ref na),("steps",.ref tp),("houses",.ref ho),("hands",.ref hd),("turns",.int 0),("named",.non)]))) l=some (.ins CL dx (lf ⟨l,dx,na,tp,ho,hd⟩ 0 .non false [])):=by rw [ae];kernel_rfl
 generalize (upd H7 l _)=H8 at k8 h8 ⊢
 have k58:=k6.trans (k7.trans k8)
 have k08:=k05.trans k58
 have nhl:ho≠l:=bp hho5 h5 (by intro z;cases z)
 refine q ⟨l,dx,na,tp,ho,hd⟩ hs H8 rfl rfl ⟨h8,k08 _ _ nnl hna,⟨us,(kpP k08).tp,(kpP k08).st⟩,k58 _ _ nhl hho5,k58 _ _ z5 b3,ar,Nat.zero_le _,lx,Nat.zero_le _⟩ his ?_ k08
 cases e:H hd with
 | none=>rfl
 | some u =>
  rw [k04 _ _ z5 e] at n5
  cases n5
def mY(CL CP:Addr)(CW:Wd->Addr):Sp:=λvs H Q _=>∃l dx na v p b xs,vs=[.ref l,.ref na,v]/\H l=some (.ins CL dx [])/\H na=some (.tup [.int (p:Pa).1,.int p.2])/\PaO CP CW H (mS b) xs v/\ArS xs/\xs.length<=12 /\
 ∀A ag hs H',(A:Al).l=l->A.na=na->Ld CL CW H' A p xs hs [] 0 .non false (exW (aD xs:Nat) ag false)->H' ag=some (.lst ((gJ xs).map V.int))->zx xs hs->H A.hd=none->H ag=none->ag≠A.hd->Kp l H H'->Q .non H'
theorem gl(xs:List Stp):aD xs<=xs.length:=List.findIdx_le_length
theorem rk{CA fA:Addr}{dA:FuncData}(F:Fun K "__init__" "WalkedLead.__init__" bx f fd)(B:TxB mg)(T:TxC K CW CL CH)(TP:TxP K CP)(W:TxW K CW)(mgA:mg "Lead"=some (.ref CA))(cf:vy K CA "__init__" fA)(GA:FnOk P w K mg base CX0 3 fA dA ["self","name","pact"] (p8 CL CP CW))(bA:Binds K dA ["self","name","pact"] [])(GT:GF P w K mg base CX0 2 "turning" ["pact"] (oN CP CW))(GH:∀wd,GM P w K mg base CX0 1 (CW wd) "house" ["self"] (dQ CW wd)) :
  FnOk P w K mg base CX0 4 f fd ["self","name","pact"] (mY CL CP CW):=by
 refine F.ok gK (λvs H Q E h=>?_) (λcdv A outer s H vs Q E hr h=>?_)
 ·obtain ⟨l,dx,na,v,p,b,xs,rfl,_⟩:=h
  rfl
 obtain ⟨l,dx,na,v,p,b,xs,rfl,hl,hna,⟨a,adx,sl,tp,us,rfl,pa⟩,ar,lx,q⟩:=h
 refine ⟨_,ac (bf (qo (dt (v:=.ref CA) rfl mgA rfl) cf GA hr bA bJ (aa (pv 0) (aa (pv 1) (aa (pv 2) ad))))) (ac (aL (pv 0) (pc GT hr (aa (pv 2) ad)) rfl)
  (ac (aL (pv 0) (i4 fD rfl (cS rfl B.range (aa (au (pv 0) rfl) ad)) (λ_ _ _ _=>qj (ak gs (i5 λwd=>pm0 (GH wd) (aG (r:=cb K) aN (pfK K 1) (pv 0) (λ_ _=>rfl)) (W.cl wd) hr) aY (ap _))) (λ_ _ _ _=>pv 0)) rfl)
  (af (aL (pv 0) cH rfl)))),?_⟩
 have hz:(100000:Nat)<=sizeLine:=by decide
 have nal:a≠l:=λz=>by have e:=pa.ins;rw [z,hl] at e;cases e
 have kpP:∀{H':Hp},Kp l H H'->PaU CP CW H' (mS b) xs a adx sl tp us:=λk=>⟨k _ _ nal pa.ins,k _ _ (bp pa.sl hl (by intro z;cases z)) pa.sl,k _ _ (bp pa.tp hl (by intro z;cases z)) pa.tp,Paired.mapP pa.st λx u ⟨c,cdx,e,z⟩=>⟨c,cdx,e,k _ _ (λy=>by rw [y,hl] at z;exact T.n1 _ (HO.ins.inj (Δ z)).1.symm) z⟩⟩
 refine ⟨_,rfl,_,rfl,_,rfl,l,dx,na,_,p,b,xs,rfl,hl,hna,⟨a,adx,sl,tp,us,rfl,pa⟩,ar,lx,λA hs H1 eA eN ld his nhd k1=>?_⟩
 refine ⟨_,rfl,_,b,xs,rfl,⟨a,adx,sl,tp,us,rfl,kpP k1⟩,ω,?_⟩
 have hi:=ld.ins
 subst eA
 refine ⟨_,rfl,A.l,CL,A.dx,_,rfl,hi,T.t.cl,T.bd,(by show 7<1000;decide),?_⟩
 have ld2:Ld CL CW (upd H1 A.l (.ins CL A.dx (lf A 0 .non false [("bend",.int (aD xs:Nat))]))) A p xs hs [] 0 .non false [("bend",.int (aD xs:Nat))]:=ld.upd (by show 1<=9;decide) T.n1
 have k2:Kp A.l H1 (upd H1 A.l (.ins CL A.dx (lf A 0 .non false [("bend",.int (aD xs:Nat))]))):=aX
 have e2:ao "bend" (.int (aD xs:Nat)) (lf A 0 .non false [])=lf A 0 .non false [("bend",.int (aD xs:Nat))]:=by kernel_rfl
 rw [e2]
 generalize (upd H1 A.l (HO.ins CL A.dx (lf A 0 .non false [("bend",.int (aD xs:Nat))])))=H2 at ld2 k2 ⊢
 have k02:=k1.trans k2
 obtain ⟨us2,ht2,ps2⟩:=ld2.stp
 have tl:=gl xs
 have pl:xs.length=us2.length:=ps2.len
 refine ⟨_,rfl,A.l,CL,A.dx,_,_,rfl,ld2.ins,T.t.cl,T.bd,(by kernel_rfl:(lf A 0 .non false [("bend",.int (aD xs:Nat))]).lookup ("bend":Str)=some (.int (aD xs:Nat))),_,rfl,ω,ω,?_⟩
 rw [show ((aD xs:Nat):Int).toNat=aD xs from rfl]
 refine io (n:=aD xs) (λi ys H'=>H'=H2/\ys=(hV xs i).map V.int) ⟨rfl,rfl⟩ ω ?_ ?_
 ·rintro i ys H' hi' ⟨rfl,rfl⟩
  have hk:i<us2.length:=by omega
  obtain ⟨x,ex,sa,sdx,e3,hsa⟩:=ps2.get (ξ hk)
  have f1:=jb (m:="house") θ θ θ θ θ x.1 x.2
  refine ⟨x.1,_,rfl,A.l,CL,A.dx,_,_,rfl,ld2.ins,T.t.cl,T.t.tp,jW,_,rfl,A.tp,_,_,_,rfl,rfl,SqT.of ht2,aU (by rw [ξ hk,e3]),sa,sdx,_,rfl,hsa,f1,_,x.2,rfl,ar x (List.mem_of_getElem? ex),⟨sa,sdx,rfl,hsa⟩,rfl,_,rfl,?_⟩
  by_cases e:aK x.1 x.2=.non
  ·rw [τ e]
   exact aI ⟨rfl,by rw [pX ex e]⟩
  ·rw [Γ e]
   exact aW ⟨_,rfl,rfl,by rw [mQ ex e,List.map_append];rfl⟩
 rintro ks H' ⟨rfl,eks⟩ ag n3
 obtain ⟨b1,b2,b3,k3⟩:=cQ (o:=.lst ks) (fs':=ao "undoing" (.ref ag) (lf A 0 .non false [("bend",.int (aD xs:Nat))])) ld2.ins n3
 refine ⟨_,rfl,A.l,CL,A.dx,_,rfl,b1,T.t.cl,T.un,(by show 8<1000;decide),?_⟩
 have z3:ag≠A.l:=bp b3 b2 (by intro z;cases z)
 have zh:ag≠A.hd:=λz=>by rw [z,ld2.han] at n3;cases n3
 have e3:ao "undoing" (.ref ag) (lf A 0 .non false [("bend",.int (aD xs:Nat))])=lf A 0 .non false [("bend",.int (aD xs:Nat)),("undoing",.ref ag)]:=by kernel_rfl
 rw [e3] at b2 k3 ⊢
 have b3':(upd (upd H' ag (.lst ks)) A.l (.ins CL A.dx (lf A 0 .non false [("bend",.int (aD xs:Nat)),("undoing",.ref ag)]))) ag=some (.lst ks):=by rw [aw z3];exact ae
 generalize (upd (upd H' ag (HO.lst ks)) A.l _)=H3 at b2 b3' k3 ⊢
 have ne:∀{c:Addr} {o:HO},H' c=some o->(∀c d e,o≠.ins c d e)->c≠A.l:=λe n=>bp e ld2.ins (n _ _ _)
 have ld3:Ld CL CW H3 A p xs hs [] 0 .non false [("bend",.int (aD xs:Nat)),("undoing",.ref ag)]:=⟨b2,k3 _ _ (ne ld2.nam (λ_ _ _ z=>by cases z)) ld2.nam,⟨us2,k3 _ _ (ne ht2 (λ_ _ _ z=>by cases z)) ht2,Paired.mapP ps2 λx u ⟨c,cdx,e,z⟩=>⟨c,cdx,e,k3 _ _ (λy=>by rw [y,ld2.ins] at z;exact T.n1 _ (HO.ins.inj (Δ z)).1.symm) z⟩⟩,k3 _ _ (ne ld2.hou (λ_ _ _ z=>by cases z)) ld2.hou,k3 _ _ (ne ld2.han (λ_ _ _ z=>by cases z)) ld2.han,ar,Nat.zero_le _,lx,by show 2<=9;decide⟩
 refine ⟨_,rfl,A.l,CL,A.dx,_,rfl,b2,T.t.cl,T.sg,(by show 9<1000;decide),?_⟩
 have e4:ao "signed" (.bl false) (lf A 0 .non false [("bend",.int (aD xs:Nat)),("undoing",.ref ag)])=lf A 0 .non false (exW (aD xs:Nat) ag false):=by kernel_rfl
 rw [e4]
 have ld4:Ld CL CW (upd H3 A.l (.ins CL A.dx (lf A 0 .non false (exW (aD xs:Nat) ag false)))) A p xs hs [] 0 .non false (exW (aD xs:Nat) ag false):=ld3.upd (by show 3<=9;decide) T.n1
 have k4:Kp A.l H3 (upd H3 A.l (.ins CL A.dx (lf A 0 .non false (exW (aD xs:Nat) ag false)))):=aX
 subst eks
 refine q A ag hs _ rfl eN ld4 (k4 _ _ z3 b3') his nhd ?_ zh (k02.trans (k3.trans k4))
 cases e:H ag with
 | none=>rfl
 | some u=>rw [k02 _ _ z3 e] at n3;cases n3
theorem vv(a b:Str):(a++b).length=a.length+b.length:=by
 show (a.cps++b.cps).size=_
 rw [Array.size_append]
 rfl
theorem acs(a b:Str):(a++b).cps.toList=a.cps.toList++b.cps.toList:=by
 show (a.cps++b.cps).toList=_
 rw [Array.toList_append]
theorem hW{a b:Str}(h:a.cps.toList=b.cps.toList):a=b:=by
 obtain ⟨a⟩:=a
 obtain ⟨b⟩:=b
 have:a=b:=Array.toList_inj.mp h
 rw [this]
theorem sB:(Str.ofString " ").cps.toList=[32]:=by decide +kernel
theorem oG(wd:Wd)(ns:List Int):(txt wd ns).cps.toList=Km.cm 32 ((wS wd::ns.map iS).map λy=>y.cps.toList):=by
 unfold txt
 rw [fy]
 exact Km.ck 32 _
theorem zD(wd:Wd)(a b:Int):wS wd++Str.ofString " "++iS a++Str.ofString " "++iS b=txt wd [a,b]:=by
 refine hW ?_
 rw [oG]
 simp only [acs,sB,List.map_cons,List.map_nil,Km.cm]
 simp
theorem zC(wd:Wd)(a b c:Int):txt wd [a,b]++Str.ofString " "++iS c=txt wd [a,b,c]:=by
 refine hW ?_
 simp only [acs,oG,sB,List.map_cons,List.map_nil,Km.cm]
 simp
theorem zE(wd:Wd)(a:Int):wS wd++Str.ofString " "++iS a=txt wd [a]:=by
 refine hW ?_
 rw [oG]
 simp only [acs,sB,List.map_cons,List.map_nil,Km.cm]
 simp
theorem xL(i:Int)(h0:0<=i)(h5:i<5):∃w,w≠.plus/\w≠.need/\(i=2↔w=.sum)/\(i=4↔w=.add)/\atI ([.str "take",.str "mean",.str "sum",.str "give",.str "add"]:List V) i=some (.str (wS w)):=by
 have:i=0\/i=1\/i=2\/i=3\/i=4:=by omega
 rcases this with rfl | rfl | rfl | rfl | rfl
 ·exact ⟨.take,ζ,ζ,ζ,ζ,rfl⟩
 ·exact ⟨.mean,ζ,ζ,ζ,ζ,rfl⟩
 ·exact ⟨.sum,ζ,ζ,ζ,ζ,rfl⟩
 ·exact ⟨.give,ζ,ζ,ζ,ζ,rfl⟩
 ·exact ⟨.add,ζ,ζ,ζ,ζ,rfl⟩
def qc:Sp:=λvs H Q _=>∃c,vs=[.int c]/\∀r,inV r->Q (.int r) H
theorem yO(F:Fun K "_law_amount" "_law_amount" eB f fd):FnOk P w K mg base CX0 1 f fd ["_law_number"] qc:=by
 refine F.ok jH (λvs H Q E h=>?_) (λcdv A outer s H vs Q E hr h=>?_)
 ·obtain ⟨c,rfl,_⟩:=h
  rfl
 obtain ⟨c,rfl,q⟩:=h
 refine ⟨_,af (aq (aF jS (aF bK (pv 0) (aF jS (aF yw ai (aF jT ai ai)) ai)) (aF jS (aF jT ai ai) ai))),?_⟩
 refine ⟨_,rfl,_,_,rfl,rfl,⟨ζ,ζ,ζ⟩,_,_,rfl,rfl,.inl ⟨ζ,ζ⟩,_,_,rfl,rfl,_,_,rfl,rfl,(by show (0:Int)<2*10 ^ 40-1;decide +kernel),_,_,rfl,rfl,⟨ζ,ζ,ζ⟩,_,_,rfl,rfl,_,_,rfl,rfl,q _ ?_⟩
 show (c%(2*10 ^ 40-1)-(10 ^ 40-1):Int).natAbs<10 ^ 40
 have h0:0<=c%(2*10 ^ 40-1:Int):=Int.emod_nonneg _ θ
 have h1:c%(2*10 ^ 40-1:Int)<2*10 ^ 40-1:=Int.emod_lt_of_pos _ θ
 generalize c%(2*10 ^ 40-1:Int)=m at h0 h1 ⊢
 omega
theorem wJ(F:Fun K "_law_cell_at" "_law_cell_at" dy f fd)(B:TxB mg):FnOk P w K mg base CX0 1 f fd ["_law_script","_law_k"] (jE K):=by
 refine F.ok jd (λvs H Q E h=>?_) (λcdv A outer s H vs Q E hr h=>?_)
 ·obtain ⟨a,ns,k,rfl,_⟩:=h
  rfl
 obtain ⟨a,ns,k,rfl,hS,q⟩:=h
 refine ⟨_,ac (aE (ak gF (pv 1) (aB aA rfl B.len PySem.boot_len (aa (pv 0) ad)) (ap _)) (af (aq (aG aJ (pv 0) (pv 1) (λ_ _=>rfl)))) av)
  (af (aq ai)),?_⟩
 refine ⟨_,rfl,_,rfl,a,_,rfl,.inl hS,_,_,rfl,rfl,_,rfl,?_⟩
 refine bv (λc=>?_) (λc=>?_)
 ·have c':(k:Int)<(((ns.map V.int).length:Nat):Int):=Ξ c
  rw [List.length_map] at c'
  have hk:k<ns.length:=by omega
  have q1:atI (ns.map V.int) ((k:Nat):Int)=some (.int ns[k]):=aU (by rw [List.getElem?_map,ξ hk]<;>rfl)
  have e:bb ns k=ns[k]:=by unfold bb;rw [List.getElem?_eq_getElem hk];rfl
  rw [e] at q
  exact ⟨_,rfl,_,rfl,a,_,_,_,rfl,rfl,hS,q1,q⟩
 ·have c':¬(k:Int)<(((ns.map V.int).length:Nat):Int):=λz=>c (τ z)
  rw [List.length_map] at c'
  have e:bb ns k=0:=by unfold bb;rw [List.getElem?_eq_none ω];rfl
  rw [e] at q
  exact q
def AmO(x:Stp)(am:Int):Prop:=(x.1=.plus\/x.1=.need)->x.2=[am]
def StT(H:Hp)(x:Stp)(u:V):Prop:=∃t am,u=.ref t/\H t=some (.tup [.str (wS x.1),aK x.1 x.2,.str (sx x),.int am])/\Ar x.1 x.2/\AmO x am
theorem StT.keep{H H':Hp}{x:Stp}{u:V}(s:bh H H')(h:StT H x u):StT H' x u:=by
 obtain ⟨t,am,rfl,h1,h2⟩:=h
 exact ⟨t,am,rfl,s _ _ h1,h2⟩
def sL:Sp:=λvs H Q _=>∃c gv nn,vs=[.int c,.bl gv,.bl nn]/\∀u x H',Same H H'->StT H' x u->Q u H'
def uL1:TS:=λD σ H=>∃c gv nn home a r wy,σ=[some (.int c),some (.bl gv),some (.bl nn),some (.int home),some (.int a),some (.int r),some (.int wy),none,none]/\0<=home/\home<5/\0<=a/\a<8/\inV r/\0<=wy/\wy<7/\∀u x H',Same H H'->StT H' x u->D.rt u H'
def uL2:TS:=λD σ H=>∃y0 y1 y2 y3 y4 r y6 y7 y8,σ=[y0,y1,y2,y3,y4,some (.int r),y6,y7,y8]/\inV r/\∀u x H',Same H H'->StT H' x u->D.rt u H'
def uL3:TS:=λD σ H=>∃c gv nn home a r wy,σ=[some (.int c),some (.bl gv),some (.bl nn),some (.int home),some (.int a),some (.int r),some (.int wy),none,none]/\0<=home/\home<5/\0<=a/\a<8/\inV r/\0<=wy/\wy<7/\∀u x H',Same H H'->StT H' x u->D.rt u H'
theorem yG(F:Fun K "_law_step" "_law_step" fH f fd)(B:TxB mg)(GAm:GF P w K mg base CX0 1 "_law_amount" ["_law_number"] qc):FnOk P w K mg base CX0 2 f fd ["_law_number","_law_given","_law_none"] sL:=by
 refine F.ok sc__law_step (λvs H Q E h=>?_) (λcdv A outer s H vs Q E hr h=>?_)
 ·obtain ⟨c,gv,nn,rfl,_⟩:=h
  rfl
 obtain ⟨c,gv,nn,rfl,q⟩:=h
 have nd:=sc__law_step.nd
 have hz:(1000:Nat)<=sizeLine:=by decide
 refine ⟨_,ac (aC (i:=3) nd rfl (Or.inl rfl) (aF bK (aF b9 (pv 0) ai) ai))
  (ac (aC (i:=4) nd rfl (Or.inl rfl) (aF bK (aF b9 (pv 0) ai) ai))
  (ac (aC (i:=5) nd rfl (Or.inl rfl) (pc GAm hr (aa (aF b9 (pv 0) ai) ad)))
  (ac (aC (i:=6) nd rfl (Or.inl rfl) (aF bK (pv 0) ai))
  (ac (aE (PW.pt (bH (ak aO (pv 6) ai (ap _)) (bF (bj (pv 2))))) (af (aC (i:=6) nd rfl (Or.inl rfl) ai)) av)
  (br uL1 (ac (aE (PW.pt (bH (ak aO (pv 6) ai (ap _)) (bF (eU (bj (pv 1))))))
   (ac (aE (ak gG (aF bK (aF b9 (pv 0) ai) ai) ai (ap _)) (af (aC (i:=5) nd rfl (Or.inl rfl) (aF jS ai (aF jT ai ai)))) av)
   (br uL2 (af (aq (bi (aa ay (aa aY (aa (aF ba ay (aV bD rfl B.str PyProof.Rows.boot_str (aa (pv 5) ad))) (aa (pv 5) ad))))))) ?v2)) av)
  (br uL3 (ac (aE (ak gG (pv 6) ai (ap _)) (af (aq (bi (aa ay (aa aY (aa (aF ba ay (aV bD rfl B.str PyProof.Rows.boot_str (aa (pv 5) ad))) (aa (pv 5) ad))))))) av)
  (ac (aC (i:=7) nd rfl (Or.inl rfl) (aG (r:=ce K) aJ (aQ (aa ay (aa ay (aa ay (aa ay (aa ay ad)))))) (pv 6) (λ_ _=>rfl)))
  (ac (aC (i:=8) nd rfl (Or.inl rfl) (aF ba (aF ba (aF ba (aF ba (pv 7) ay) (aV bD rfl B.str PyProof.Rows.boot_str (aa (pv 3) ad))) ay) (aV bD rfl B.str PyProof.Rows.boot_str (aa (pv 4) ad))))
  (ac (aE (ak aO (pv 6) ai (ap _)) (af (aC (i:=8) nd rfl (Or.inl rfl) (aF ba (aF ba (pv 8) ay) (aV bD rfl B.str PyProof.Rows.boot_str (aa (aF cT (pv 4) (aF bK (aF b9 (pv 0) ai) (aF jS ai (pv 4)))) ad))))) av)
  (ac (aE (ak aO (pv 6) ai (ap _)) (af (aC (i:=8) nd rfl (Or.inl rfl) (aF ba (aF ba (pv 8) ay) (aV bD rfl B.str PyProof.Rows.boot_str (aa (pv 5) ad))))) av)
  (af (aq (bi (aa (pv 7) (aa (pv 3) (aa (pv 8) (aa (pv 5) ad)))))))))))) ?v3)) ?v1))))),?_⟩
 case v2 =>
  rintro D0 σ H ⟨y0,y1,y2,y3,y4,r,y6,y7,y8,rfl,nr,q⟩
  have l5:(Str.ofString "need ").length=5:=by decide +kernel
  have lr:=g6 nr
  have en:Str.ofString "need "=wS .need++Str.ofString " ":=by decide +kernel
  have need:Str.ofString "need "++iS r=txt .need [r]:=by rw [en];exact zE .need r
  refine ⟨_,rfl,r,rfl,jV nr,_,_,rfl,rfl,(by show (Str.ofString "need ").length+(iS r).length<=sizeLine;omega),_,rfl,χ,λt ht=>?_⟩
  refine q _ (.need,[r]) _ (aj ht) ⟨t,r,rfl,?_,nr,λ_=>rfl⟩
  rw [ae]
  show some (HO.tup [_,_,.str (Str.ofString "need "++iS r),_])=_
  rw [need]
  rfl
 case v1 =>
  rintro D0 σ H ⟨c,gv,nn,home,a,r,wy,rfl,o0,o5,a0,a8,nr,w0,w7,q⟩
  have nx:uL3 D0 [some (.int c),some (.bl gv),some (.bl nn),some (.int home),some (.int a),some (.int r),some (.int wy),none,none] H:=⟨c,gv,nn,home,a,r,wy,rfl,o0,o5,a0,a8,nr,w0,w7,q⟩
  refine ⟨_,rfl,rfl,_,rfl,bv (λk=>⟨_,rfl,gv,rfl,?_⟩) (λk=>aI nx)⟩
  cases gv with
  | true=>exact aI nx
  | false =>
   refine aW ⟨_,rfl,_,_,rfl,rfl,⟨ζ,ζ⟩,_,_,rfl,rfl,(by show (0:Int)<4;decide),_,_,rfl,rfl,_,rfl,bv (λ_=>?_) (λ_=>?_)⟩
   ·refine ⟨_,_,rfl,rfl,⟨ζ,ζ,ζ⟩,_,_,rfl,rfl,_,_,_,_,_,_,_,_,_,rfl,?_,q⟩
    show (1-10 ^ 40:Int).natAbs<10 ^ 40
    decide +kernel
   ·exact ⟨_,_,_,_,_,_,_,_,_,rfl,nr,q⟩
 case v3 =>
  rintro D0 σ H ⟨c,gv,nn,home,a,r,wy,rfl,o0,o5,a0,a8,nr,w0,w7,q⟩
  have nh:inN home:=⟨o0,ω⟩
  have na:inN a:=⟨a0,ω⟩
  refine ⟨_,rfl,_,_,rfl,rfl,_,rfl,bv (λk=>?_) (λk=>?_)⟩
  ·have l6:(Str.ofString "plus ").length=5:=by decide +kernel
   have lr:=g6 nr
   have ep:Str.ofString "plus "=wS .plus++Str.ofString " ":=by decide +kernel
   have plus:Str.ofString "plus "++iS r=txt .plus [r]:=by rw [ep];exact zE .plus r
   refine ⟨_,rfl,r,rfl,jV nr,_,_,rfl,rfl,(by show (Str.ofString "plus ").length+(iS r).length<=sizeLine;omega),_,rfl,χ,λt ht=>?_⟩
   refine q _ (.plus,[r]) _ (aj ht) ⟨t,r,rfl,?_,nr,λ_=>rfl⟩
   rw [ae]
   show some (HO.tup [_,_,.str (Str.ofString "plus "++iS r),_])=_
   rw [plus]
   rfl
  have w5:wy<5:=by
   have z:¬wy>4:=λz=>k (τ z)
   omega
  obtain ⟨wd,w1,w2,w3,w4,hw⟩:=xL wy w0 w5
  refine ⟨χ,λl hl=>?_⟩
  have s1:Same H _:=aj (o:=.lst [.str "take",.str "mean",.str "sum",.str "give",.str "add"]) hl
  refine ⟨_,rfl,l,_,_,_,rfl,rfl,SqL.of ae,hw,?_⟩
  generalize (upd H l _)=H1 at s1 ⊢
  have l1:=r8 wd
  have l2:=g6 nh.v
  have l3:=g6 na.v
  have ls:(Str.ofString " ").length=1:=by decide +kernel
  have lt:(txt wd [home,a]).length<=100:=by rw [← zD];simp only [vv];omega
  refine ⟨_,rfl,_,_,rfl,rfl,?_,_,rfl,home,rfl,jV nh.v,_,_,rfl,rfl,?_,_,_,rfl,rfl,?_,_,rfl,a,rfl,jV na.v,_,_,rfl,rfl,?_,?_⟩
  ·show (wS wd).length+(Str.ofString " ").length<=sizeLine
   omega
  ·show (wS wd++Str.ofString " ").length+(iS home).length<=sizeLine
   simp only [vv];omega
  ·show (wS wd++Str.ofString " "++iS home).length+(Str.ofString " ").length<=sizeLine
   simp only [vv];omega
  ·show (wS wd++Str.ofString " "++iS home++Str.ofString " ").length+(iS a).length<=sizeLine
   simp only [vv];omega
  have et:=zD wd home a
  have fin:∀(x:Int),inV x->(txt wd [home,a]++Str.ofString " ").length+(iS x).length<=sizeLine:=λx hx=>by
   have:=g6 hx
   simp only [vv]
   omega
  erw [et]
  have out:∀(ns:List Int) (t:Addr),H1 t=none->Ar wd ns->aK wd ns=.int home->StT (upd H1 t (.tup [.str (wS wd),.int home,.str (txt wd ns),.int r])) (wd,ns) (.ref t):=λns t ht ar hv=>⟨t,r,rfl,by rw [ae];show some (HO.tup [_,_,_,_])=some (HO.tup [_,_,_,_]);rw [hv];rfl,ar,λz=>z.elim (λy=>absurd y w1) λy=>absurd y w2⟩
  refine ⟨_,rfl,rfl,_,rfl,bv (λk2=>?_) (λk2=>?_)⟩
  ·have e7:wy=2:=V.int.inj (Ξ k2)
   obtain rfl:wd=.sum:=w3.mp e7
   have ma:(0:Int)<8-a:=by omega
   have b0:0<=c/280%(8-a):=Int.emod_nonneg _ ω
   have b1:c/280%(8-a)<8-a:=Int.emod_lt_of_pos _ ma
   obtain ⟨b,eb⟩:∃b,a+c/280%(8-a)=b:=⟨_,rfl⟩
   have nb:inN b:=⟨ω,ω⟩
   refine ⟨_,rfl,_,_,rfl,rfl,(by show (txt .sum [home,a]).length+(Str.ofString " ").length<=sizeLine;omega),_,rfl,_,rfl,_,_,rfl,rfl,⟨ζ,ζ⟩,_,rfl,_,_,rfl,rfl,_,_,rfl,rfl,ma,_,_,rfl,rfl,b,congrArg (λz=>[V.int z]) eb,jV nb.v,_,_,rfl,rfl,fin _ nb.v,?_⟩
   have e3:=zC .sum home a b
   erw [e3]
   have e8:decide (V.int wy=V.int 4)=false:=Γ λz=>by have:=V.int.inj z;omega
   refine ⟨_,rfl,rfl,_,rfl,?_⟩
   erw [e8]
   refine aI ⟨_,rfl,_,rfl,_,rfl,_,rfl,χ,λt ht=>?_⟩
   exact q _ (.sum,[home,a,b]) _ (s1.trans (aj ht)) (out [home,a,b] t ht ⟨nh,na,nb,ω⟩ rfl)
  ·have n2:wd≠.sum:=λz=>k2 (τ (congrArg V.int (w3.mpr z)))
   refine ⟨_,rfl,rfl,_,rfl,bv (λk4=>?_) (λk4=>?_)⟩
   ·have e7:wy=4:=V.int.inj (Ξ k4)
    obtain rfl:wd=.add:=w4.mp e7
    refine ⟨_,rfl,_,_,rfl,rfl,(by show (txt .add [home,a]).length+(Str.ofString " ").length<=sizeLine;omega),_,rfl,r,rfl,jV nr,_,_,rfl,rfl,fin _ nr,?_⟩
    have e3:=zC .add home a r
    erw [e3]
    refine ⟨_,rfl,_,rfl,_,rfl,_,rfl,χ,λt ht=>?_⟩
    exact q _ (.add,[home,a,r]) _ (s1.trans (aj ht)) (out [home,a,r] t ht ⟨nh,na,nr⟩ rfl)
   ·have n4:wd≠.add:=λz=>k4 (τ (congrArg V.int (w4.mpr z)))
    refine ⟨_,rfl,_,rfl,_,rfl,_,rfl,χ,λt ht=>?_⟩
    refine q _ (wd,[home,a]) _ (s1.trans (aj ht)) (out [home,a] t ht ?_ ?_)
    ·cases wd<;>first | contradiction | exact ⟨nh,na⟩
    ·cases wd<;>first | contradiction | rfl
 have o0:0<=c/7%5:=Int.emod_nonneg _ ζ
 have o5:c/7%5<5:=Int.emod_lt_of_pos _ ζ
 have a0:0<=c/35%8:=Int.emod_nonneg _ ζ
 have a1:c/35%8<8:=Int.emod_lt_of_pos _ ζ
 have w0:0<=c%7:=Int.emod_nonneg _ ζ
 have w7:c%7<7:=Int.emod_lt_of_pos _ ζ
 refine ⟨_,rfl,_,_,rfl,rfl,⟨ζ,ζ⟩,_,_,rfl,rfl,(by show (0:Int)<5;decide),_,rfl,_,_,rfl,rfl,⟨ζ,ζ⟩,_,_,rfl,rfl,(by show (0:Int)<8;decide),_,rfl,_,_,rfl,rfl,⟨ζ,ζ⟩,_,rfl,λr nr=>⟨_,rfl,_,_,rfl,rfl,(by show (0:Int)<7;decide),?_⟩⟩
 refine ⟨_,rfl,rfl,_,rfl,bv (λ_=>⟨_,rfl,nn,rfl,?_⟩) (λ_=>aI ⟨c,gv,nn,_,_,r,_,rfl,o0,o5,a0,a1,nr,w0,w7,q⟩)⟩
 cases nn with
 | true=>exact aW ⟨c,gv,true,_,_,r,4,rfl,o0,o5,a0,a1,nr,ζ,ζ,q⟩
 | false=>exact aI ⟨c,gv,false,_,_,r,_,rfl,o0,o5,a0,a1,nr,w0,w7,q⟩
def sF(K:Frag):Sp:=λvs H Q _=>∃a ns,vs=[.ref a]/\SqL K H a ((ns:List Int).map V.int)/\∀l xs us H',Same H H'->H l=none->H' l=some (.lst us)->Paired (StT H') xs us->1<=xs.length->xs.length<=12->Q (.ref l) H'
theorem yB(F:Fun K "_law_steps" "_law_steps" eP f fd)(B:TxB mg)(GA:GF P w K mg base CX0 1 "_law_cell_at" ["_law_script","_law_k"] (jE K))(GS:GF P w K mg base CX0 2 "_law_step" ["_law_number","_law_given","_law_none"] sL):FnOk P w K mg base CX0 3 f fd ["_law_script"] (sF K):=by
 refine F.ok sc__law_steps (λvs H Q E h=>?_) (λcdv A outer s H vs Q E hr h=>?_)
 ·obtain ⟨a,ns,rfl,_⟩:=h
  rfl
 obtain ⟨a,ns,rfl,hS,q⟩:=h
 have nd:=sc__law_steps.nd
 refine ⟨_,ac (aC (i:=1) nd rfl (Or.inl rfl) (aQ ad)) (ac (aC (i:=2) nd rfl (Or.inl rfl) cH)
  (ac (aC (i:=3) nd rfl (Or.inl rfl) (cv aO (aF bK (aF b9 (pc GA hr (aa (pv 0) (aa ai ad))) ai) ai) ai (ap _)))
  (ac (iK PassesOwn.never rfl (cS rfl B.range (aa (aF cT ai (aF bK (pc GA hr (aa (pv 0) (aa ai ad))) ai)) ad)) (cn (i:=4) nd rfl (Or.inl rfl))
   (ac (aC (i:=5) nd rfl (Or.inl rfl) (pc GS hr (aa (pc GA hr (aa (pv 0) (aa (aF cT ai (pv 4)) ad))) (aa (pv 2) (aa (pv 3) ad)))))
   (ac (aC (i:=2) nd rfl (Or.inl rfl) (xu (pv 2) (fO (cv aO (aG (r:=cb K) aN (pv 5) ai (λ_ _=>rfl)) ay (ap _)))))
   (af (bf (dj PySem.F.plainAttrs_list PySem.F.slot_list_append PySem.F.type_list_append cp (pv 1) (aa (pv 5) ad)))))))
  (af (aq (pv 1)))))),?_⟩
 have m0:0<=bb ns 1%12:=Int.emod_nonneg _ ζ
 have m1:bb ns 1%12<12:=Int.emod_lt_of_pos _ ζ
 have hz:(100000:Nat)<=sizeLine:=by decide
 refine ⟨χ,λl hl=>?_⟩
 have s1:=aj (o:=.lst []) hl
 have sc:Scr K (upd H l (.lst [])) a (ns.map V.int) [l]:=((Scr.mk (N:=[]) hS (λb hb=>by cases hb)).add hl).same s1
 have hl1:(upd H l (.lst [])) l=some (.lst []):=ae
 generalize (upd H l (HO.lst []))=H1 at s1 sc hl1 ⊢
 obtain ⟨m,em⟩:∃m:Nat,(1+bb ns 1%12:Int)=m:=⟨(1+bb ns 1%12).toNat,ω⟩
 refine ⟨_,rfl,a,ns,1,rfl,sc.seq,_,_,rfl,rfl,⟨ζ,ζ⟩,_,_,rfl,rfl,(by show (0:Int)<2;decide),rfl,?_⟩
 refine ⟨_,rfl,a,ns,1,rfl,sc.seq,_,_,rfl,rfl,(by show (0:Int)<12;decide),_,_,rfl,rfl,(m:Int),congrArg (λz=>[V.int z]) em,ω,ω,?_⟩
 rw [Int.toNat_natCast]
 have bk:∀b o,H b=some o->b≠l:=λb o e=>ah e hl
 obtain ⟨nn,enn⟩:∃nn,nn=decide (V.int (bb ns 1/12%2)=V.int 1):=⟨_,rfl⟩
 refine iY (n:=m) (λi σ H'=>∃y4 y5 gv xs us,σ=[some (.ref a),some (.ref l),some (.bl gv),some (.bl nn),y4,y5]/\Kp l H1 H'/\H' l=some (.lst us)/\Paired (StT H') xs us/\xs.length=i/\Scr K H' a (ns.map V.int) [l]) ⟨none,none,false,[],[],by rw [enn];rfl,λb o _ e=>e,hl1,.nil,rfl,sc⟩ ?_ ?_
 ·rintro i σ H2 hi ⟨y4,y5,gv,xs,us,rfl,k2,h2,px,lx,sc2⟩
  have ei:(0:Int)+(i:Nat)=((i:Nat):Int):=Int.zero_add _
  rw [ei]
  refine ⟨_,rfl,_,rfl,_,_,rfl,rfl,a,ns,2+i,rfl,sc2.seq,_,rfl,_,rfl,_,gv,nn,rfl,λu x H3 s3 st=>?_⟩
  have pl:=px.len
  obtain ⟨t,am,rfl,ht,_⟩:=id st
  refine ⟨_,rfl,gv,rfl,?_⟩
  have nx:∀gv',∃y4 y5 gv xs us',[some (V.ref a),some (V.ref l),some (V.bl gv'),some (V.bl nn),some (V.int (i:Nat)),some (V.ref t)]=[some (V.ref a),some (V.ref l),some (V.bl gv),some (V.bl nn),y4,y5]/\Kp l H1 (upd H3 l (.lst (us++[.ref t])))/\(upd H3 l (.lst (us++[.ref t]))) l=some (.lst us')/\Paired (StT (upd H3 l (.lst (us++[.ref t])))) xs us'/\xs.length=i+1/\Scr K (upd H3 l (.lst (us++[.ref t]))) a (ns.map V.int) [l]:=λgv'=>by
   have kk:Kp l H3 (upd H3 l (.lst (us++[.ref t]))):=aX
   have tt:bh H3 (upd H3 l (.lst (us++[.ref t]))):=λb zs e=>kk b _ (λz=>by rw [z,s3 _ _ h2] at e;cases e) e
   exact ⟨_,_,gv',xs++[x],us++[.ref t],rfl,(k2.trans (Kp.of s3)).trans kk,ae,(Paired.mapP px λ_ _ z=>(z.keep s3.ts).keep tt).app (.cons (st.keep tt) .nil),by rw [List.length_append,lx];rfl,(sc2.same s3).kp λb o n e=>kk b o (λz=>n (by rw [z];exact .head _)) e⟩
  cases gv with
  | true =>
   refine aW ⟨_,rfl,.inl ⟨rfl,_,SqL.of (s3 _ _ h2)⟩,_,rfl,l,_,_,rfl,rfl,s3 _ _ h2,bw ω,?_⟩
   exact nx true
  | false =>
   refine aI ⟨_,rfl,t,_,_,_,rfl,rfl,SqT.of ht,St.at0,rfl,?_⟩
   refine ⟨_,rfl,.inl ⟨rfl,_,SqL.of (s3 _ _ h2)⟩,_,rfl,l,_,_,rfl,rfl,s3 _ _ h2,bw ω,?_⟩
   exact nx _
 ·rintro σ H2 ⟨y4,y5,gv,xs,us,rfl,k2,h2,px,lx,sc2⟩
  exact ⟨_,rfl,q l xs us H2 (λb o e=>k2 b o (bk b o e) (s1 _ _ e)) hl h2 px ω ω⟩
variable {CH:Addr}
theorem lE{xs:List Stp}{x:Stp}(h:xs[aD xs]?=some x):x.1=.give:=by
 obtain ⟨hl,e⟩:=List.getElem?_eq_some_iff.mp h
 have z:=List.findIdx_getElem (w:=hl) (p:=λx:Stp=>decide (x.1=.give))
 have z2:decide (xs[aD xs].1=Wd.give)=true:=z
 rw [e] at z2
 exact Ξ z2
theorem pY{xs:List Stp}{i:Nat}{x:Stp}(hi:i<aD xs)(h:xs[i]?=some x):x.1≠.give:=λz=>by
 obtain ⟨hl,e⟩:=List.getElem?_eq_some_iff.mp h
 have y:=List.not_of_lt_findIdx (p:=λx:Stp=>decide (x.1=.give)) hi
 rw [e] at y
 exact absurd (decide_eq_true z) (by simpa using y)
def oS(K:Frag):Sp:=λvs H Q _=>∃hl ls,vs=[.ref hl]/\H hl=some (.lst ((ls:List Int).map V.int))/\∀H',Same H H'->Q (.int (aR ls)) H'
theorem wD(F:Fun K "_law_last" "_law_last" fJ f fd):FnOk P w K mg base CX0 1 f fd ["_law_hands"] (oS K):=by
 refine F.ok l7 (λvs H Q E h=>?_) (λcdv A outer s H vs Q E hr h=>?_)
 ·obtain ⟨hl,ls,rfl,_⟩:=h
  rfl
 obtain ⟨hl,ls,rfl,hh,q⟩:=h
 refine ⟨_,ac (aE (ak (nO (Nat.lt_of_succ_lt (oh hr))) (pv 0) (aQ ad) (ap _)) (af (aq ai)) av) (af (aq (aG (r:=ce K) aJ (pv 0) (nG jz ai) (λ_ _=>rfl)))),?_⟩
 refine ⟨_,rfl,χ,λe he=>?_⟩
 have s1:=aj (o:=.lst []) he
 refine ⟨hl,e,_,rfl,rfl,SqL.of (s1 _ _ hh),SqL.of ae,_,rfl,?_⟩
 rcases List.eq_nil_or_concat ls with rfl | ⟨zs,z,rfl⟩
 ·exact aW (q _ s1)
 ·rw [decide_eq_false (λy=>by have y':=List.map_eq_nil_iff.mp y;rw [List.concat_eq_append] at y';exact absurd y' (by simp))]
  refine aI ⟨_,rfl,_,rfl,hl,_,_,_,rfl,rfl,SqL.of (s1 _ _ hh),?_,q _ s1⟩
  have e2:aR (zs.concat z)=z:=by rw [List.concat_eq_append];exact uY zs z
  rw [e2,List.concat_eq_append,List.map_append]
  exact iz _ _
variable {CH:Addr}
def sH(K:Frag):Sp:=λvs H Q _=>∃sl hl xs us ls,vs=[.ref sl,.ref hl]/\H sl=some (.lst us)/\Paired (StT H) xs us/\H hl=some (.lst ((ls:List Int).map V.int))/\ls.length<=xs.length/\xs.length<=12/\sl≠hl/\∀H',Kp hl H H'->H' hl=some (.lst ((own xs ls).1.map V.int))->Q (.bl (own xs ls).2) H'
theorem zA{a b:Wd}(h:a≠b):decide (V.str (wS a)=V.str (wS b))=false:=Γ λz=>h (g9 (b:=b) (τ z))
theorem yC(F:Fun K "_law_plain" "_law_plain" eQ f fd)(B:TxB mg)(GL:GF P w K mg base CX0 1 "_law_last" ["_law_hands"] (oS K)):FnOk P w K mg base CX0 2 f fd ["_law_steps_here","_law_hands"] (sH K):=by
 refine F.ok sc__law_plain (λvs H Q E h=>?_) (λcdv A outer s H vs Q E hr h=>?_)
 ·obtain ⟨sl,hl,xs,us,ls,rfl,_⟩:=h
  rfl
 obtain ⟨sl,hl,xs,us,ls,rfl,hsl,px,hhl,le,l12,ne,q⟩:=h
 have nd:=sc__law_plain.nd
 refine ⟨_,ac (jO PassesOwn.never (PW.pt (bH (ak gF (aB aA rfl B.len PySem.boot_len (aa (pv 1) ad)) (aB aA rfl B.len PySem.boot_len (aa (pv 0) ad)) (ap _)) (bF (ak gX (aG (r:=cb K) aN (aG (r:=ce K) aJ (pv 0) (aB aA rfl B.len PySem.boot_len (aa (pv 1) ad)) (λ_ _=>rfl)) ai (λ_ _=>rfl)) aY (ap _)))))
   (ac (yl (aG (r:=ce K) aJ (pv 0) (aB aA rfl B.len PySem.boot_len (aa (pv 1) ad)) (λ_ _=>rfl)) (tQ (n:=4) rfl (eG (cn (i:=2) nd rfl (Or.inl rfl)) (eG (cn (i:=3) nd rfl (Or.inl rfl)) (eG (cn (i:=4) nd rfl (Or.inl rfl)) (eG (cn (i:=5) nd rfl (Or.inl rfl)) qm))))))
   (ac (aE (PW.pt (bH (ak aO (pv 2) ay (ap _)) (bF (ak gF (pc GL hr (aa (pv 1) ad)) (pv 5) (ap _))))) (af (aq cH)) av)
   (af (aE (ak aO (pv 2) ay (ap _))
    (af (bf (dj PySem.F.plainAttrs_list PySem.F.slot_list_append PySem.F.type_list_append cp (pv 1) (aa (aF cT (pc GL hr (aa (pv 1) ad)) (pv 5)) ad))))
    (af (bf (dj PySem.F.plainAttrs_list PySem.F.slot_list_append PySem.F.type_list_append cp (pv 1) (aa (pc GL hr (aa (pv 1) ad)) ad)))))))))
  (af (aq cH)),?_⟩
 have pl:xs.length=us.length:=px.len
 refine ⟨λm σ H'=>∃y2 y3 y4 y5 ys,σ=[some (.ref sl),some (.ref hl),y2,y3,y4,y5]/\Kp hl H H'/\H' hl=some (.lst ((ys:List Int).map V.int))/\own xs ys=own xs ls/\ys.length<=xs.length/\m=xs.length-ys.length,⟨_,none,none,none,none,ls,rfl,λb o _ e=>e,hhl,rfl,le,rfl⟩,?_⟩
 rintro m σ H1 ⟨y2,y3,y4,y5,ys,rfl,k1,h1,eo,ly,rfl⟩
 have hy:(ys.map V.int).length=ys.length:=List.length_map _
 have t1:bh H H1:=λb zs e=>k1 b _ (λz=>by rw [z,hhl] at e;cases e) e
 have hsl1:=k1 _ _ ne hsl
 refine ⟨_,rfl,hl,_,rfl,.inl (SqL.of h1),_,rfl,sl,_,rfl,.inl (SqL.of hsl1),_,_,rfl,rfl,_,rfl,?_⟩
 rw [hy]
 have to:∀{H2:Hp} {b:Bool},Same H1 H2->own xs ys=(ys,b)->Q (.bl b) H2:=λ{H2 b} s2 e=>by
  have e2:own xs ls=(ys,b):=eo.symm.trans e
  have z:=q H2 (k1.trans (Kp.of s2)) (by rw [e2];exact s2 _ _ h1)
  rw [e2] at z
  exact z
 have fin:bL xs ys≠.non\/xs.length<=ys.length->Q (.bl true) H1:=λz=>to (Same.refl _) (ii z)
 refine bv (λc=>?_) (λc=>aI (fin (.inr ?_)))
 ·have c':ys.length<xs.length:=by have z:=Ξ c;omega
  obtain ⟨x,ex⟩:∃x,xs[ys.length]?=some x:=⟨_,ξ c'⟩
  obtain ⟨u,eu,t,am,rfl,ht,arx,amx⟩:=px.get1 ex
  have ht1:=t1 _ _ ht
  refine ⟨_,rfl,_,rfl,hl,_,rfl,.inl (SqL.of h1),sl,_,_,_,rfl,rfl,SqL.of hsl1,aU (by rw [hy];exact eu),t,_,_,_,rfl,rfl,SqT.of ht1,St.at1,rfl,_,rfl,?_⟩
  by_cases en:aK x.1 x.2=.non
  ·rw [τ en]
   refine aW ⟨fun σ' H'=>∃y2 y3 y4 y5 ys',σ'=[some (.ref sl),some (.ref hl),y2,y3,y4,y5]/\Kp hl H H'/\H' hl=some (.lst ((ys':List Int).map V.int))/\own xs ys'=own xs ls/\ys'.length=ys.length+1,fun σ' H' ⟨y2,y3,y4,y5,ys',e1,e2,e3,e4,e5⟩=>⟨xs.length-ys'.length,ω,y2,y3,y4,y5,ys',e1,e2,e3,e4,ω,rfl⟩,?_⟩
   refine ⟨_,rfl,_,rfl,hl,_,rfl,.inl (SqL.of h1),sl,_,_,_,rfl,rfl,SqL.of hsl1,aU (by rw [hy];exact eu),t,_,rfl,SqT.of ht1,rfl,_,_,rfl,_,_,rfl,_,_,rfl,_,_,rfl,rfl,?_⟩
   have pn:x.1=.plus\/x.1=.need:=by
    by_cases w1:x.1=.plus
    ·exact .inl w1
    by_cases w2:x.1=.need
    ·exact .inr w2
    obtain ⟨i,r,_,e2⟩:=arx.home w1 w2
    rw [e2] at en
    cases en
   have ea:=amx pn
   obtain ⟨wd,ns⟩:=x
   cases (show ns=[am] from ea)
   rcases pn with pn | pn
   ·cases (show wd=.plus from pn)
    have f0:dz (.plus,[am]) (aR ys)=false:=rfl
    refine ⟨_,rfl,rfl,_,rfl,?_⟩
    have e1:decide (V.str (wS .plus)=V.str (Str.ofString "need"))=false:=zA (a:=.plus) (b:=.need) ζ
    erw [e1]
    refine aI (aI ⟨_,rfl,rfl,_,rfl,?_⟩)
    have e2:decide (V.str (wS .plus)=V.str (Str.ofString "plus"))=true:=τ rfl
    erw [e2]
    refine aW ⟨_,rfl,.inl ⟨rfl,_,SqL.of h1⟩,_,rfl,hl,ys,rfl,h1,λH2 s2=>?_⟩
    refine ⟨_,rfl,_,_,rfl,rfl,hl,_,_,rfl,rfl,s2 _ _ h1,bw (by rw [hy];omega),?_⟩
    exact ⟨_,_,_,_,ys++[aR ys+am],rfl,(k1.trans (Kp.of s2)).trans aX,by rw [ae,List.map_append];rfl,(fQ ex en f0).symm.trans eo,by rw [List.length_append];rfl⟩
   ·cases (show wd=.need from pn)
    refine ⟨_,rfl,rfl,_,rfl,?_⟩
    have e1:decide (V.str (wS .need)=V.str (Str.ofString "need"))=true:=τ rfl
    erw [e1]
    refine aW ⟨_,rfl,hl,ys,rfl,h1,λH2 s2=>⟨_,rfl,_,_,rfl,rfl,_,rfl,bv (λcf=>?_) (λcf=>?_)⟩⟩
    ·exact to s2 (qq ex en cf)
    ·have f0:dz (.need,[am]) (aR ys)=false:=by
      show decide (aR ys<am)=false
      cases e:decide (aR ys<am) with
      | false=>rfl
      | true=>exact absurd e cf
     refine ⟨_,rfl,rfl,_,rfl,?_⟩
     have e2:decide (V.str (wS .need)=V.str (Str.ofString "plus"))=false:=zA (a:=.need) (b:=.plus) ζ
     erw [e2]
     refine aI ⟨_,rfl,.inl ⟨rfl,_,SqL.of (s2 _ _ h1)⟩,_,rfl,hl,ys,rfl,s2 _ _ h1,λH3 s3=>?_⟩
     have s23:=s2.trans s3
     refine ⟨hl,_,_,rfl,rfl,s23 _ _ h1,bw (by rw [hy];omega),?_⟩
     exact ⟨_,_,_,_,ys++[aR ys],rfl,(k1.trans (Kp.of s23)).trans aX,by rw [ae,List.map_append];rfl,(fQ ex en f0).symm.trans eo,by rw [List.length_append];rfl⟩
  ·rw [Γ en]
   exact aI (fin (.inl (by unfold bL;rw [ex];exact en)))
 ·have z:¬((ys.length:Nat):Int)<((us.length:Nat):Int):=λz=>c (τ z)
  omega
def oV(K:Frag):Sp:=λvs H Q _=>∃sl xs us,vs=[.ref sl]/\H sl=some (.lst us)/\Paired (StT H) xs us/\xs.length<=12/\∀l H',Same H H'->H l=none->H' l=some (.lst ((gJ xs).reverse.map V.int))->Q (.ref l) H'
def uBk:TS:=λD σ H=>∃sl l y2 y3 xs,σ=[some (.ref sl),some (.ref l),y2,y3]/\H l=some (.lst ((gJ xs).map V.int))/\∀p,H p=none->D.rt (.ref p) (upd H p (.lst ((gJ xs).reverse.map V.int)))
theorem wL(F:Fun K "_law_back" "_law_back" fL f fd)(B:TxB mg)(hE:mg "enumerate"=none)(hR:mg "reversed"=none):FnOk P w K mg base CX0 1 f fd ["_law_steps_here"] (oV K):=by
 refine F.ok sc__law_back (λvs H Q E h=>?_) (λcdv A outer s H vs Q E hr h=>?_)
 ·obtain ⟨sl,xs,us,rfl,_⟩:=h
  rfl
 obtain ⟨sl,xs,us,rfl,hsl,px,l12,q⟩:=h
 have nd:=sc__law_back.nd
 refine ⟨_,ac (aC (i:=1) nd rfl (Or.inl rfl) (aQ ad))
  (ac (iK PassesOwn.never rfl (wj rfl hE (aa (pv 0) ad)) (tQ (n:=2) rfl (eG (cn (i:=2) nd rfl (Or.inl rfl)) (eG (cn (i:=3) nd rfl (Or.inl rfl)) qm)))
   (ac (aE (ak aO (aG (r:=cb K) aN (pv 3) ai (λ_ _=>rfl)) ay (ap _)) (af tN) av)
   (af (aE (ak gs (aG (r:=cb K) aN (pv 3) ai (λ_ _=>rfl)) aY (ap _)) (af (bf (dj PySem.F.plainAttrs_list PySem.F.slot_list_append PySem.F.type_list_append cp (pv 1) (aa (pv 2) ad)))) av))))
  (br uBk (af (aq (pi rfl rfl B.list rfl hR (aa (pv 1) ad)))) ?vB)),?_⟩
 case vB =>
  rintro D0 σ H ⟨sl,l,y2,y3,xs,rfl,hl,q⟩
  refine ⟨_,rfl,l,_,rfl,SqL.of hl,λp hp=>?_⟩
  rw [← List.map_reverse]
  exact q p hp
 have hz:(100000:Nat)<=sizeLine:=by decide
 have pl:xs.length=us.length:=px.len
 have tl:=gl xs
 refine ⟨χ,λl hl=>?_⟩
 have s1:=aj (o:=.lst []) hl
 have hl1:(upd H l (.lst [])) l=some (.lst []):=ae
 have nsl:sl≠l:=ah hsl hl
 have hsl1:=s1 _ _ hsl
 generalize (upd H l (HO.lst []))=H1 at s1 hl1 hsl1 ⊢
 have out:∀{H':Hp},Kp l H1 H'->∀{i:Nat},H' l=some (.lst ((hV xs i).map V.int))->i=aD xs->∀y2 y3 (D0:Ends),D0.rt=Q->uBk D0 [some (.ref sl),some (.ref l),y2,y3] H':=λ{H'} k {i} h e y2 y3 D0 eD=>by
  subst e
  refine ⟨sl,l,y2,y3,xs,rfl,h,λp hp=>?_⟩
  rw [eD]
  have np:H p=none:=by
   cases e:H p with
   | none=>rfl
   | some o=>rw [k _ _ (ah e hl) (s1 _ _ e)] at hp;cases hp
  exact q p _ (λb o e=>aj hp b o (k _ _ (ah e hl) (s1 _ _ e))) np ae
 refine ⟨_,rfl,sl,rfl,⟨_,SqL.of hsl1⟩,?_⟩
 refine vc (xs:=us) (λi σ H'=>∃y2 y3,σ=[some (.ref sl),some (.ref l),y2,y3]/\Kp l H1 H'/\H' l=some (.lst ((hV xs i).map V.int))/\i<=aD xs) ⟨none,none,rfl,λb o _ e=>e,hl1,Nat.zero_le _⟩ (λi σ H' _ z=>by obtain ⟨_,_,_,k,_⟩:=z;exact SqL.of (k _ _ nsl hsl1)) ?_ ?_
 ·rintro i u t σ H2 hu ⟨y2,y3,rfl,k2,h2,hi⟩ ht
  have s3:=aj (o:=.tup [.int (i:Nat),u]) ht
  have h3:(upd H2 t (.tup [.int (i:Nat),u])) t=some (.tup [.int (i:Nat),u]):=ae
  have hl3:=s3 _ _ h2
  have k3:=k2.trans (Kp.of s3)
  generalize (upd H2 t (HO.tup [.int (i:Nat),u]))=H3 at s3 h3 hl3 k3 ⊢
  obtain ⟨x,ex,tt,am,rfl,htt,arx,amx⟩:=px.get hu
  have htt3:=k3 _ _ (ah htt hl) (s1 _ _ htt)
  refine ⟨t,_,rfl,SqT.of h3,rfl,_,_,rfl,_,_,rfl,rfl,?_⟩
  refine ⟨_,rfl,tt,_,_,_,rfl,rfl,SqT.of htt3,St.at0,rfl,_,rfl,bv (λc=>?_) (λc=>?_)⟩
  ·have eg:x.1=.give:=g9 (b:=.give) c
   have ei:i=aD xs:=by
    by_cases lt:i<aD xs
    ·exact absurd eg (pY lt ex)
    ·omega
   exact out k3 hl3 ei _ _ _ rfl
  ·have ng:x.1≠.give:=λz=>c (by rw [z];exact τ rfl)
   have ei:i≠aD xs:=λz=>ng (lE (by rw [← z];exact ex))
   refine ⟨_,rfl,tt,_,_,_,rfl,rfl,SqT.of htt3,St.at1,rfl,_,rfl,?_⟩
   by_cases e:aK x.1 x.2=.non
   ·rw [τ e]
    exact aI ⟨_,_,rfl,k3,by rw [pX ex e];exact hl3,ω⟩
   ·rw [Γ e]
    have ul:=mR xs i
    refine aW ⟨_,rfl,.inl ⟨rfl,_,SqL.of hl3⟩,_,rfl,l,_,_,rfl,rfl,hl3,bw (by rw [List.length_map];omega),?_⟩
    exact ⟨_,_,rfl,k3.trans aX,by rw [ae,mQ ex e,List.map_append];rfl,ω⟩
 ·rintro σ H2 ⟨y2,y3,rfl,k2,h2,hi⟩
  exact out k2 h2 ω _ _ _ rfl
def KsOk(xs:List Stp)(ks:List Int):Prop:=∀i∈ks,∃j x n,i=((j:Nat):Int)/\xs[j]?=some x/\aK x.1 x.2=.int n
theorem vE{xs:List Stp}(ar:ArS xs):KsOk xs (gJ xs):=λi hi=>by
 obtain ⟨j,x,e,ex,hn⟩:=sj hi
 rcases iX (ar x (List.mem_of_getElem? ex)) with ⟨z,_⟩ | ⟨n,z⟩
 ·exact absurd z hn
 ·exact ⟨j,x,n,e,ex,z⟩
theorem KsOk.sub{xs:List Stp}{k0:List Int}{i:Int}(h:KsOk xs (k0++[i])):KsOk xs k0:=λn hn=>h n (List.mem_append_left _ hn)
theorem KsOk.last{xs:List Stp}{k0:List Int}{i:Int}(h:KsOk xs (k0++[i])):∃j x n,i=((j:Nat):Int)/\xs[j]?=some x/\aK x.1 x.2=.int n:=h i (Ψ _ (.head _))
theorem gf(ks:List Int):ks=[]\/∃k0 i,ks=k0++[i]:=by
 rcases List.eq_nil_or_concat ks with z | ⟨k0,i,z⟩
 ·exact .inl z
 ·exact .inr ⟨k0,i,by rw [z,List.concat_eq_append]⟩
theorem iT(k0:List Int)(i:Int):(k0++[i]).reverse.map V.int=.int i::k0.reverse.map V.int:=by rw [List.reverse_append];rfl
def A5(H:Hp)(na:Addr)(n:Int)(j:Nat)(x:Stp)(u:V):Prop:=∃t t2 m e,u=.ref t/\H t=some (.tup [.int n,.ref t2])/\H t2=some (.tup [.str "undo",.ref na,.ref m,.ref e])/\H m=some (.tup [.int (j:Nat),.str (sx x)])/\H e=some (.tup [])
def A6(H:Hp)(na:Addr)(xs:List Stp)(ks:List Int)(ds:List V):Prop:=(ks=[]/\ds=[])\/∃k0 j x n u,ks=k0++[((j:Nat):Int)]/\xs[j]?=some x/\aK x.1 x.2=.int n/\ds=[u]/\A5 H na n j x u
def sS(K:Frag):Sp:=λvs H Q _=>∃na sl bl xs us ks,vs=[.ref na,.ref sl,.ref bl]/\H sl=some (.lst us)/\Paired (StT H) xs us/\H bl=some (.lst ((ks:List Int).reverse.map V.int))/\KsOk xs ks/\∀l ds H',Same H H'->H l=none->H' l=some (.lst ds)->A6 H' na xs ks ds->Q (.ref l) H'
theorem yM(F:Fun K "_law_due" "_law_due" gR f fd):FnOk P w K mg base CX0 1 f fd ["_law_name","_law_steps_here","_law_back_here"] (sS K):=by
 refine F.ok sc__law_due (λvs H Q E h=>?_) (λcdv A outer s H vs Q E hr h=>?_)
 ·obtain ⟨na,sl,bl,xs,us,ks,rfl,_⟩:=h
  rfl
 obtain ⟨na,sl,bl,xs,us,ks,rfl,hsl,px,hbl,ok,q⟩:=h
 have nd:=sc__law_due.nd
 refine ⟨_,ac (aE (ak (nO (Nat.lt_of_succ_lt (oh hr))) (pv 2) (aQ ad) (ap _)) (af (aq (aQ ad))) av)
  (ac (aC (i:=3) nd rfl (Or.inl rfl) (aG (r:=ce K) aJ (pv 1) (aG (r:=ce K) aJ (pv 2) ai (λ_ _=>rfl)) (λ_ _=>rfl)))
  (af (aq (aQ (aa (bi (aa (aG (r:=cb K) aN (pv 3) ai (λ_ _=>rfl)) (aa (bi (aa ay (aa (pv 0) (aa (bi (aa (aG (r:=ce K) aJ (pv 2) ai (λ_ _=>rfl)) (aa (aG (r:=cb K) aN (pv 3) ai (λ_ _=>rfl)) ad))) (aa (bi ad) ad))))) ad))) ad))))),?_⟩
 refine ⟨_,rfl,χ,λe0 he0=>?_⟩
 have s1:=aj (o:=.lst []) he0
 refine ⟨bl,e0,_,rfl,rfl,SqL.of (s1 _ _ hbl),SqL.of ae,_,rfl,?_⟩
 have hbl1:=s1 _ _ hbl
 have hsl1:=s1 _ _ hsl
 have nn:∀{H':Hp} {l:Addr},Same H H'->H' l=none->H l=none:=λ{H' l} s e=>by
  cases eh:H l with
  | none=>rfl
  | some o=>rw [s _ _ eh] at e;cases e
 have t1:bh H (upd H e0 (.lst [])):=s1.ts
 generalize (upd H e0 (HO.lst []))=H1 at s1 hbl1 hsl1 t1 ⊢
 rcases gf ks with rfl | ⟨k0,i,rfl⟩
 ·exact aW ⟨χ,λl hl=>q l [] _ (s1.trans (aj hl)) (nn s1 hl) ae (.inl ⟨rfl,rfl⟩)⟩
 ·obtain ⟨j,x,n,rfl,ex,hv⟩:=ok.last
  rw [iT] at hbl1 ⊢
  rw [Γ (λz=>by cases z)]
  obtain ⟨u,eu,tt,am,rfl,htt,arx,amx⟩:=px.get1 ex
  rw [hv] at htt
  have htt1:=s1 _ _ htt
  refine aI ⟨_,rfl,_,rfl,bl,_,_,_,rfl,rfl,SqL.of hbl1,St.at0,sl,_,_,_,rfl,rfl,SqL.of hsl1,aU eu,?_⟩
  refine ⟨_,rfl,tt,_,_,_,rfl,rfl,SqT.of htt1,St.at1,_,rfl,_,rfl,bl,_,_,_,rfl,rfl,SqL.of hbl1,St.at0,_,rfl,tt,_,_,_,rfl,rfl,SqT.of htt1,St.at2,?_⟩
  refine ⟨χ,λm hm=>⟨χ,λe' he=>⟨χ,λt2 ht2=>⟨χ,λt' ht'=>⟨χ,λl hl'=>?_⟩⟩⟩⟩⟩
  have z1:=aj (o:=.tup [.int (j:Nat),.str (sx x)]) hm
  have z2:=aj (o:=.tup []) he
  have z3:=aj (o:=.tup [.str "undo",.ref na,.ref m,.ref e']) ht2
  have z4:=aj (o:=.tup [.int n,.ref t2]) ht'
  have z5:=aj (o:=.lst [.ref t']) hl'
  have z:=s1.trans (z1.trans (z2.trans (z3.trans z4)))
  exact q l [.ref t'] _ (z.trans z5) (nn z hl') ae (.inr ⟨k0,j,x,n,_,rfl,ex,hv,rfl,t',t2,m,e',rfl,z5 _ _ ae,z5 _ _ (z4 _ _ ae),z5 _ _ (z4 _ _ (z3 _ _ (z2 _ _ ae))),z5 _ _ (z4 _ _ (z3 _ _ ae))⟩)
def sM(CL CS CH:Addr)(CW:Wd->Addr)(K:Frag):Sp:=λvs H Q _=>∃g sl bl us n,vs=[.ref (g:Sg).A.l,.ref g.h.l,.ref sl,.ref bl,.int n]/\Lg CL CS CH CW K H g/\g.cl=true/\g.nm=.str "broken"/\H sl=some (.lst us)/\Paired (StT H) g.xs us/\H bl=some (.lst (g.ks.reverse.map V.int))/\KsOk g.xs g.ks /\
 ((n%4<2/\∃k0 i,g.ks=k0++[i]/\∀H',Lg CL CS CH CW K H' {g with ks:=k0}->KpG g H H'->GgQ CL CS CH CW K H' {g with ks:=k0} Q)\/(¬(n%4<2/\g.ks≠[])/\∀H',Same H H'->Q .non H'))
def uC1(CL CS CH:Addr)(CW:Wd->Addr)(K:Frag):TS:=λD σ H=>∃g sl bl n,σ=[some (.ref (g:Sg).A.l),some (.ref g.h.l),some (.ref sl),some (.ref bl),some (.int n),none]/\Lg CL CS CH CW K H g/\g.cl=true/\g.nm=.str "broken"/\H bl=some (.lst (g.ks.reverse.map V.int))/\∀H',Same H H'->D.rt .non H'
def uC2(CL CS CH:Addr)(CW:Wd->Addr)(K:Frag):TS:=λD σ H=>∃g sl bl n o,σ=[some (.ref (g:Sg).A.l),some (.ref g.h.l),some (.ref sl),some (.ref bl),some (.int n),some (.int o)]/\Lg CL CS CH CW K H g/\g.cl=true/\g.nm=.str "broken"/\(∀k0,g.ks≠k0++[o])/\∀H',Same H H'->D.rt .non H'
theorem yH(F:Fun K "_law_came" "_law_came" fK f fd)(T:TxC K CW CL CH)(GC:GM P w K mg base CX0 8 CL "came" ["self","sheet","word","sender","more"] (lQ CL CS CH CW K)):FnOk P w K mg base CX0 9 f fd ["_law_lead","_law_sheet","_law_steps_here","_law_back_here","_law_number"] (sM CL CS CH CW K):=by
 refine F.ok sc__law_came (λvs H Q E h=>?_) (λcdv A outer s H vs Q E hr h=>?_)
 ·obtain ⟨g,sl,bl,us,n,rfl,_⟩:=h
  rfl
 obtain ⟨g,sl,bl,us,n,rfl,lg,ec,en,hsl,px,hbl,ok,q⟩:=h
 have nd:=sc__law_came.nd
 refine ⟨_,ac (aE (PW.pt (bH (ak gF (aF bK (pv 4) ai) ai (ap _)) (bF (ak (fR (Nat.lt_of_succ_lt (oh hr))) (pv 3) (aQ ad) (ap _)))))
   (af (aq (pm GC (pv 0) T.t.cl hr (aa (pv 1) (aa ay (aa (aG (r:=cb K) aN (aG (r:=ce K) aJ (pv 2) (aG (r:=ce K) aJ (pv 3) ai (λ_ _=>rfl)) (λ_ _=>rfl)) ai (λ_ _=>rfl)) (aa (bi (aa (aG (r:=ce K) aJ (pv 3) ai (λ_ _=>rfl)) ad)) ad))))))) av)
  (br (uC1 CL CS CH CW K) (ac (aC (i:=5) nd rfl (Or.inl rfl) (aF bK (aF b9 (pv 4) ai) ai))
  (ac (aE (ak aO (aF bK (pv 4) ai) ai (ap _))
   (af (aq (pm GC (pv 0) T.t.cl hr (aa (pv 1) (aa ay (aa (aF bK (aF b9 (pv 4) ai) ai) (aa (bi (aa (pv 5) (aa (aF bK (aF b9 (pv 4) ai) (aF jT ai ai)) ad))) ad))))))) av)
  (ac (aE (PW.pt (bH (ak (fR (Nat.lt_of_succ_lt (oh hr))) (pv 3) (aQ ad) (ap _)) (bF (ak aO (pv 5) (aG (r:=ce K) aJ (pv 3) ai (λ_ _=>rfl)) (ap _)))))
   (af (aC (i:=5) nd rfl (Or.inl rfl) (aF cT (pv 5) ai))) av)
  (br (uC2 CL CS CH CW K) (af (aq (pm GC (pv 0) T.t.cl hr (aa (pv 1) (aa ay (aa (aF bK (aF b9 (pv 4) ai) ai) (aa (bi (aa (pv 5) ad)) ad))))))) ?vC)))) ?vB),?_⟩
 case vC =>
  rintro D0 σ H ⟨g,sl,bl,n,o,rfl,lg,ec,en,ne,q⟩
  refine ⟨_,rfl,g.A.l,g.A.dx,_,rfl,lg.ld.ins,aT θ,_,rfl,_,rfl,_,_,rfl,rfl,⟨ζ,ζ⟩,_,_,rfl,rfl,(by show (0:Int)<5;decide),_,rfl,χ,λmm hmm=>?_⟩
  have s1:=aj (o:=.tup [.int o]) hmm
  exact ⟨g,_,_,mm,rfl,lg.keep s1,.inr ⟨rfl,ec,en,o,ae,.inr ⟨ne,q _ s1⟩⟩⟩
 case vB =>
  rintro D0 σ H ⟨g,sl,bl,n,rfl,lg,ec,en,hbl,q⟩
  refine ⟨_,rfl,_,_,rfl,rfl,⟨ζ,ζ⟩,_,_,rfl,rfl,(by show (0:Int)<13;decide),?_⟩
  refine ⟨_,rfl,_,_,rfl,rfl,(by show (0:Int)<4;decide),rfl,_,rfl,bv (λ_=>?_) (λ_=>?_)⟩
  ·refine ⟨_,rfl,g.A.l,g.A.dx,_,rfl,lg.ld.ins,aT θ,_,rfl,_,rfl,_,_,rfl,rfl,⟨ζ,ζ⟩,_,_,rfl,rfl,(by show (0:Int)<5;decide),_,rfl,_,rfl,_,_,rfl,rfl,⟨ζ,ζ⟩,_,_,rfl,rfl,⟨ζ,ζ,ζ⟩,_,_,rfl,rfl,(by show (0:Int)<10 ^ 40;decide +kernel),χ,λmm hmm=>?_⟩
   have s1:=aj (o:=.tup [.int (n/4%13),.int (n/4%10 ^ 40)]) hmm
   exact ⟨g,_,_,mm,rfl,lg.keep s1,.inl ⟨rfl,_,_,ae,.inr ⟨ec,en,q _ s1⟩⟩⟩
  ·refine ⟨_,rfl,χ,λe0 he0=>?_⟩
   have s1:=aj (o:=.lst []) he0
   refine ⟨bl,e0,_,rfl,rfl,SqL.of (s1 _ _ hbl),SqL.of ae,_,rfl,?_⟩
   have hbl1:=s1 _ _ hbl
   have lg1:=lg.keep s1
   generalize (upd H e0 (HO.lst []))=H1 at s1 hbl1 lg1 ⊢
   rcases gf g.ks with e | ⟨k0,i,e⟩
   ·rw [e]
    refine aI (aI ⟨g,sl,bl,n,_,rfl,lg1,ec,en,λk0 z=>?_,λH' s'=>q _ (s1.trans s')⟩)
    rw [e] at z
    exact absurd (congrArg List.length z) (by simp)
   ·rw [e,iT] at hbl1
    rw [e,iT,Γ (λz=>by cases z)]
    refine aW ⟨_,rfl,_,rfl,bl,_,_,_,rfl,rfl,SqL.of hbl1,St.at0,rfl,_,rfl,?_⟩
    by_cases ei:n/4%13=i
    ·rw [τ (congrArg V.int ei)]
     refine aW ⟨_,rfl,_,_,rfl,rfl,g,sl,bl,n,_,rfl,lg1,ec,en,λk1 z=>?_,λH' s'=>q _ (s1.trans s')⟩
     rw [e] at z
     have:=(List.cons.inj (List.append_inj' z rfl).2).1
     omega
    ·rw [Γ (λz=>ei (V.int.inj z))]
     refine aI ⟨g,sl,bl,n,_,rfl,lg1,ec,en,λk1 z=>?_,λH' s'=>q _ (s1.trans s')⟩
     rw [e] at z
     exact ei (List.cons.inj (List.append_inj' z rfl).2).1.symm
 refine ⟨_,rfl,_,_,rfl,rfl,(by show (0:Int)<4;decide),_,_,rfl,rfl,_,rfl,bv (λc=>?_) (λc=>?_)⟩
 ·have c2:n%4<2:=Ξ c
  refine ⟨_,rfl,χ,λe0 he0=>?_⟩
  have s1:=aj (o:=.lst []) he0
  refine ⟨bl,e0,_,rfl,rfl,SqL.of (s1 _ _ hbl),SqL.of ae,_,rfl,?_⟩
  have hbl1:=s1 _ _ hbl
  have hsl1:=s1 _ _ hsl
  have lg1:=lg.keep s1
  have px1:=Paired.mapP px λ_ _ z=>StT.keep s1.ts z
  generalize (upd H e0 (HO.lst []))=H1 at s1 hbl1 hsl1 lg1 px1 ⊢
  rcases gf g.ks with e | ⟨k0,i,e⟩
  ·have q':∀H',Same H H'->Q .non H':=by
    rcases q with ⟨_,k1,i,z,_⟩ | ⟨_,q⟩
    ·rw [e] at z
     exact absurd (congrArg List.length z) (by simp)
    ·exact q
   have hbl0:=hbl1
   rw [e]
   exact aI ⟨g,sl,bl,n,rfl,lg1,ec,en,hbl0,λH' s'=>q' _ (s1.trans s')⟩
  ·obtain ⟨j,x,nn,rfl,ex,hv⟩:=(show KsOk g.xs (k0++[i]) by rw [← e];exact ok).last
   rw [e,iT] at hbl1
   rw [e,iT,Γ (λz=>by cases z)]
   obtain ⟨u,eu,tt,am,rfl,htt,arx,amx⟩:=px1.get1 ex
   refine aW ⟨_,rfl,g.A.l,g.A.dx,_,rfl,lg1.ld.ins,aT θ,_,rfl,_,rfl,_,rfl,bl,_,_,_,rfl,rfl,SqL.of hbl1,St.at0,sl,_,_,_,rfl,rfl,SqL.of hsl1,aU eu,tt,_,_,_,rfl,rfl,SqT.of htt,St.at1,_,rfl,bl,_,_,_,rfl,rfl,SqL.of hbl1,St.at0,χ,λmm hmm=>?_⟩
   have s2:=aj (o:=.tup [.int (j:Nat)]) hmm
   refine ⟨g,_,_,mm,rfl,lg1.keep s2,.inr ⟨rfl,ec,en,_,ae,.inl ⟨k0,e,λH2 lg2 k2=>?_⟩⟩⟩
   rcases q with ⟨_,k1,i',z,q⟩ | ⟨nq,_⟩
   ·have ek:k1=k0:=by
     rw [e] at z
     exact (List.append_inj' z rfl).1.symm
    subst ek
    exact q H2 lg2 (((KpA.of s1).trans (KpA.of s2)).trans k2)
   ·exact absurd ⟨c2,λz=>by rw [e] at z;exact absurd (congrArg List.length z) (by simp)⟩ nq
 ·have q':∀H',Same H H'->Q .non H':=by
   rcases q with ⟨c2,_⟩ | ⟨_,q⟩
   ·exact absurd (τ c2) c
   ·exact q
  exact aI ⟨g,sl,bl,n,rfl,lg,ec,en,hbl,q'⟩
variable {CH:Addr}
theorem qt{X:Cx}(n:Nat)(hu:X.A.units+n+1<cLine):OpR X (compareOp .NotEq) (λx y H Q=>∃a b us vs,x=.ref a/\y=.ref b/\SqL X.K H a us/\SqL X.K H b vs/\Paired (λx y=>EqIs X.K n H x y true) us vs/\Q (.bl false) H):=by
 intro pins s σ H x y v u Q I rx ry h
 obtain ⟨a,b,us,vs,rfl,rfl,ha,hb,hr,q⟩:=h
 cases rx
 cases ry
 obtain ⟨i1,v1,p1,_⟩:=I.list ha
 obtain ⟨i2,v2,p2,_⟩:=I.list hb
 have l1:=v1.length
 have l2:=v2.length
 have l3:=hr.len
 have z:=PySem.SeqAt.RcNeAt.lists (A:=X.A) (s:=s) (e:=λ_=>true) p1.isList p2.isList (by simp;omega) ω (λj h1 h2=>by
  have h1':j<i1.length:=by simpa using h1
  have h2':j<i2.length:=by simpa using h2
  have e1:us[j]?=some us[j]:=ξ ω
  obtain ⟨y,e2,ey⟩:=hr.get1 e1
  obtain ⟨u,eu,ru⟩:=v1.get e1
  obtain ⟨v,ev,rv⟩:=v2.get e2
  have q:=ey X.prog X.w X.A.in1 s u v (by show X.A.units+1+n<cLine;omega) I.hok I.kIn ru rv
  have z1:i1.toArray[j]=u:=by
   rw [ξ h1'] at eu
   simpa using Option.some.inj eu
  have z2:i2.toArray[j]=v:=by
   rw [ξ h2'] at ev
   simpa using Option.some.inj ev
  rw [z1,z2]
  exact q)
 have ez:(!(List.range i1.toArray.size).all λ_=>true)=false:=by simp
 rw [ez] at z
 exact z X.prog X.w X.xe _ ⟨.bl false,H,I,rfl,q⟩
theorem i8{α β:Type}{R:α->β->Prop}:∀(k:Nat) {xs:List α} {ys:List β},Paired R xs ys->Paired R (xs.drop k) (ys.drop k)
 | 0,_,_,h=>h
 | _+1,_,_,.nil=>.nil
 | k+1,_,_,.cons _ r=>i8 k r
theorem i7{α β γ:Type}{R:α->β->Prop}{S:α->γ->Prop}{T:β->γ->Prop}(f:∀x y z,R x y->S x z->T y z):∀{xs:List α} {ys:List β} {zs:List γ},Paired R xs ys->Paired S xs zs->Paired T ys zs
 | _,_,_,.nil,.nil=>.nil
 | _,_,_,.cons a r,.cons b t=>.cons (f _ _ _ a b) (i7 f r t)
theorem ot(xs:List V)(k:Nat)(h:k<=xs.length):g8 xs (some (k:Int)) none=xs.drop k:=by
 unfold g8
 rw [HT.vZ,HT.tq,Nat.min_eq_left h,← List.length_drop,List.take_length]
theorem uL{H:Hp}{nv:V}(h:NwAt K H [] nv):∃t,nv=.ref t/\H t=some (.tup []):=by
 obtain ⟨t,zs,rfl,h3,pz⟩:=h
 have e:xm ltE ([]:List (Pa×Str))=[]:=rfl
 rw [e] at pz
 cases pz
 exact ⟨t,rfl,h3⟩
theorem none_of{H H':Hp}{b:Addr}(s:Same H H')(n:H' b=none):H b=none:=by
 cases e:H b with
 | none=>rfl
 | some o=>rw [s _ _ e] at n;cases n
theorem ms{H:Hp}{x dx:Addr}{o1 o2:HO}(nx:H x=none)(nd:H dx=none):Same H (upd (upd H dx o1) x o2):=λb o e=>by rw [aw (ah e nx),aw (ah e nd)];exact e
theorem gu{H:Hp}{g:Sg}(lg:Lg CL CS CH CW K H g){l:Addr}(nl:H l=none):l∉cO g.A g.ag g.S g.h:=λhb=>by
 rcases List.mem_cons.mp hb with z | hb
 ·rw [z,lg.ld.ins] at nl;cases nl
 rcases List.mem_cons.mp hb with z | hb
 ·rw [z,lg.ld.han] at nl;cases nl
 rcases List.mem_cons.mp hb with z | hb
 ·rw [z,lg.agr] at nl;cases nl
 obtain ⟨o,e1,_⟩:=lg.sh.own hb
 rw [nl] at e1
 cases e1
theorem rP{x:Stp}(ar:Ar x.1 x.2)(h:x.1=.give):aK x.1 x.2≠.non:=by
 obtain ⟨i,r,_,e⟩:=ar.home (by rw [h];decide) (by rw [h];decide)
 rw [e]
 intro z
 cases z
theorem nV{xs:List Stp}{ys:List Int}(ar:ArS xs)(h:bL xs ys≠.non\/xs.length<=ys.length)(hl:ys.length<xs.length):∃x n,xs[ys.length]?=some x/\aK x.1 x.2=.int n:=by
 obtain ⟨x,ex⟩:∃x,xs[ys.length]?=some x:=⟨_,ξ hl⟩
 have z:=h.resolve_right ω
 unfold bL at z
 rw [ex] at z
 rcases iX (ar x (List.mem_of_getElem? ex)) with ⟨y,_⟩ | ⟨n,y⟩
 ·exact absurd y z
 ·exact ⟨x,n,ex,y⟩
theorem yu{g:Sg}(h:bL g.xs g.ys≠.non\/g.xs.length<=g.ys.length):g.own=g:=by
 have e:=ii h
 unfold Sg.own
 rw [e]
theorem LSh.kpb{H H':Hp}{A:Al}{ag:Addr}{S:Ad}{h:Ah}{p:Pa}{xs:List Stp}{hs ys:List Int}{tn:Int}{nm:V}{cl sg:Bool}{ks:List Int}{d:Sd}{rs:List Addr}{ws:List Ws}{v:V}(q:LSh CL CS CH CW K H A ag S h p xs hs ys tn nm cl sg ks d rs ws v){b:Addr}{zs:List V}(k:Kp b H H')(e:H b=some (.lst zs))(n:b∉cO A ag S h):LSh CL CS CH CW K H' A ag S h p xs hs ys tn nm cl sg ks d rs ws v:=by
 obtain ⟨us,h1,h2⟩:=q.ld.stp
 have ne:∀{c:Addr} {o:HO},H c=some o->(∀z,o≠.lst z)->c≠b:=λe' n'=>bp e' e (n' _)
 have n1:A.l≠b:=λz=>n (by rw [← z];exact .head _)
 have n2:A.hd≠b:=λz=>n (by rw [← z];exact .tail _ (.head _))
 have n3:ag≠b:=λz=>n (by rw [← z];exact .tail _ (.tail _ (.head _)))
 refine ⟨⟨k _ _ n1 q.ld.ins,k _ _ (ne q.ld.nam (λ_ z=>by cases z)) q.ld.nam,⟨us,k _ _ (ne h1 (λ_ z=>by cases z)) h1,ya k e (λ_ _ _ z=>by cases z) h2⟩,k _ _ (ne q.ld.hou (λ_ z=>by cases z)) q.ld.hou,k _ _ n2 q.ld.han,q.ld.ar,q.ld.le,q.ld.lx,q.ld.fx⟩,k _ _ n3 q.agr,vS q.sh k (λhb=>?_) e (λ_ z=>by cases z),q.m1,q.m2,q.m3,q.hl⟩
 rcases List.mem_cons.mp hb with z | z
 ·have e2:=q.sh.st.ins
  rw [← z,e] at e2
  cases e2
 ·exact n (.tail _ (.tail _ (.tail _ z)))
theorem Ax(ns:List Int):(g8 (ns.map V.int) (some 2) (some 46)).length<=44:=by
 unfold g8
 rw [List.length_take]
 show min (min 46 _-min 2 _) _<=44
 omega
def KpX(hl:Addr)(g:Sg)(H H':Hp):Prop:=∀b o,b∉hl::cO g.A g.ag g.S g.h->H b=some o->H' b=some o
theorem KpX.trans{hl:Addr}{g:Sg}{H H1 H2:Hp}(a:KpX hl g H H1)(b:KpX hl g H1 H2):KpX hl g H H2:=λc o n e=>b c o n (a c o n e)
theorem KpX.of{hl:Addr}{g:Sg}{H H1:Hp}(a:KpG g H H1):KpX hl g H H1:=λc o n e=>a c o (λz=>n (.tail _ z)) e
theorem KpX.same{hl:Addr}{g:Sg}{H H1:Hp}(a:Same H H1):KpX hl g H H1:=λc o _ e=>a c o e
theorem KpX.kp{hl:Addr}{g:Sg}{H H1:Hp}(a:Kp hl H H1):KpX hl g H H1:=λc o n e=>a c o (λz=>n (by rw [z];exact .head _)) e
theorem wp{X:Cx}(n:Nat)(hu:X.A.units+n+1<cLine):OpR X (compareOp .Eq) (λx y H Q=>∃a b us vs,x=.ref a/\y=.ref b/\SqL X.K H a us/\SqL X.K H b vs/\Paired (λx y=>EqIs X.K n H x y true) us vs/\Q (.bl true) H):=by
 intro pins s σ H x y v u Q I rx ry h
 obtain ⟨a,b,us,vs,rfl,rfl,ha,hb,hr,q⟩:=h
 cases rx
 cases ry
 obtain ⟨i1,v1,p1,_⟩:=I.list ha
 obtain ⟨i2,v2,p2,_⟩:=I.list hb
 have l1:=v1.length
 have l2:=v2.length
 have l3:=hr.len
 have z:=PySem.SeqAt.RcAt.lists (A:=X.A) (s:=s) (e:=λ_=>true) p1.isList p2.isList (by simp;omega) ω (λj h1 h2=>by
  have h1':j<i1.length:=by simpa using h1
  have h2':j<i2.length:=by simpa using h2
  have e1:us[j]?=some us[j]:=ξ ω
  obtain ⟨y,e2,ey⟩:=hr.get1 e1
  obtain ⟨u,eu,ru⟩:=v1.get e1
  obtain ⟨v,ev,rv⟩:=v2.get e2
  have q:=ey X.prog X.w X.A.in1 s u v (by show X.A.units+1+n<cLine;omega) I.hok I.kIn ru rv
  have z1:i1.toArray[j]=u:=by
   rw [ξ h1'] at eu
   simpa using Option.some.inj eu
  have z2:i2.toArray[j]=v:=by
   rw [ξ h2'] at ev
   simpa using Option.some.inj ev
  rw [z1,z2]
  exact q)
 have ez:((List.range i1.toArray.size).all λ_=>true)=true:=by simp
 rw [ez] at z
 exact z X.prog X.w X.xe _ ⟨.bl true,H,I,rfl,q⟩
theorem pP{K:Frag}{H:Hp}(n:Nat):EqIs K n H .non .non true:=λP w A s u v hA hok kin r1 r2=>by
 cases r1
 cases r2
 exact SeqAt.EqAt.same _
theorem t8{xs:List Stp}(ar:ArS xs){ys:List Int}(h:ys.length<=aD xs):(own xs ys).1.length<=aD xs:=nM xs (λys=>ys.length<=aD xs) (λys x hx hh _ r=>by
 rw [List.length_append]
 show ys.length+1<=_
 have:ys.length≠aD xs:=λz=>by
  rw [z] at hx
  exact rP (ar x (List.mem_of_getElem? hx)) (lE hx) hh
 omega) _ ys h
theorem KpA.x{hl:Addr}{g:Sg}{H H1 H2:Hp}(n:H hl=none)(a:KpG g H H1)(b:KpX hl g H1 H2):KpG g H H2:=λc o nc e=>b c o (λz=>(List.mem_cons.mp z).elim (λy=>by rw [y,n] at e;cases e) nc) (a c o nc e)
structure JB(CL CS CH:Addr)(CW:Wd->Addr)(K:Frag)(H:Hp)(a:Addr)(zs:List Int)(g:Sg)(hl sl:Addr)(us:List V)(ls:List Int):Prop where
 lg:Lg CL CS CH CW K H g
 scr:Scr K H a (zs.map V.int) (hl::cO g.A g.ag g.S g.h)
 hz:H sl=some (.lst us)
 nz:sl∉hl::cO g.A g.ag g.S g.h
 st:Paired (StT H) g.xs us
 hh:H hl=some (.lst (ls.map V.int))
 nh:hl∉cO g.A g.ag g.S g.h
 en:g.d.ends=[]
section
variable {H H':Hp}{a:Addr}{zs:List Int}{g:Sg}{hl sl:Addr}{us:List V}{ls:List Int}
theorem JB.ts(j:JB CL CS CH CW K H a zs g hl sl us ls)(k:KpX hl g H H'):bh H H':=λb xs e=>k b _ (λhb=>by
 rcases List.mem_cons.mp hb with z | hb
 ·rw [z,j.hh] at e;cases e
 rcases List.mem_cons.mp hb with z | hb
 ·rw [z,j.lg.ld.ins] at e;cases e
 rcases List.mem_cons.mp hb with z | hb
 ·rw [z,j.lg.ld.han] at e;cases e
 rcases List.mem_cons.mp hb with z | hb
 ·rw [z,j.lg.agr] at e;cases e
 obtain ⟨o,e1,n⟩:=j.lg.sh.own hb
 rw [e] at e1
 exact n xs (Δ e1).symm) e
theorem JB.to(j:JB CL CS CH CW K H a zs g hl sl us ls)(k:KpX hl g H H'){ys:List Int}{tn:Int}{nm:V}{ws:List Ws}{ls':List Int}(lg:Lg CL CS CH CW K H' {g with ys:=ys,tn:=tn,nm:=nm,ws:=ws})(hh:H' hl=some (.lst (ls'.map V.int))) :
  JB CL CS CH CW K H' a zs {g with ys:=ys,tn:=tn,nm:=nm,ws:=ws} hl sl us ls' :=
 ⟨lg,j.scr.kp k,k _ _ j.nz j.hz,j.nz,Paired.mapP j.st λ_ _ z=>z.keep (j.ts k),hh,j.nh,j.en⟩
theorem JB.keep(j:JB CL CS CH CW K H a zs g hl sl us ls)(s:Same H H'):JB CL CS CH CW K H' a zs g hl sl us ls:=j.to (KpX.same s) (j.lg.keep s) (s _ _ j.hh)
theorem JB.ne(j:JB CL CS CH CW K H a zs g hl sl us ls):sl≠hl:=λz=>j.nz (by rw [z];exact .head _)
end
def Hw(xs:List Stp)(ls ys:List Int)(f nm:V)(ws:List Ws)(i:Nat):Prop:=ys=(own xs ls).1/\ls.length<=aD xs /\
 (((own xs ls).2=false/\f=.str "broken"/\nm=.str "broken"/\ws.length=i)\/((own xs ls).2=true/\ys.length=aD xs)\/((own xs ls).2=true/\f=.non/\nm=.non/\ys.length<aD xs/\ws.length=i+1))
theorem Ap{H:Hp}{a:Addr}{zs:List Int}{g:Sg}{hl sl:Addr}{us:List V}{ls0 ls:List Int}{Q:V->Hp->Prop}{H0:Hp}(j:JB CL CS CH CW K H0 a zs g hl sl us ls0)(k0:KpX hl g H0 H)(hh:H hl=some (.lst (ls0.map V.int)))(ec:g.cl=false)(en:g.nm=.non)(hw:g.ws.length<=800)(le:ls.length<=aD g.xs)
  (q:∀f ys nm ws H',JB CL CS CH CW K H' a zs {g with ys:=ys,nm:=nm,ws:=ws} hl sl us ls0->Hw g.xs ls ys f nm ws g.ws.length->KpX hl g H0 H'->Q f H'):GgQ CL CS CH CW K H {g with ys:=ls} Q:=by
 have ar:=j.lg.ld.ar
 refine .inr ⟨ec,en,λH1 lg1 k1=>?_⟩
 have kk1:KpX hl g H0 H1:=k0.trans (KpX.of k1)
 have hh1:=k1 _ _ j.nh hh
 have tY:=t8 ar le
 have tl:=gl g.xs
 cases e:(own g.xs ls).2 with
 | false =>
  refine .inl ⟨rfl,λH2 lg2 k2=>?_⟩
  exact q (.str "broken") (own g.xs ls).1 (.str "broken") g.ws H2 (j.to (kk1.trans (KpX.of k2)) lg2 (k2 _ _ j.nh hh1)) ⟨rfl,le,.inl ⟨e,rfl,rfl,rfl⟩⟩ (kk1.trans (KpX.of k2))
 | true =>
  refine .inr ⟨rfl,?_⟩
  have eY:=qp e
  by_cases el:(own g.xs ls).1.length=aD g.xs
  ·refine .inl ⟨el,λH2 lg2 k2=>?_⟩
   exact q (.str "done") (own g.xs ls).1 (.str "done") g.ws H2 (j.to (kk1.trans (KpX.of k2)) lg2 (k2 _ _ j.nh hh1)) ⟨rfl,le,.inr (.inl ⟨e,el⟩)⟩ (kk1.trans (KpX.of k2))
  ·obtain ⟨x,nn,ex,hv⟩:=nV ar eY ω
   refine .inr ⟨el,x,nn,ex,hv,by show g.ws.length<=900;omega,λt' H2 lg2 ht2 k2=>?_⟩
   refine q .non (own g.xs ls).1 g.nm (g.ws++[(nn,("walk":Str),g.A.na,t')]) H2 (j.to (kk1.trans (KpX.of k2)) lg2 (k2 _ _ j.nh hh1)) ⟨rfl,le,.inr (.inr ⟨e,rfl,en,ω,?_⟩)⟩ (kk1.trans (KpX.of k2))
   rw [List.length_append]
   rfl
section
variable (CL CS CH:Addr)(CW:Wd->Addr)(K:Frag)
def sD:Sp:=λvs H Q _=>∃g sl us m a zs,vs=[.ref (g:Sg).A.l,.ref g.h.l,.ref sl,.int ((m:Nat):Int),.ref a]/\Lg CL CS CH CW K H g/\Scr K H a ((zs:List Int).map V.int) (cO g.A g.ag g.S g.h)/\H sl=some (.lst us)/\sl∉cO g.A g.ag g.S g.h/\Paired (StT H) g.xs us/\g.d.ends=[]/\g.ys=[]/\g.tn=0/\g.nm=.non/\g.cl=false/\g.ws=[]/\m<=12 /\
 (∀H',Q (.str "done") H')/\∀ys tn ws H',Lg CL CS CH CW K H' {g with ys:=ys,tn:=tn,nm:=.str "broken",ws:=ws}->ws.length<=20->KpG g H H'->Q (.str "broken") H'
def uW:TS:=λD σ H=>∃g hl sl us m a zs ls ws y7 y8 y9,σ=[some (.ref (g:Sg).A.l),some (.ref g.h.l),some (.ref sl),some (.int ((m:Nat):Int)),some (.ref a),some (.ref hl),some .non,y7,y8,y9,none]/\JB CL CS CH CW K H a zs {g with ws:=ws} hl sl us ls/\(bL g.xs g.ys≠.non\/g.xs.length<=g.ys.length)/\g.ys.length<aD g.xs/\g.tn=0/\g.nm=.non/\g.cl=false/\ws.length=m+1/\m<=12 /\
 ∀tn ws H',Lg CL CS CH CW K H' {g with tn:=tn,nm:=.str "broken",ws:=ws}->ws.length<=20->KpX hl g H H'->D.rt (.str "broken") H'
end
def fates:List V:=[.non,.non,.non,.str "broken"]
theorem yz(F:Fun K "_law_way" "_law_way" dw f fd)(B:TxB mg)(T:TxC K CW CL CH)(DH:TxH K CH)(GA:GF P w K mg base CX0 1 "_law_cell_at" ["_law_script","_law_k"] (jE K))(GAm:GF P w K mg base CX0 1 "_law_amount" ["_law_number"] qc)(GPl:GF P w K mg base CX0 2 "_law_plain" ["_law_steps_here","_law_hands"] (sH K))
  (GLT:GM P w K mg base CX0 2 CH "letters_told" ["self"] (jr CS CH K))(GG:GM P w K mg base CX0 7 CL "go" ["self","sheet"] (sQ CL CS CH CW K))(GT:GM P w K mg base CX0 8 CL "turn" ["self","sheet"] (jo CL CS CH CW K))(GC:GM P w K mg base CX0 8 CL "came" ["self","sheet","word","sender","more"] (lQ CL CS CH CW K)) :
  FnOk P w K mg base CX0 9 f fd ["_law_lead","_law_sheet","_law_steps_here","_law_many","_law_script"] (sD CL CS CH CW K):=by
 refine F.ok sc__law_way (λvs H Q E h=>?_) (λcdv A outer s H vs Q E hr h=>?_)
 ·obtain ⟨g,sl,us,m,a,zs,rfl,_⟩:=h
  rfl
 obtain ⟨g,sl,us,m,a,zs,rfl,lg,scr,hsl,nsl,px,ede,ey,et,en,ec,ew,m12,qd,qb⟩:=h
 have nd:=sc__law_way.nd
 refine ⟨_,ac (aC (i:=5) nd rfl (Or.inl rfl) (aQ ad))
  (ac (aC (i:=6) nd rfl (Or.inl rfl) (pm GG (pv 0) T.t.cl hr (aa (pv 1) ad)))
  (ac (iK PassesOwn.never rfl (cS rfl B.range (aa (aF cT (pv 3) ai) ad)) (cn (i:=7) nd rfl (Or.inl rfl))
   (ac (aE (eU (bj (pc GPl hr (aa (pv 2) (aa (pv 5) ad)))))
    (ac (aE (PW.pt (bH (ak aO (pv 6) ay (ap _)) (bF (ak aO (aB aA rfl B.len PySem.boot_len (aa (pm0 GLT (pv 1) DH.cl hr) ad)) (pv 7) (ap _))))) (af (aq ay)) av) aH) av)
   (ac (aE (PW.pt (i0 (ak aO (aB aA rfl B.len PySem.boot_len (aa (pv 5) ad)) (aB aA rfl B.len PySem.boot_len (aa (pv 2) ad)) (ap _)) (gS (ak aO (aG (r:=cb K) aN (aG (r:=ce K) aJ (pv 2) (aB aA rfl B.len PySem.boot_len (aa (pv 5) ad)) (λ_ _=>rfl)) ai (λ_ _=>rfl)) ay (ap _))))) (af (aq ay)) av)
   (af (aE (ak gF (pv 7) (pv 3) (ap _))
    (ac (aC (i:=8) nd rfl (Or.inl rfl) (pc GAm hr (aa (aF b9 (pc GA hr (aa (pv 4) (aa (pv 7) ad))) ai) ad)))
    (ac (aC (i:=9) nd rfl (Or.inl rfl) (aB aA rfl B.len PySem.boot_len (aa (pv 5) ad)))
    (ac (bf (dj PySem.F.plainAttrs_list PySem.F.slot_list_append PySem.F.type_list_append cp (pv 5) (aa (pv 8) ad)))
    (af (aC (i:=6) nd rfl (Or.inl rfl) (pm GC (pv 0) T.t.cl hr (aa (pv 1) (aa ay (aa (aG (r:=cb K) aN (aG (r:=ce K) aJ (pv 2) (pv 9) (λ_ _=>rfl)) ai (λ_ _=>rfl)) (aa (bi (aa (pv 9) (aa (pv 8) ad))) ad)))))))))) av)))))
  (br (uW CL CS CH CW K) (ac (tL (iy:=10) ky rfl (cS rfl B.range (aa ai ad)) (λ_ _ _ _=>eT) (λ_ _ _ _=>pm GT (pv 1) T.t.cl hr (aa (pv 2) ad)) nd rfl (Or.inl rfl))
   (ac (aE (PW.pt (bH (ak gX (pv 6) aY (ap _)) (bH (ak (wp 1 (hun (c:=1) hr)) (pv 10) (aQ (aa aY (aa aY (aa aY (aa ay ad))))) (ap _)) (bF (ak aO (aB aA rfl B.len PySem.boot_len (aa (pm0 GLT (pv 1) DH.cl hr) ad)) (aF cT (pv 3) ai) (ap _)))))) (af (aq ay)) av) aH)) ?vW))),?_⟩
 case vW =>
  rintro D0 σ H ⟨g,hl,sl,us,m,a,zs,ls,ws,y7,y8,y9,rfl,j,stb,lt,et,en,ec,lw,m12,q⟩
  have hz:(100000:Nat)<=sizeLine:=by decide
  have ar:ArS g.xs:=j.lg.ld.ar
  have tl:=gl g.xs
  refine ⟨_,rfl,ζ,ζ,?_⟩
  refine io (n:=4) (λi ys H'=>∃tn nm ws,JB CL CS CH CW K H' a zs {g with tn:=tn,nm:=nm,ws:=ws} hl sl us ls/\KpX hl g H H'/\ys=fates.take i/\((i<4/\tn=((i:Nat):Int)/\nm=.non/\ws.length=m+1+i)\/(i=4/\nm=.str "broken"/\ws.length=m+4))) ⟨0,.non,ws,by rw [← et,← en];exact j,KpX.same (Same.refl _),rfl,.inl ⟨ζ,rfl,rfl,lw⟩⟩ ω ?_ ?_
  ·rintro i ys H1 hi ⟨tn,nm,ws1,j1,k1,rfl,hc⟩
   obtain ⟨_,rfl,rfl,lw1⟩:=hc.resolve_right (λz=>absurd z.1 ω)
   refine kN ⟨_,rfl,g.A.l,g.A.dx,_,rfl,j1.lg.ld.ins,aT θ,_,rfl,{g with tn:=((i:Nat):Int),nm:=.non,ws:=ws1},rfl,j1.lg,?_⟩
   by_cases i3:i=3
   ·subst i3
    refine .inr (.inr ⟨rfl,rfl,λH2 lg2 k2=>?_⟩)
    refine ⟨_,.str "broken",ws1,j1.to (KpX.of k2) lg2 (k2 _ _ j1.nh j1.hh),k1.trans (KpX.of k2),rfl,.inr ⟨rfl,rfl,ω⟩⟩
   ·refine .inr (.inl ⟨rfl,by show ((i:Nat):Int)+1≠4;omega,λH2 lg2 k2=>.inr ⟨ec,rfl,λH3 lg3 k3=>.inr ⟨by show (own g.xs g.ys).2=true;rw [ii stb],?_⟩⟩⟩)
    have eo2:({g with tn:=((i:Nat):Int)+1,nm:=.non,ws:=ws1}:Sg).own={g with tn:=((i:Nat):Int)+1,nm:=.non,ws:=ws1}:=yu (g:={g with tn:=((i:Nat):Int)+1,nm:=.non,ws:=ws1}) stb
    have lg3':Lg CL CS CH CW K H3 ({g with tn:=((i:Nat):Int)+1,nm:=.non,ws:=ws1}:Sg).own:=lg3
    show GoQ CL CS CH CW K H3 ({g with tn:=((i:Nat):Int)+1,nm:=.non,ws:=ws1}:Sg).own _
    rw [eo2] at lg3' ⊢
    obtain ⟨x,nn,ex,hv⟩:=nV ar stb ω
    refine .inr ⟨by show g.ys.length≠aD g.xs;omega,x,nn,ex,hv,by show ws1.length<=900;omega,λt' H4 lg4 ht4 k4=>?_⟩
    have kk:KpG g H1 H4:=k2.trans (k3.trans k4)
    refine ⟨((i:Nat):Int)+1,.non,ws1++[(nn,("walk":Str),g.A.na,t')],j1.to (KpX.of kk) lg4 (kk _ _ j1.nh j1.hh),k1.trans (KpX.of kk),?_,.inl ⟨ω,rfl,rfl,by rw [List.length_append];show ws1.length+1=_;omega⟩⟩
    have:i=0\/i=1\/i=2:=by omega
    rcases this with rfl | rfl | rfl<;>rfl
  ·rintro ys H1 ⟨tn,nm,ws1,j1,k1,rfl,hc⟩ fl hfl
   rcases hc with ⟨z,_⟩ | ⟨_,rfl,lw1⟩
   ·omega
   have s2:=aj (o:=.lst (fates.take 4)) hfl
   have j2:=j1.keep s2
   have hf2:(upd H1 fl (.lst (fates.take 4))) fl=some (.lst [.non,.non,.non,.str "broken"]):=ae
   have k2:KpX hl g H (upd H1 fl (.lst (fates.take 4))):=k1.trans (KpX.same s2)
   generalize (upd H1 fl (HO.lst (fates.take 4)))=H2 at s2 j2 hf2 k2 ⊢
   refine ⟨_,rfl,rfl,_,rfl,aW ⟨_,rfl,χ,λo ho=>?_⟩⟩
   have s3:=aj (o:=.lst [.non,.non,.non,.str "broken"]) ho
   refine ⟨fl,o,_,_,rfl,rfl,SqL.of (s3 _ _ hf2),SqL.of ae,.cons (pP 1) (.cons (pP 1) (.cons (pP 1) (.cons (eq_str 1 _) .nil))),_,rfl,?_⟩
   have j3:=j2.keep s3
   have k3:=k2.trans (KpX.same s3)
   generalize (upd H2 o (HO.lst [.non,.non,.non,.str "broken"]))=H3 at s3 j3 k3 ⊢
   refine aW ⟨_,rfl,g.h.l,g.h.dx,_,rfl,j3.lg.sh.ins,ip θ,g.S,g.h,g.d,g.rs,ws1,g.v,rfl,j3.lg.sh,j3.en,ω,λpl lt' H4 s4 npl hpl pll=>⟨pl,_,rfl,.inl (SqL.of hpl),_,rfl,_,_,rfl,rfl,rfl,_,rfl,?_⟩⟩
   have ll:ws1.length=lt'.length:=pll.len
   refine bv (λ_=>?_) (λc=>absurd (τ (congrArg V.int ω)) c)
   exact q tn ws1 H4 (j3.lg.keep s4) ω (k3.trans (KpX.same s4))
 have hz:(100000:Nat)<=sizeLine:=by decide
 have ar:=lg.ld.ar
 have l12:=lg.ld.lx
 have tl:=gl g.xs
 refine ⟨χ,λhl hhl=>?_⟩
 have s1:=aj (o:=.lst []) hhl
 have hl1:(upd H hl (.lst [])) hl=some (.lst []):=ae
 have nhl:hl∉cO g.A g.ag g.S g.h:=gu lg hhl
 have nsl1:sl∉hl::cO g.A g.ag g.S g.h:=λz=>(List.mem_cons.mp z).elim (λy=>ah hsl hhl y) nsl
 have j1:JB CL CS CH CW K (upd H hl (.lst [])) a zs g hl sl us []:=⟨lg.keep s1,(scr.add hhl).same s1,s1 _ _ hsl,nsl1,Paired.mapP px λ_ _ z=>z.keep s1.ts,hl1,nhl,ede⟩
 have k1:KpG g H (upd H hl (.lst [])):=KpA.of s1
 generalize (upd H hl (HO.lst []))=H1 at s1 hl1 j1 k1 ⊢
 have eg:g={g with ys:=[]}:=by rw [← ey]
 refine ⟨_,rfl,g.A.l,g.A.dx,_,rfl,j1.lg.ld.ins,aT θ,_,rfl,g,rfl,j1.lg,?_⟩
 rw [eg]
 refine Ap (ls:=[]) j1 (KpX.same (Same.refl _)) hl1 ec en (by rw [ew];exact Nat.zero_le _) (Nat.zero_le _) λf ys nm ws H2 j2 hw2 k2=>?_
 rw [ew] at hw2
 obtain ⟨M,eM⟩:∃M:Nat,M=m+1:=⟨_,rfl⟩
 refine ⟨_,rfl,_,_,rfl,rfl,((M:Nat):Int),congrArg (λz=>[V.int z]) (by rw [eM];rfl),ω,ω,?_⟩
 rw [Int.toNat_natCast]
 refine iY (n:=M) (λi σ H'=>∃y7 y8 y9 f ls ys nm ws,σ=[some (.ref g.A.l),some (.ref g.h.l),some (.ref sl),some (.int ((m:Nat):Int)),some (.ref a),some (.ref hl),some f,y7,y8,y9,none]/\JB CL CS CH CW K H' a zs {g with ys:=ys,nm:=nm,ws:=ws} hl sl us ls/\KpG g H H'/\((i<=m/\Hw g.xs ls ys f nm ws i)\/(i=M/\f=.non/\nm=.non/\(bL g.xs ys≠.non\/g.xs.length<=ys.length)/\ys.length<aD g.xs/\ws.length=m+1))) ⟨none,none,none,f,[],ys,nm,ws,rfl,j2,KpA.x hhl k1 k2,.inl ⟨Nat.zero_le _,hw2⟩⟩ ?_ ?_
 ·rintro i σ H3 hi ⟨y7,y8,y9,f,ls,ys,nm,ws,rfl,j3,k3,hc⟩
  have ei:(0:Int)+(i:Nat)=((i:Nat):Int):=Int.zero_add _
  rw [ei]
  obtain ⟨im,eo,lle,hc⟩:i<=m/\Hw g.xs ls ys f nm ws i:=hc.resolve_right (λz=>absurd z.1 ω)
  have le:=j3.lg.ld.le
  have pl:g.xs.length=us.length:=j3.st.len
  refine ⟨_,rfl,_,rfl,sl,hl,g.xs,us,ls,rfl,j3.hz,j3.st,j3.hh,ω,l12,j3.ne,λH4 k4 hh4=>⟨_,rfl,?_⟩⟩
  have kx:KpX hl g H3 H4:=KpX.kp k4
  have lg4:=LSh.kpb j3.lg k4 j3.hh j3.nh
  rw [← eo] at hh4
  have j4:JB CL CS CH CW K H4 a zs {g with ys:=ys,nm:=nm,ws:=ws} hl sl us ys:=j3.to (g:={g with ys:=ys,nm:=nm,ws:=ws}) kx lg4 hh4
  have k04:=KpA.x hhl k3 kx
  have hy:(ys.map V.int).length=ys.length:=List.length_map _
  rcases hc with ⟨eb,rfl,rfl,lw⟩ | ⟨eb,e1⟩ | ⟨eb,rfl,rfl,lt,lw⟩
  ·rw [eb]
   refine aW ⟨_,rfl,rfl,_,rfl,?_⟩
   rw [τ rfl]
   refine aW ⟨_,rfl,g.h.l,g.h.dx,_,rfl,j4.lg.sh.ins,ip θ,g.S,g.h,g.d,g.rs,ws,g.v,rfl,j4.lg.sh,ede,ω,λfl lt H5 s5 nfl hfl pll=>⟨fl,_,rfl,.inl (SqL.of hfl),_,rfl,rfl,_,rfl,?_⟩⟩
   have ll:ws.length=lt.length:=pll.len
   refine bv (λ_=>?_) (λc=>absurd (τ (congrArg V.int ω)) c)
   have z:=j4.lg.keep s5
   exact qb ys g.tn ws H5 z ω (k04.trans (KpA.of s5))
  ·rw [eb]
   refine aI ⟨_,rfl,hl,_,rfl,.inl (SqL.of j4.hh),_,rfl,sl,_,rfl,.inl (SqL.of j4.hz),rfl,_,rfl,?_⟩
   rw [hy]
   by_cases el:ys.length=g.xs.length
   ·exact bv (λ_=>aW (qd _)) (λc=>absurd (τ (congrArg V.int ω)) c)
   ·refine bv (λc=>absurd (V.int.inj (Ξ c)) ω) (λ_=>?_)
    have c':ys.length<g.xs.length:=by omega
    obtain ⟨x,ex⟩:∃x,g.xs[ys.length]?=some x:=⟨_,ξ c'⟩
    obtain ⟨u,eu,t,am,rfl,ht,arx,amx⟩:=j4.st.get1 ex
    have eg:x.1=.give:=lE (by rw [← e1];exact ex)
    refine ⟨_,rfl,_,rfl,hl,_,rfl,.inl (SqL.of j4.hh),sl,_,_,_,rfl,rfl,SqL.of j4.hz,aU (by rw [hy];exact eu),t,_,_,_,rfl,rfl,SqT.of ht,St.at0,rfl,_,rfl,?_⟩
    refine bv (λ_=>qd _) (λc=>absurd (by rw [eg];exact τ rfl) c)
  ·rw [eb]
   have eY:bL g.xs ys≠.non\/g.xs.length<=ys.length:=by rw [eo];exact qp eb
   refine aI ⟨_,rfl,hl,_,rfl,.inl (SqL.of j4.hh),_,rfl,sl,_,rfl,.inl (SqL.of j4.hz),rfl,_,rfl,?_⟩
   rw [hy]
   refine bv (λc=>absurd (V.int.inj (Ξ c)) ω) (λ_=>?_)
   have c':ys.length<g.xs.length:=by omega
   obtain ⟨x,ex⟩:∃x,g.xs[ys.length]?=some x:=⟨_,ξ c'⟩
   obtain ⟨u,eu,t,am,rfl,ht,arx,amx⟩:=j4.st.get1 ex
   have ng:x.1≠.give:=pY lt ex
   refine ⟨_,rfl,_,rfl,hl,_,rfl,.inl (SqL.of j4.hh),sl,_,_,_,rfl,rfl,SqL.of j4.hz,aU (by rw [hy];exact eu),t,_,_,_,rfl,rfl,SqT.of ht,St.at0,rfl,_,rfl,?_⟩
   refine bv (λc=>absurd (g9 (b:=.give) c) ng) (λ_=>?_)
   refine ⟨_,rfl,_,rfl,_,_,rfl,rfl,_,rfl,bv (λc=>?_) (λc=>?_)⟩
   ·have im2:i<m:=by have:=Ξ c;omega
    refine ⟨_,rfl,_,rfl,a,zs,i,rfl,j4.scr.seq,_,_,rfl,rfl,⟨ζ,ζ⟩,_,rfl,λr nr=>⟨_,rfl,hl,_,rfl,.inl (SqL.of j4.hh),?_⟩⟩
    rw [hy]
    refine ⟨_,rfl,.inl ⟨rfl,_,SqL.of j4.hh⟩,_,rfl,hl,_,_,rfl,rfl,j4.hh,bw (by rw [hy];omega),?_⟩
    have kk:Kp hl H4 (upd H4 hl (.lst (ys.map V.int++[.int r]))):=aX
    have hh5:(upd H4 hl (.lst (ys.map V.int++[.int r]))) hl=some (.lst ((ys++[r]).map V.int)):=by rw [ae,List.map_append];rfl
    have lg5:=LSh.kpb j4.lg kk j4.hh j4.nh
    have j5:JB CL CS CH CW K (upd H4 hl (.lst (ys.map V.int++[.int r]))) a zs {g with ys:=ys,nm:=.non,ws:=ws} hl sl us (ys++[r]):=j4.to (g:={g with ys:=ys,nm:=.non,ws:=ws}) (KpX.kp kk) lg5 hh5
    have k05:KpG g H (upd H4 hl (.lst (ys.map V.int++[.int r]))):=KpA.x hhl k04 (KpX.kp kk)
    generalize (upd H4 hl (HO.lst (ys.map V.int++[.int r])))=H5 at j5 k05 ⊢
    obtain ⟨u',eu',t',am',rfl,ht',_⟩:=j5.st.get1 ex
    refine ⟨_,rfl,g.A.l,g.A.dx,_,rfl,j5.lg.ld.ins,aT θ,_,rfl,_,rfl,_,rfl,sl,_,_,_,rfl,rfl,SqL.of j5.hz,aU eu',t',_,_,_,rfl,rfl,SqT.of ht',St.at1,_,rfl,_,rfl,χ,λmm hmm=>?_⟩
    have s6:=aj (o:=.tup [.int (ys.length:Nat),.int r]) hmm
    have j6:=j5.keep s6
    refine ⟨{g with ys:=ys,nm:=.non,ws:=ws},_,_,mm,rfl,j6.lg,.inl ⟨rfl,_,r,ae,.inl ⟨rfl,rfl,eY.resolve_right (by show ¬g.xs.length<=ys.length;omega),λH7 lg7 k7=>?_⟩⟩⟩
    refine Ap (g:={g with ys:=ys,nm:=.non,ws:=ws}) (ls:=ys++[r]) j6 (KpX.of k7) (k7 _ _ j6.nh j6.hh) ec rfl (by show ws.length<=800;omega) (by rw [List.length_append];exact lt) λf ys' nm' ws' H8 j8 hw8 k8=>?_
    refine ⟨_,_,_,f,ys++[r],ys',nm',ws',rfl,j8,KpA.x hhl (k05.trans (KpA.of s6)) k8,.inl ⟨ω,?_⟩⟩
    have e9:({g with ys:=ys,nm:=.non,ws:=ws}:Sg).ws.length=i+1:=lw
    rw [e9] at hw8
    exact hw8
   ·have im2:i=m:=by
     have:¬((i:Nat):Int)<((m:Nat):Int):=λz=>c (τ z)
     omega
    exact ⟨_,_,_,.non,ys,ys,.non,ws,rfl,j4,k04,.inr ⟨ω,rfl,rfl,eY,lt,ω⟩⟩
 ·rintro σ H3 ⟨y7,y8,y9,f,ls,ys,nm,ws,rfl,j3,k3,hc⟩
  rcases hc with ⟨z,_⟩ | ⟨_,rfl,rfl,eY,lt,lw⟩
  ·omega
  refine ⟨{g with ys:=ys,nm:=.non},hl,sl,us,m,a,zs,ls,ws,_,_,_,rfl,j3,eY,lt,et,rfl,ec,lw,m12,λtn ws' H4 lg4 lw' k4=>?_⟩
  exact qb ys tn ws' H4 lg4 lw' (KpA.x hhl k3 k4)
variable {CH:Addr}
theorem oC(xs:List Stp):Str.ofString "walked "++Str.join (Str.ofString "; ") (xs.map sx)=ptx (mS true) xs:=by
 have e:Str.ofString "walked "=mS true++Str.ofString " ":=by decide +kernel
 rw [e]
 rfl
def Pend(H:Hp)(g:Sg)(k:Nat)(m:Bool):Prop:=(g.ws.drop k=[]/\(m=false\/g.ks=[]))\/(m=true/\∃k0 j x n t,g.ks=k0++[((j:Nat):Int)]/\g.xs[j]?=some x/\aK x.1 x.2=.int n/\g.ws.drop k=[(n,("undo":Str),g.A.na,t)]/\H t=some (.tup [.int (j:Nat),.str (sx x)]))
theorem Pend.keep{H H':Hp}{g:Sg}{k:Nat}{m:Bool}(s:bh H H')(h:Pend H g k m):Pend H' g k m:=h.imp id λ⟨e,k0,j,x,n,t,h1,h2,h3,h4,h5⟩=>⟨e,k0,j,x,n,t,h1,h2,h3,h4,s _ _ h5⟩
def RwP(H:Hp)(g:Sg):Prop:=(g.ks=[]/\g.sg=true/\∃r,g.rs=[r]/\H r=some (.tup [.str "over",.ref g.A.na]))\/(g.sg=false/\g.rs=[])
def RwS(H:Hp)(g:Sg):Prop:=(g.ks=[]/\g.sg=true/\∃r,g.rs=[r]/\H r=some (.tup [.str "over",.ref g.A.na]))\/(g.ks≠[]/\g.sg=false/\g.rs=[])
theorem RwS.keep{H H':Hp}{g:Sg}(s:bh H H')(h:RwS H g):RwS H' g:=h.imp (λ⟨e,e2,r,h1,h2⟩=>⟨e,e2,r,h1,s _ _ h2⟩) id
theorem RwS.p{H:Hp}{g:Sg}(h:RwS H g):RwP H g:=h.imp id λz=>z.2
abbrev big(sg:Bool):Nat:=if sg=true then 50 else 49
theorem lU{α:Type}{xs:List α}{x:α}:xs++[x]≠[]:=λz=>by simp at z
theorem bu{H:Hp}{g:Sg}{Q:V->Hp->Prop}(lg:Lg CL CS CH CW K H g)(ok:KsOk g.xs g.ks)(lw:g.ws.length<=900)(sm:g.d.Small (big g.sg))(en:g.d.ends=[])(rw0:RwP H g)
  (q:∀sg' d' rs' v' ws' H',Lg CL CS CH CW K H' {g with sg:=sg',d:=d',rs:=rs',v:=v',ws:=ws'}->KpG g H H'->d'.ends=g.d.ends->d'.Small (big sg')->RwS H' {g with sg:=sg',d:=d',rs:=rs',v:=v',ws:=ws'}->Pend H' {g with sg:=sg',d:=d',rs:=rs',v:=v',ws:=ws'} g.ws.length true->g.ws.length<=ws'.length->ws'.length<=g.ws.length+1->Q .non H'):BuQ CL CS CH CW K H g Q:=by
 have dr:g.ws.drop g.ws.length=[]:=List.drop_of_length_le (ι _)
 rcases gf g.ks with e | ⟨k0,i,e⟩
 ·refine .inl ⟨e,?_⟩
  rcases rw0 with ⟨_,es,r,er,hr⟩ | ⟨es,er⟩
  ·exact .inl ⟨es,q g.sg g.d g.rs g.v g.ws H lg (λb o _ e=>e) rfl sm (.inl ⟨e,es,r,er,hr⟩) (.inl ⟨dr,.inr e⟩) (ι _) (Nat.le_succ _)⟩
  ·rw [es] at sm
   refine .inr ⟨es,by rw [er];decide,sm.mono ζ,en,λr b v' H2 lg2 hr2 k2=>?_⟩
   exact q true (g.d.keep r b (.over g.p)) (g.rs++[r]) v' g.ws H2 lg2 k2 rfl (sm.keep r b (.over g.p)) (.inl ⟨e,rfl,r,by show g.rs++[r]=[r];rw [er];rfl,hr2⟩) (.inl ⟨dr,.inr e⟩) (ι _) (Nat.le_succ _)
 ·have ne:g.ks≠[]:=by rw [e];exact lU
  obtain ⟨es,er⟩:=rw0.resolve_left (λz=>ne z.1)
  obtain ⟨j,x,n,rfl,ex,hv⟩:=(show KsOk g.xs (k0++[i]) by rw [← e];exact ok).last
  refine .inr ⟨k0,j,x,n,e,ex,hv,lw,λt H2 lg2 ht k2=>?_⟩
  refine q g.sg g.d g.rs g.v (g.ws++[(n,("undo":Str),g.A.na,t)]) H2 lg2 k2 rfl sm (.inr ⟨ne,es,er⟩) (.inr ⟨rfl,k0,j,x,n,t,e,ex,hv,?_,ht⟩) ?_ ?_
  ·show (g.ws++_).drop g.ws.length=_
   rw [List.drop_left]
  ·rw [List.length_append]
   exact Nat.le_add_right _ _
  ·rw [List.length_append]
   exact ι _
structure JL(CL CS CH:Addr)(CW:Wd->Addr)(K:Frag)(H:Hp)(g:Sg)(bl sl:Addr)(us:List V):Prop where
 lg:Lg CL CS CH CW K H g
 hz:H sl=some (.lst us)
 nz:sl∉cO g.A g.ag g.S g.h
 st:Paired (StT H) g.xs us
 hb:H bl=some (.lst (g.ks.reverse.map V.int))
 nb:bl∉cO g.A g.ag g.S g.h
 ok:KsOk g.xs g.ks
 en:g.d.ends=[]
 sm:g.d.Small (big g.sg)
 ec:g.cl=true
 nm:g.nm=.str "broken"
 rw:RwS H g
section
variable {H H':Hp}{g:Sg}{bl sl:Addr}{us:List V}
theorem JL.ts(j:JL CL CS CH CW K H g bl sl us)(k:KpG g H H'):bh H H':=LSh.ts j.lg k
theorem JL.keep(j:JL CL CS CH CW K H g bl sl us)(s:Same H H'):JL CL CS CH CW K H' g bl sl us:=⟨j.lg.keep s,s _ _ j.hz,j.nz,Paired.mapP j.st λ_ _ z=>z.keep s.ts,s _ _ j.hb,j.nb,j.ok,j.en,j.sm,j.ec,j.nm,j.rw.keep s.ts⟩
end
abbrev s45(a:Addr)(g:Sg)(sl bl:Addr)(M:Int)(k:Nat)(m:Bool)(y11 y12 y13:Option V):L2.St:=[some (.ref a),some (.ref g.A.na),some (.ref sl),some (.ref g.A.l),some (.ref g.h.l),some (.ref bl),some (.int M),some (.str "broken"),some (.int (k:Nat)),some .non,some (.bl m),y11,y12,y13]
def DuA(H:Hp)(x:Ws)(u:V):Prop:=∃t t2 m e i y,u=.ref t/\H t=some (.tup [.int x.1,.ref t2])/\H t2=some (.tup [.str x.2.1,.ref x.2.2.1,.ref m,.ref e])/\H x.2.2.2=some (.tup [.int i,.str y])/\H m=some (.tup [.int i,.str y])/\H e=some (.tup [])
theorem DuA.keep{H H':Hp}{x:Ws}{u:V}(s:bh H H')(h:DuA H x u):DuA H' x u:=by
 obtain ⟨t,t2,m,e,i,y,c1,c2,c3,c4,c5,c6⟩:=h
 exact ⟨t,t2,m,e,i,y,c1,s _ _ c2,s _ _ c3,s _ _ c4,s _ _ c5,s _ _ c6⟩
def OvA(H:Hp)(na:Addr)(r:Addr)(u:V):Prop:=∃t,u=.ref t/\H r=some (.tup [.str "over",.ref na])/\H t=some (.tup [.str "over",.ref na])
section
variable (CL CS CH:Addr)(CW:Wd->Addr)(K:Frag)
def Pv(a sl el:Addr)(us cs:List V)(M:Int)(i:Nat)(σ:L2.St)(H:Hp):Prop:=∃y11 y12 y13 g bl k m,σ=s45 a g sl bl M k m y11 y12 y13/\JL CL CS CH CW K H g bl sl us/\Pend H g k m/\k<=g.ws.length/\g.ws.length<=21+i/\H el=some (.lst cs)/\el∉cO g.A g.ag g.S g.h
def u5:TS:=λD σ H=>∃a sl el us cs M i g bl k m n dn ds y13,σ=s45 a g sl bl M k m (some (.int n)) (some (.ref dn)) y13/\JL CL CS CH CW K H g bl sl us/\k<=g.ws.length/\g.ws.length<=21+i/\H dn=some (.lst ds)/\Paired (DuA H) (g.ws.drop k) ds/\H el=some (.lst cs)/\el∉cO g.A g.ag g.S g.h/\i<60/\∀σ' H',Pv CL CS CH CW K a sl el us cs M (i+1) σ' H'->D.nx σ' H'
def u6:TS:=λD σ H=>∃a sl el us cs M i g bl k m n dn ds rl ro,σ=s45 a g sl bl M k m (some (.int n)) (some (.ref dn)) (some (.ref rl))/\JL CL CS CH CW K H g bl sl us/\k<=g.ws.length/\g.ws.length<=21+i/\H dn=some (.lst ds)/\Paired (DuA H) (g.ws.drop k) ds/\H rl=some (.lst ro)/\Paired (OvA H g.A.na) g.rs ro/\H el=some (.lst cs)/\el∉cO g.A g.ag g.S g.h/\i<60/\∀σ' H',Pv CL CS CH CW K a sl el us cs M (i+1) σ' H'->D.nx σ' H'
def u4:TS:=λD σ H=>∃a sl el us cs M i g bl n y12 y13,σ=s45 a g sl bl M (g:Sg).ws.length true (some (.int n)) y12 y13/\JL CL CS CH CW K H g bl sl us/\g.ws.length<=21+i/\H el=some (.lst cs)/\el∉cO g.A g.ag g.S g.h/\i<60/\∀σ' H',Pv CL CS CH CW K a sl el us cs M (i+1) σ' H'->D.nx σ' H'
def u7:TS:=λD σ H=>∃a sl el us cs M i g bl n m y12 y13,σ=s45 a g sl bl M (g:Sg).ws.length m (some (.int n)) y12 y13/\m=decide (n%4<2/\g.ks≠[])/\JL CL CS CH CW K H g bl sl us/\g.ws.length<=21+i/\H el=some (.lst cs)/\el∉cO g.A g.ag g.S g.h/\i<60/\∀σ' H',Pv CL CS CH CW K a sl el us cs M (i+1) σ' H'->D.nx σ' H'
def u1:TS:=λD σ H=>∃a zs sl us M g bl k,σ=s45 a g sl bl M k true none none none/\JL CL CS CH CW K H g bl sl us/\Pend H g k true/\k<=g.ws.length/\g.ws.length<=21/\Scr K H a ((zs:List Int).map V.int) (cO g.A g.ag g.S g.h)/\∀H',D.rt (.bl true) H'
def u2:TS:=λD σ H=>∃a zs sl us M g bl y8 y9 y10,σ=[some (.ref a),some (.ref (g:Sg).A.na),some (.ref sl),some (.ref g.A.l),some (.ref g.h.l),some (.ref bl),some (.int M),some (.str "broken"),y8,y9,y10,none,none,none]/\Lg CL CS CH CW K H g/\H sl=some (.lst us)/\sl∉cO g.A g.ag g.S g.h/\Paired (StT H) g.xs us/\H bl=some (.lst (g.ks.reverse.map V.int))/\bl∉cO g.A g.ag g.S g.h/\KsOk g.xs g.ks/\g.d.ends=[]/\g.d.Small 49/\g.cl=false/\g.sg=false/\g.rs=[]/\g.ws.length<=20/\Scr K H a ((zs:List Int).map V.int) (cO g.A g.ag g.S g.h)/\∀H',D.rt (.bl true) H'
end
theorem yI{fSI fHI fLI:Addr}{dSI dHI dLI:FuncData}(F:Fun K "law" "law" nB f fd)(B:TxB mg)(T:TxC K CW CL CH)(D:TxD K CS)(DH:TxH K CH)
  (MS:Mk K CS fSI)(mgS:mg "Stand"=some (.ref CS))(GSI:FnOk P w K mg base CX0 1 fSI dSI ["self","cells"] (p5 CS K))(bSI:Binds K dSI ["self","cells"] [])
  (MH:Mk K CH fHI)(mgH:mg "Sheet"=some (.ref CH))(GHI:FnOk P w K mg base CX0 1 fHI dHI ["self","stand"] (p9 CS CH K))(bHI:Binds K dHI ["self","stand"] [])
  (ML:Mk K CL fLI)(mgL:mg "WalkedLead"=some (.ref CL))(GLI:FnOk P w K mg base CX0 4 fLI dLI ["self","name","pact"] (mY CL CP CW))(bLI:Binds K dLI ["self","name","pact"] [])
  (GRP:GF P w K mg base CX0 8 "read_pact" ["text"] (lL CP CW))(GA:GF P w K mg base CX0 1 "_law_cell_at" ["_law_script","_law_k"] (jE K))(GSs:GF P w K mg base CX0 3 "_law_steps" ["_law_script"] (sF K))(GBk:GF P w K mg base CX0 1 "_law_back" ["_law_steps_here"] (oV K))(GWy:GF P w K mg base CX0 9 "_law_way" ["_law_lead","_law_sheet","_law_steps_here","_law_many","_law_script"] (sD CL CS CH CW K))
  (GDu:GF P w K mg base CX0 1 "_law_due" ["_law_name","_law_steps_here","_law_back_here"] (sS K))(GCm:GF P w K mg base CX0 9 "_law_came" ["_law_lead","_law_sheet","_law_steps_here","_law_back_here","_law_number"] (sM CL CS CH CW K))
  (GRT:GM P w K mg base CX0 1 CH "rows_told" ["self"] (lO CS CH K))(GLT:GM P w K mg base CX0 2 CH "letters_told" ["self"] (jr CS CH K))(GT:GM P w K mg base CX0 8 CL "turn" ["self","sheet"] (jo CL CS CH CW K))(GE:GM P w K mg base CX0 8 CL "end" ["self","sheet","outcome"] (sR CL CS CH CW K)) :
  FnOk P w K mg base CX0 10 f fd ["_law_script"] (p7 K):=by
 refine F.ok sc_law (λvs H Q E h=>?_) (λcdv A outer s H vs Q E hr h=>?_)
 ·obtain ⟨a,ns,rfl,_⟩:=h
  rfl
 obtain ⟨a,ns,rfl,hS,hl0,q⟩:=h
 have nd:=sc_law.nd
 have hr1:Room (1+1) _:=hr.mono ζ
 have hr4:Room (4+1) _:=hr.mono ζ
 refine ⟨_,ac (aC (i:=1) nd rfl (Or.inl rfl) (bi (aa (aF bK (pc GA hr (aa (pv 0) (aa ai ad))) ai) (aa (aF bK (aF b9 (pc GA hr (aa (pv 0) (aa ai ad))) ai) (aF jT ai ai)) ad))))
  (ac (aC (i:=2) nd rfl (Or.inl rfl) (pc GSs hr (aa (pv 0) ad)))
  (ac (aC (i:=3) nd rfl (Or.inl rfl) (cu ML GLI hr4 rfl mgL bLI .nil bJ (aa (pv 1) (aa (pc GRP hr (aa (aF ba ay (dj PySem.F.plainAttrs_str PySem.F.slot_str_join PySem.F.type_str_join qu ay (aa (i4 tf rfl (ju (pv 2)) (λ_ _ _ _=>eT) (λ_ _ _ _=>aG (r:=cb K) aN (pv 0) ai (λ_ _=>rfl))) ad))) ad)) ad))))
  (ac (aC (i:=4) nd rfl (Or.inl rfl) (cu MH GHI hr1 rfl mgH bHI .nil bJ (aa (cu MS GSI hr1 rfl mgS bSI .nil bJ (aa (aQ (aa ai ad)) ad)) ad)))
  (ac (aC (i:=5) nd rfl (Or.inl rfl) (pc GBk hr (aa (pv 2) ad)))
  (ac (aC (i:=6) nd rfl (Or.inl rfl) (aF bK (aF b9 (pc GA hr (aa (pv 0) (aa ai ad))) ai) (aF cT (aB aA rfl B.len PySem.boot_len (aa (pv 5) ad)) ai)))
  (ac (aC (i:=7) nd rfl (Or.inl rfl) (pc GWy hr (aa (pv 3) (aa (pv 4) (aa (pv 2) (aa (pv 6) (aa (pv 0) ad)))))))
  (ac (aE (PW.pt (i0 (ak kT (pv 7) ay (ap _)) (gS (ak (fR (Nat.lt_of_succ_lt (oh hr))) (pm0 GRT (pv 4) DH.cl hr) (aQ ad) (ap _))))) (af (aq (cv aO (pv 7) ay (ap _)))) av)
  (br (u2 CL CS CH CW K)
  (ac (aC (i:=8) nd rfl (Or.inl rfl) (aB aA rfl B.len PySem.boot_len (aa (pm0 GLT (pv 4) DH.cl hr) ad)))
  (ac (bf (pm GE (pv 3) T.t.cl hr (aa (pv 4) (aa ay ad))))
  (ac (aC (i:=9) nd rfl (Or.inl rfl) aY)
  (ac (aC (i:=10) nd rfl (Or.inl rfl) cH)
  (br (u1 CL CS CH CW K)
  (ac (iK PassesOwn.never rfl (ju (aF t9 (fM lW (pv 0) (dU ai) (dU ai)) (aQ (aa ai ad)))) (cn (i:=11) nd rfl (Or.inl rfl))
   (ac (aC (i:=12) nd rfl (Or.inl rfl) (aQ ad))
   (ac (aE (bj (pv 10)) (af (aC (i:=12) nd rfl (Or.inl rfl) (pc GDu hr (aa (pv 1) (aa (pv 2) (aa (pv 5) ad)))))) av)
   (br (u5 CL CS CH CW K) (ac (aC (i:=13) nd rfl (Or.inl rfl) (aQ (aa (bi (aa ay (aa (pv 1) ad))) ad)))
   (ac (aE (ak (fR (Nat.lt_of_succ_lt (oh hr))) (pv 5) (aQ ad) (ap _)) (af (aC (i:=13) nd rfl (Or.inl rfl) (aQ ad))) av)
   (br (u6 CL CS CH CW K) (ac (aE (PW.pt (i0 (ak gs (pv 9) aY (ap _)) (i0 (ak (qt 3 (hun (c:=3) hr)) (fM lW (pm0 GLT (pv 4) DH.cl hr) (dU (pv 8)) qk) (pv 12) (ap _)) (gS (ak (qt 1 (hun (c:=1) hr)) (pm0 GRT (pv 4) DH.cl hr) (pv 13) (ap _)))))) aH av)
   (ac (aC (i:=8) nd rfl (Or.inl rfl) (aF cT (pv 8) (aB aA rfl B.len PySem.boot_len (aa (pv 12) ad))))
   (ac (aC (i:=10) nd rfl (Or.inl rfl) cH)
   (br (u4 CL CS CH CW K)
   (af (aE (PW.pt (bH (ak aO (aF bK (pv 11) ai) ai (ap _)) (bF (ak aO (aF bK (aF b9 (pv 11) ai) ai) ai (ap _)))))
    (af (aC (i:=9) nd rfl (Or.inl rfl) (pm GT (pv 3) T.t.cl hr (aa (pv 4) ad))))
    (br (u4 CL CS CH CW K) (ac (aC (i:=10) nd rfl (Or.inl rfl) (gU (cv gF (aF bK (pv 11) ai) ai (ap _)) (fO (cv (fR (Nat.lt_of_succ_lt (oh hr))) (pv 5) (aQ ad) (ap _)))))
     (br (u7 CL CS CH CW K) (ac (aC (i:=9) nd rfl (Or.inl rfl) (pc GCm hr (aa (pv 3) (aa (pv 4) (aa (pv 2) (aa (pv 5) (aa (pv 11) ad)))))))
      (af (aE (bj (pv 10)) (af (aC (i:=5) nd rfl (Or.inl rfl) (fM lW (pv 5) (dU ai) qk))) av))) ?v7)) ?v8))) ?v4)))) ?v6))) ?v5))))
  (af (aq cH))) ?v1))))) ?v2)))))))),?_⟩
 case v2 =>
  rintro D0 σ H ⟨a,zs,sl,us,M,g,bl,y8,y9,y10,rfl,lg,hsl,nsl,px,hbl,nbl,ok,en,sm,ec,es,er,lw,scr,q⟩
  refine ⟨_,rfl,g.h.l,g.h.dx,_,rfl,lg.sh.ins,ip θ,g.S,g.h,g.d,g.rs,g.ws,g.v,rfl,lg.sh,en,ω,λfl lt H1 s1 nfl hfl pl=>⟨fl,_,rfl,.inl (SqL.of hfl),?_⟩⟩
  have ll:g.ws.length=lt.length:=pl.len
  rw [← ll]
  have lg1:=lg.keep s1
  refine ⟨_,rfl,g.A.l,g.A.dx,_,rfl,lg1.ld.ins,aT θ,_,rfl,g,rfl,lg1,ec,λH2 lg2 k2=>?_⟩
  refine bu lg2 ok (by show g.ws.length<=900;omega) (by show g.d.Small (big g.sg);rw [es];exact sm) en (.inr ⟨es,er⟩) λsg' d' rs' v' ws' H3 lg3 k3 e1 sm3 rw3 pe3 l1 l2=>?_
  have kk:KpG g H H3:=(KpA.of s1).trans (k2.trans k3)
  have ts:=LSh.ts lg kk
  have l3:g.ws.length<=ws'.length:=l1
  have l4:ws'.length<=g.ws.length+1:=l2
  exact ⟨a,zs,sl,us,M,{g with nm:=.str "broken",cl:=true,sg:=sg',d:=d',rs:=rs',v:=v',ws:=ws'},bl,g.ws.length,rfl,⟨lg3,kk _ _ nsl hsl,nsl,Paired.mapP px λ_ _ z=>z.keep ts,kk _ _ nbl hbl,nbl,ok,e1.trans en,sm3,rfl,rfl,rw3⟩,pe3,l3,by show ws'.length<=21;omega,scr.kp kk,q⟩
 case v1 =>
  rintro D0 σ H ⟨a,zs,sl,us,M,g,bl,k,rfl,j,pe,kl,lw,scr,q⟩
  have hz:(100000:Nat)<=sizeLine:=by decide
  obtain ⟨cs,ecs,_⟩:=vj zs (some 2) (some 46)
  have l44:=Ax zs
  rw [ecs,List.length_map] at l44
  refine ⟨_,rfl,_,rfl,_,rfl,a,_,rfl,scr.seq,λo1 ho1=>⟨χ,λo2 ho2=>⟨o1,o2,_,_,rfl,rfl,aj ho2 _ _ ae,ae,?_,λel hel=>?_⟩⟩⟩
  ·rw [ecs,List.length_map]
   show cs.length+1<=sizeLine
   omega
  have s3:=(aj (o:=.lst (g8 (zs.map V.int) (some 2) (some 46))) ho1).trans (aj (o:=.lst [.int 3]) ho2)
  have e1:(g8 (zs.map V.int) (some 2) (some 46)++[.int 3]:List V)=(cs++[3]).map V.int:=by rw [ecs,List.map_append];rfl
  rw [e1]
  have j3:=j.keep s3
  have nel:el∉cO g.A g.ag g.S g.h:=gu j3.lg hel
  have s4:=aj (o:=.lst ((cs++[3]).map V.int)) hel
  have j4:=j3.keep s4
  have pe4:=pe.keep (s3.trans s4).ts
  have el4:=ae (H:=(upd (upd H o1 (.lst (g8 (zs.map V.int) (some 2) (some 46)))) o2 (.lst [.int 3]))) (a:=el) (o:=.lst ((cs++[3]).map V.int))
  generalize (upd (upd (upd H o1 (HO.lst (g8 (zs.map V.int) (some 2) (some 46)))) o2 (HO.lst [.int 3])) el (HO.lst ((cs++[3]).map V.int)))=H4 at s4 j4 pe4 el4 ⊢
  refine ⟨el,rfl,⟨_,SqL.of el4⟩,?_⟩
  refine vb (xs:=(cs++[3]).map V.int) (Pv CL CS CH CW K a sl el us ((cs++[3]).map V.int) M) ⟨none,none,none,g,bl,k,true,rfl,j4,pe4,kl,lw,el4,nel⟩ (λi σ H' _ z=>by obtain ⟨_,_,_,_,_,_,_,_,_,_,_,_,z,_⟩:=z;exact SqL.of z) ?_ (fun σ H' _=>q H')
  rintro i u σ H5 hu ⟨y11,y12,y13,g,bl,k,m,rfl,j,pe,kl,lw,hel5,nel5⟩
  rw [List.getElem?_map] at hu
  obtain ⟨n,en',rfl⟩:=Option.map_eq_some_iff.mp hu
  have hi:i<60:=by
   have:=(List.getElem?_eq_some_iff.mp en').1
   rw [List.length_append] at this
   have h1:([3]:List Int).length=1:=rfl
   omega
  refine ⟨χ,λd0 hd0=>?_⟩
  have s1:=aj (o:=.lst []) hd0
  have j1:=j.keep s1
  have pe1:=pe.keep s1.ts
  have hd1:(upd H5 d0 (.lst [])) d0=some (.lst []):=ae
  have hel1:=s1 _ _ hel5
  generalize (upd H5 d0 (HO.lst []))=H6 at s1 j1 pe1 hd1 hel1 ⊢
  refine ⟨_,rfl,m,rfl,?_⟩
  cases m with
  | false =>
   have e0:g.ws.drop k=[]:=pe1.elim (λz=>z.1) λz=>absurd z.1 ζ
   exact aI ⟨a,sl,el,us,_,M,i,g,bl,k,false,n,d0,[],_,rfl,j1,kl,lw,hd1,by rw [e0];exact .nil,hel1,nel5,hi,fun σ' H' z=>z⟩
  | true =>
   refine aW ⟨_,rfl,_,rfl,_,rfl,g.A.na,sl,bl,g.xs,us,g.ks,rfl,j1.hz,j1.st,j1.hb,j1.ok,λdn ds H7 s7 ndn hdn dl=>?_⟩
   refine ⟨a,sl,el,us,_,M,i,g,bl,k,true,n,dn,ds,_,rfl,j1.keep s7,kl,lw,hdn,?_,s7 _ _ hel1,nel5,hi,fun σ' H' z=>z⟩
   rcases pe1 with ⟨e0,e1⟩ | ⟨_,k0,jj,x,nn,tt,ek,ex,hv,ed,ht⟩
   ·have e2:g.ks=[]:=e1.resolve_left ζ
    rcases dl with ⟨_,rfl⟩ | ⟨k0,jj,x,nn,u,ek,_⟩
    ·rw [e0];exact .nil
    ·rw [e2] at ek
     exact absurd ek.symm lU
   ·rcases dl with ⟨z,_⟩ | ⟨k0',jj',x',n',u,ek',ex',hv',rfl,tt',t2,mm,e,rfl,h1,h2,h3,h4⟩
    ·rw [ek] at z
     exact absurd z lU
    ·rw [ek] at ek'
     have ejj:jj=jj':=by
      have:=(List.cons.inj (List.append_inj' ek' rfl).2).1
      omega
     subst ejj
     rw [ex] at ex'
     cases ex'
     rw [hv] at hv'
     cases hv'
     rw [ed]
     exact .cons ⟨tt',t2,mm,e,_,_,rfl,h1,h2,s7 _ _ ht,h3,h4⟩ .nil
 case v5 =>
  rintro D0 σ H ⟨a,sl,el,us,cs,M,i,g,bl,k,m,n,dn,ds,y13,rfl,j,kl,lw,hdn,pd,hel,nel,hi,nx⟩
  refine ⟨_,rfl,χ,λtt htt=>⟨χ,λr2 hr2=>?_⟩⟩
  have z1:=aj (o:=.tup [.str "over",.ref g.A.na]) htt
  have z2:=aj (o:=.lst [.ref tt]) hr2
  have z:=z1.trans z2
  have htt2:=z2 _ _ (ae (H:=H) (a:=tt) (o:=.tup [.str "over",.ref g.A.na]))
  have hr2':(upd (upd H tt (.tup [.str "over",.ref g.A.na])) r2 (.lst [.ref tt])) r2=some (.lst [.ref tt]):=ae
  generalize (upd (upd H tt (HO.tup [.str "over",.ref g.A.na])) r2 (HO.lst [.ref tt]))=H1 at z2 z htt2 hr2' ⊢
  refine ⟨_,rfl,χ,λe0 he0=>?_⟩
  have s2:=aj (o:=.lst []) he0
  have j2:=(j.keep z).keep s2
  have s02:=z.trans s2
  refine ⟨bl,e0,_,rfl,rfl,SqL.of j2.hb,SqL.of ae,_,rfl,?_⟩
  have hr3:=s2 _ _ hr2'
  have htt3:=s2 _ _ htt2
  have pd2:=Paired.mapP pd λ_ _ y=>DuA.keep s02.ts y
  have hdn2:=s02 _ _ hdn
  have hel2:=s02 _ _ hel
  generalize (upd H1 e0 (HO.lst []))=H2 at s2 j2 s02 hr3 htt3 pd2 hdn2 hel2 ⊢
  rcases j2.rw with ⟨e,es,r,er,hr'⟩ | ⟨ne,es,er⟩
  ·rw [e]
   refine aI ⟨a,sl,el,us,cs,M,i,g,bl,k,m,n,dn,ds,r2,[.ref tt],rfl,j2,kl,lw,hdn2,pd2,hr3,?_,hel2,nel,hi,nx⟩
   rw [er]
   exact .cons ⟨tt,rfl,hr',htt3⟩ .nil
  ·have ne':g.ks.reverse.map V.int≠[]:=λy=>ne (by simpa using y)
   rw [Γ ne']
   refine aW ⟨χ,λr0 hr0=>?_⟩
   have s3:=aj (o:=.lst []) hr0
   refine ⟨a,sl,el,us,cs,M,i,g,bl,k,m,n,dn,ds,r0,[],rfl,j2.keep s3,kl,lw,s3 _ _ hdn2,Paired.mapP pd2 λ_ _ y=>DuA.keep s3.ts y,ae,?_,s3 _ _ hel2,nel,hi,nx⟩
   rw [er]
   exact .nil
 case v6 =>
  rintro D0 σ H ⟨a,sl,el,us,cs,M,i,g,bl,k,m,n,dn,ds,rl,ro,rfl,j,kl,lw,hdn,pd,hrl,pr,hel,nel,hi,nx⟩
  refine ⟨_,rfl,rfl,_,rfl,aI ?_⟩
  refine ⟨_,rfl,g.h.l,g.h.dx,_,rfl,j.lg.sh.ins,ip θ,g.S,g.h,g.d,g.rs,g.ws,g.v,rfl,j.lg.sh,j.en,ω,λfl lt H1 s1 nfl hfl pl=>?_⟩
  rw [j.en] at pl
  have ll:g.ws.length=lt.length:=pl.len
  refine ⟨_,rfl,_,rfl,fl,_,rfl,SqL.of hfl,λcl hcl=>?_⟩
  rw [ot lt k ω] at *
  have s2:=aj (o:=.lst (lt.drop k)) hcl
  have s02:=s1.trans s2
  refine ⟨_,rfl,cl,dn,_,ds,rfl,rfl,SqL.of ae,SqL.of (s02 _ _ hdn),?_,_,rfl,aI ?_⟩
  ·refine i7 ?_ (i8 k pl) pd
   intro x u z lt' du
   obtain ⟨tt,t2,nv,rfl,h1,h2,hn⟩:=lt'.keep s2.ts
   obtain ⟨t3,rfl,h3⟩:=uL hn
   obtain ⟨r,r2,mm,e,i1,y1,rfl,g1,g2,g3,g4,g5⟩:=du
   have g1:=s02 _ _ g1
   have g2:=s02 _ _ g2
   have g3:=s02 _ _ g3
   have g4:=s02 _ _ g4
   have g5:=s02 _ _ g5
   have e0:=(kf (K:=K) (n:=0) (SqT.of g3) (SqT.of g4) (.cons (eq_int 0 _) (.cons (eq_str 0 _) .nil))).1
   have e1:=(kf (K:=K) (n:=0) (SqT.of h3) (SqT.of g5) .nil).1
   have e2:=(kf (K:=K) (n:=1) (SqT.of h2) (SqT.of g2) (.cons (eq_str 1 _) (.cons (qz 1) (.cons e0 (.cons e1 .nil))))).1
   exact (kf (K:=K) (n:=2) (SqT.of h1) (SqT.of g1) (.cons (eq_int 2 _) (.cons e2 .nil))).1
  have j2:=j.keep s02
  generalize (upd H1 cl (HO.lst (lt.drop k)))=H2 at s2 s02 j2 ⊢
  refine ⟨_,rfl,g.h.l,g.h.dx,_,rfl,j2.lg.sh.ins,ip θ,g.S,g.h,g.d,g.rs,g.ws,g.v,rfl,j2.lg.sh,λrl2 H3 s3 nrl hrl2=>?_⟩
  have s03:=s02.trans s3
  refine ⟨_,rfl,rl2,rl,_,ro,rfl,rfl,SqL.of hrl2,SqL.of (s03 _ _ hrl),?_,_,rfl,aI ?_⟩
  ·have aux:∀{rs:List Addr} {ro:List V},Paired (OvA H g.A.na) rs ro->Paired (λx y=>EqIs K 1 H3 x y true) (rs.map V.ref) ro:=λ{rs ro} z=>by
    induction z with
    | nil=>exact .nil
    | cons y _ ih =>
     obtain ⟨tt,rfl,y1,y2⟩:=y
     exact .cons (kf (K:=K) (n:=0) (SqT.of (s03 _ _ y1)) (SqT.of (s03 _ _ y2)) (.cons (eq_str 0 _) (.cons (qz 0) .nil))).1 ih
   exact aux pr
  have j3:=j2.keep s3
  have e2:((k:Nat):Int)+((ds.length:Nat):Int)=((g.ws.length:Nat):Int):=by
   have z1:=pd.len
   rw [List.length_drop] at z1
   omega
  refine ⟨_,rfl,_,rfl,dn,_,rfl,.inl (SqL.of (s03 _ _ hdn)),_,_,rfl,rfl,?_⟩
  show oj 8 (V.int (((k:Nat):Int)+((ds.length:Nat):Int))) _ _ _
  rw [e2]
  exact ⟨a,sl,el,us,cs,M,i,g,bl,n,_,_,rfl,j3,lw,s03 _ _ hel,nel,hi,nx⟩
 case v4 =>
  rintro D0 σ H ⟨a,sl,el,us,cs,M,i,g,bl,n,y12,y13,rfl,j,lw,hel,nel,hi,nx⟩
  have nxt:u4 CL CS CH CW K D0 (s45 a g sl bl M g.ws.length true (some (.int n)) y12 y13) H:=⟨a,sl,el,us,cs,M,i,g,bl,n,_,_,rfl,j,lw,hel,nel,hi,nx⟩
  refine ⟨_,rfl,_,_,rfl,rfl,(by show (0:Int)<4;decide),rfl,_,rfl,bv (λ_=>?_) (λ_=>aI nxt)⟩
  refine ⟨_,rfl,_,_,rfl,rfl,⟨ζ,ζ⟩,_,_,rfl,rfl,(by show (0:Int)<2;decide),rfl,_,rfl,bv (λ_=>?_) (λ_=>nxt)⟩
  refine ⟨_,rfl,g.A.l,g.A.dx,_,rfl,j.lg.ld.ins,aT θ,_,rfl,g,rfl,j.lg,.inl ⟨(λz=>by rw [j.nm] at z;cases z),.inl ⟨j.ec,j.nm,?_⟩⟩⟩
  refine bu j.lg j.ok ω j.sm j.en j.rw.p λsg' d' rs' v' ws' H3 lg3 k3 e1 sm3 rw3 pe3 l1 l2=>?_
  have ts:=j.ts k3
  exact nx _ _ ⟨_,_,_,{g with sg:=sg',d:=d',rs:=rs',v:=v',ws:=ws'},bl,g.ws.length,true,rfl,⟨lg3,k3 _ _ j.nz j.hz,j.nz,Paired.mapP j.st λ_ _ z=>z.keep ts,k3 _ _ j.nb j.hb,j.nb,j.ok,e1.trans j.en,sm3,j.ec,j.nm,rw3⟩,pe3,l1,by show ws'.length<=21+(i+1);omega,k3 _ _ nel hel,nel⟩
 case v8 =>
  rintro D0 σ H ⟨a,sl,el,us,cs,M,i,g,bl,n,y12,y13,rfl,j,lw,hel,nel,hi,nx⟩
  refine ⟨_,rfl,_,_,rfl,rfl,(by show (0:Int)<4;decide),_,_,rfl,rfl,_,rfl,bv (λc=>?_) (λc=>?_)⟩
  ·have c2:n%4<2:=Ξ c
   refine ⟨_,rfl,χ,λe0 he0=>?_⟩
   have s1:=aj (o:=.lst []) he0
   refine ⟨bl,e0,_,rfl,rfl,SqL.of (s1 _ _ j.hb),SqL.of ae,?_⟩
   refine ⟨a,sl,el,us,cs,M,i,g,bl,n,_,_,_,rfl,?_,j.keep s1,lw,s1 _ _ hel,nel,hi,nx⟩
   by_cases e:g.ks=[]
   ·rw [e,Γ (λz:n%4<2/\([]:List Int)≠[]=>z.2 rfl)]
    rfl
   ·have ne':g.ks.reverse.map V.int≠[]:=λy=>e (by simpa using y)
    rw [Γ ne',τ ⟨c2,e⟩]
    rfl
  ·have c2:¬n%4<2:=λz=>c (τ z)
   refine ⟨a,sl,el,us,cs,M,i,g,bl,n,_,_,_,rfl,?_,j,lw,hel,nel,hi,nx⟩
   exact (Γ λz=>c2 z.1).symm
 case v7 =>
  rintro D0 σ H ⟨a,sl,el,us,cs,M,i,g,bl,n,m,y12,y13,rfl,em,j,lw,hel,nel,hi,nx⟩
  refine ⟨_,rfl,_,rfl,_,rfl,_,rfl,_,rfl,g,sl,bl,us,n,rfl,j.lg,j.ec,j.nm,j.hz,j.st,j.hb,j.ok,?_⟩
  by_cases hc:n%4<2/\g.ks≠[]
  ·have em':m=true:=em.trans (τ hc)
   subst em'
   obtain ⟨k0,jj,ek⟩:=(gf g.ks).resolve_left hc.2
   have ok0:KsOk g.xs k0:=(show KsOk g.xs (k0++[jj]) by rw [← ek];exact j.ok).sub
   refine .inl ⟨hc.1,k0,jj,ek,λH1 lg1 k1=>.inl ⟨j.ec,j.nm,?_⟩⟩
   have rw0:RwP H1 {g with ks:=k0}:=.inr (j.rw.resolve_left λz=>hc.2 z.1).2
   refine bu lg1 ok0 (by show g.ws.length<=900;omega) j.sm j.en rw0 λsg' d' rs' v' ws' H3 lg3 k3 e1 sm3 rw3 pe3 l1 l2=>?_
   have kk:KpG g H H3:=k1.trans k3
   have ts:=j.ts kk
   have hb3:=kk _ _ j.nb j.hb
   rw [ek,iT] at hb3
   have l3:g.ws.length<=ws'.length:=l1
   have l4:ws'.length<=g.ws.length+1:=l2
   refine ⟨_,rfl,true,rfl,aW ⟨_,rfl,_,rfl,bl,_,rfl,SqL.of hb3,λb2 hb2=>?_⟩⟩
   have e9:g8 (V.int jj::k0.reverse.map V.int) (some 1) none=k0.reverse.map V.int:=ot (V.int jj::k0.reverse.map V.int) 1 (by simp)
   rw [e9]
   have s4:=aj (o:=.lst (k0.reverse.map V.int)) hb2
   have nb2:b2∉cO g.A g.ag g.S g.h:=gu lg3 hb2
   have ts4:bh H _:=λb xs e=>s4 _ _ (ts b xs e)
   exact nx _ _ ⟨_,_,_,{g with ks:=k0,sg:=sg',d:=d',rs:=rs',v:=v',ws:=ws'},b2,g.ws.length,true,rfl,⟨lg3.keep s4,s4 _ _ (kk _ _ j.nz j.hz),j.nz,Paired.mapP j.st λ_ _ z=>z.keep ts4,ae,nb2,ok0,e1.trans j.en,sm3,j.ec,j.nm,rw3.keep s4.ts⟩,pe3.keep s4.ts,l3,by show ws'.length<=21+(i+1);omega,s4 _ _ (kk _ _ nel hel),nel⟩
  ·have em':m=false:=em.trans (Γ hc)
   subst em'
   refine .inr ⟨hc,λH1 s1=>⟨_,rfl,false,rfl,aI ?_⟩⟩
   exact nx _ _ ⟨_,_,_,g,bl,g.ws.length,false,rfl,j.keep s1,.inl ⟨List.drop_of_length_le (ι _),.inl rfl⟩,ι _,ω,s1 _ _ hel,nel⟩
 have hz:(100000:Nat)<=sizeLine:=by decide
 refine ⟨_,rfl,a,ns,0,rfl,hS,_,_,rfl,rfl,(by show (0:Int)<5;decide),_,rfl,a,ns,0,rfl,hS,_,_,rfl,rfl,⟨ζ,ζ⟩,_,_,rfl,rfl,⟨ζ,ζ,ζ⟩,_,_,rfl,rfl,(by show (0:Int)<10 ^ 9;decide +kernel),χ,λna hna=>?_⟩
 obtain ⟨p,ep⟩:∃p:Pa,p=(bb ns 0%5,bb ns 0/5%10 ^ 9):=⟨_,rfl⟩
 have s0:=aj (o:=.tup [.int (bb ns 0%5),.int (bb ns 0/5%10 ^ 9)]) hna
 have na0:(upd H na (.tup [.int (bb ns 0%5),.int (bb ns 0/5%10 ^ 9)])) na=some (.tup [.int p.1,.int p.2]):=by rw [ep];exact ae
 have e00:(upd H na (HO.tup [V.int (bb ns 0%5),V.int (bb ns 0/5%10 ^ Int.toNat 9)]))=(upd H na (.tup [.int (bb ns 0%5),.int (bb ns 0/5%10 ^ 9)])):=rfl
 erw [e00]
 generalize (upd H na (HO.tup [.int (bb ns 0%5),.int (bb ns 0/5%10 ^ 9)]))=H0 at s0 na0 ⊢
 refine ⟨_,rfl,a,ns,rfl,s0.seq hS,λsl xs us H1 s1 nsl hsl pst n1 n12=>?_⟩
 have pl:xs.length=us.length:=pst.len
 have ar:ArS xs:=λx hx=>by
  obtain ⟨i,ei⟩:=List.mem_iff_getElem?.mp hx
  obtain ⟨u,_,_,_,_,_,h2,_⟩:=pst.get1 ei
  exact h2
 refine ⟨_,rfl,rfl,_,rfl,sl,rfl,⟨_,SqL.of hsl⟩,?_⟩
 refine mv (xs:=us) (λi ys H'=>H'=H1/\ys=((xs.take i).map sx).map V.str) ⟨rfl,rfl⟩ ω (λi ys H' _ z=>by rw [z.1];exact SqL.of hsl) ?_ ?_
 ·rintro i u ys H' hu ⟨rfl,rfl⟩
  obtain ⟨x,ex,tt,am,rfl,h1,_⟩:=pst.get hu
  have et:xs.take (i+1)=xs.take i++[x]:=by rw [List.take_add_one,ex];rfl
  refine kN ⟨_,rfl,tt,_,_,_,rfl,rfl,SqT.of h1,St.at2,rfl,?_⟩
  rw [et,List.map_append,List.map_append]
  rfl
 rintro ys H6' ⟨rfl,rfl⟩ jl hjl
 rw [← pl,List.take_length]
 have s6:=aj (o:=.lst ((xs.map sx).map V.str)) hjl
 have l2:(Str.ofString "; ").length=2:=by decide +kernel
 have l5:(Str.ofString "walked ").length=7:=by decide +kernel
 have sm:=sw ar
 have js:=jX ar ω
 refine ⟨_,jl,xs.map sx,rfl,rfl,SqL.of ae,by rw [l2,List.length_map];omega,?_⟩
 refine ⟨_,_,rfl,rfl,by rw [l5];omega,?_⟩
 refine ⟨true,xs,by rw [oC];rfl,ar,List.length_pos_iff.mp n1,n12,λpa pdx psl ptp pus H7 s7 _ pau=>?_⟩
 have s17:=s6.trans s7
 have s07:=s1.trans s17
 intro x dx nx ndx nex
 have s8':∀{o1 o2:HO},Same H7 (upd (upd H7 dx o1) x o2):=λ{o1 o2}=>ms nx ndx
 refine ⟨x,dx,na,_,p,true,xs,rfl,ae,s8' _ _ (s07 _ _ na0),⟨pa,pdx,psl,ptp,pus,rfl,pau.keep s8'⟩,ar,n12,λA ag hs' H8 eA eN ld hag his' nhd nag nah k8=>⟨rfl,?_⟩⟩
 have s8:Same H7 H8:=fT nx ndx k8
 subst eA eN
 have nhd7:=none_of s8' nhd
 have nag7:=none_of s8' nag
 refine ⟨χ,λcl hcl=>?_⟩
 have s9:=aj (o:=.lst [.int 0]) hcl
 have hcl9:=ae (H:=H8) (a:=cl) (o:=.lst [.int 0])
 generalize (upd H8 cl (HO.lst [.int 0]))=H9 at s9 hcl9 ⊢
 intro x1 dx1 nx1 ndx1 nex1
 have s10':∀{o1 o2:HO},Same H9 (upd (upd H9 dx1 o1) x1 o2):=λ{o1 o2}=>ms nx1 ndx1
 refine ⟨x1,dx1,cl,[0],rfl,ae,s10' _ _ hcl9,(by show 1<=1000;decide),λS H10 eS st10 fr10 k10=>⟨rfl,?_⟩⟩
 subst eS
 have s10:Same H9 H10:=fT nx1 ndx1 k10
 intro x2 dx2 nx2 ndx2 nex2
 have s11':∀{o1 o2:HO},Same H10 (upd (upd H10 dx2 o1) x2 o2):=λ{o1 o2}=>ms nx2 ndx2
 refine ⟨x2,dx2,S,Sd.new [0],rfl,ae,st10.keep s11',ah st10.ins nx2,λh H11 eh sh11 nrw nsn k11=>⟨rfl,?_⟩⟩
 subst eh
 have s11:Same H10 H11:=fT nx2 ndx2 k11
 have s811:=s9.trans (s10.trans s11)
 have s711:=s8.trans s811
 have fr8:∀b∈S.l::h.own S,H8 b=none:=λb hb=>by
  rcases List.mem_cons.mp hb with z | hb
  ·rw [z];exact none_of s9 nx1
  rcases List.mem_cons.mp hb with z | hb
  ·rw [z];exact none_of (s9.trans s10) nx2
  rcases List.mem_cons.mp hb with z | hb
  ·rw [z];exact none_of (s9.trans (s10.trans s11')) nrw
  rcases List.mem_cons.mp hb with z | hb
  ·rw [z];exact none_of (s9.trans (s10.trans s11')) nsn
  ·exact none_of (s9.trans s10') (fr10 b hb)
 have out:∀{b:Addr} {o:HO},H8 b=some o->b∉S.l::h.own S:=λe hb=>by
  rw [fr8 _ hb] at e
  cases e
 have fr7:∀b∈cO A ag S h,H7 b=none:=λb hb=>by
  rcases List.mem_cons.mp hb with z | hb
  ·rw [z];exact nx
  rcases List.mem_cons.mp hb with z | hb
  ·rw [z];exact nhd7
  rcases List.mem_cons.mp hb with z | hb
  ·rw [z];exact nag7
  ·exact none_of s8 (fr8 b (.tail _ hb))
 have lg:Lg CL CS CH CW K H11 ⟨A,ag,S,h,p,xs,hs',[],0,.non,false,false,gJ xs,Sd.new [0],[],[],.non⟩:=⟨ld.keep s811,s811 _ _ hag,sh11,out ld.ins,out ld.han,out hag,nah⟩
 refine ⟨_,rfl,sl,xs,us,rfl,s711 _ _ (s17 _ _ hsl),Paired.mapP pst λ_ _ z=>z.keep (s17.trans s711).ts,n12,λbl H12 s12 nbl hbl=>?_⟩
 have lg12:=lg.keep s12
 have nbl':bl∉cO A ag S h:=gu lg nbl
 have s712:=s711.trans s12
 have nsl7:sl∉cO A ag S h:=λy=>by
  have e:=s17 _ _ hsl
  rw [fr7 _ y] at e
  cases e
 have scr12:Scr K H12 a (ns.map V.int) (cO A ag S h):=(Scr.mk hS λb hb=>none_of (s0.trans s07) (fr7 b hb)).same ((s0.trans s07).trans s712)
 have hbl':((gJ xs).reverse.map V.int).length=(gJ xs).length:=by rw [List.length_map,List.length_reverse]
 have ul:(gJ xs).length<=12:=Λ (mR xs (aD xs)) (Λ (gl xs) n12)
 refine ⟨_,rfl,a,ns,0,rfl,scr12.seq,_,_,rfl,rfl,⟨ζ,ζ⟩,_,rfl,bl,_,rfl,.inl (SqL.of hbl),_,_,rfl,rfl,?_⟩
 rw [hbl']
 have mp:(0:Int)<(((gJ xs).length:Nat):Int)+1:=by omega
 refine ⟨_,_,rfl,rfl,mp,?_⟩
 have m0:=Int.emod_nonneg (bb ns 0/7) (Int.ne_of_gt mp)
 have m1:=Int.emod_lt_of_pos (bb ns 0/7) mp
 obtain ⟨m,em⟩:∃m:Nat,bb ns 0/7%((((gJ xs).length:Nat):Int)+1)=m:=⟨(bb ns 0/7%((((gJ xs).length:Nat):Int)+1)).toNat,ω⟩
 show oj 6 (V.int (bb ns 0/7%((((gJ xs).length:Nat):Int)+1))) _ _ _
 rw [em]
 refine ⟨_,rfl,_,rfl,_,rfl,_,rfl,_,rfl,⟨A,ag,S,h,p,xs,hs',[],0,.non,false,false,gJ xs,Sd.new [0],[],[],.non⟩,sl,us,m,a,ns,rfl,lg12,scr12,s712 _ _ (s17 _ _ hsl),nsl7,Paired.mapP pst λ_ _ z=>z.keep (s17.trans s712).ts,rfl,rfl,rfl,rfl,rfl,rfl,ω,λH13=>?_,λys tn ws H13 lg13 lw k13=>?_⟩
 ·refine ⟨_,rfl,rfl,_,rfl,?_⟩
  rw [Γ (λz=>by cases z)]
  exact aW (aW ⟨_,rfl,rfl,q _⟩)
 ·refine ⟨_,rfl,rfl,_,rfl,?_⟩
  rw [τ rfl]
  refine aI ⟨_,rfl,h.l,h.dx,_,rfl,lg13.sh.ins,ip θ,S,h,Sd.new [0],[],ws,.non,rfl,lg13.sh,λrl H14 s14 nrl hrl=>⟨χ,λe5 he5=>?_⟩⟩
  have s15:=aj (o:=.lst []) he5
  refine ⟨rl,e5,_,rfl,rfl,SqL.of (s15 _ _ hrl),SqL.of ae,_,rfl,aI ?_⟩
  have s1315:=s14.trans s15
  have kk:KpA A ag S h H12 _:=k13.trans (KpA.of s1315)
  have ts:=LSh.ts lg12 kk
  exact ⟨a,ns,sl,us,_,⟨A,ag,S,h,p,xs,hs',ys,tn,.str "broken",false,false,gJ xs,Sd.new [0],[],ws,.non⟩,bl,_,_,_,rfl,lg13.keep s1315,kk _ _ nsl7 (s712 _ _ (s17 _ _ hsl)),nsl7,Paired.mapP pst λ_ _ z=>(z.keep (s17.trans s712).ts).keep ts,kk _ _ nbl' hbl,nbl',vE ar,rfl,⟨Nat.zero_le _,Nat.zero_le _,Nat.zero_le _,Nat.zero_le _,Nat.zero_le _,Nat.zero_le _⟩,rfl,rfl,rfl,lw,scr12.kp kk,q⟩
end
end K45
namespace K45
open PySem L2 Lo St
def wmk(a b c d e f g:Addr):Wd->Addr
 | .take=>a
 | .mean=>b
 | .sum=>c
 | .give=>d
 | .add=>e
 | .plus=>f
 | .need=>g
abbrev bmV:List Value:=[.type "ValueError",.type "Exception",.type "BaseException",.type "object"]
def FnX(K:Frag)(f:Addr)(x q:Str)(st:Stmt):Prop:=∃fd,Fun K x q st f fd
theorem fnx{K:Frag}{f:Addr}{x q:Str}{st:Stmt}{oc kV dc pm cd ct:Value}{od an:Option Addr}{sl:Array (Option Value)}(l:K.lookup f=some ⟨oc,od,.func (PySem.W.fnOf x q (defArgs st) (defBody st) (defScope st) .none kV dc pm an cd ct),sl⟩)(c:PySem.W.codeIn K cd q=true)(k:PySem.W.keepIn K (.ref f)=true):FnX K f x q st:=⟨_,zq l c k⟩
section
variable {K:Frag}{f:Addr}{x q:Str}{st:Stmt}{fd:FuncData}
abbrev BdF(x q:Str)(st:Stmt)(us:List Value)(ps:List Str):Prop:=∀(kV doc pm:Value) (an:Option Addr) (cdv ct:Value),bindArgs (PySem.W.fnOf x q (defArgs st) (defBody st) (defScope st) .none kV doc pm an cdv ct) ⟨us,[]⟩=pure (ps.zip us)
theorem _root_.L2.Fun.b1(F:Fun K x q st f fd)(p:Str)(h:∀u,BdF x q st [u] [p]):Binds K fd [p] []:=F.binds λa b c d e g us hl=>match us,hl with | [u],_=>h u a b c d e g
theorem _root_.L2.Fun.b2(F:Fun K x q st f fd)(p r:Str)(h:∀u v,BdF x q st [u,v] [p,r]):Binds K fd [p,r] []:=F.binds λa b c d e g us hl=>match us,hl with | [u,v],_=>h u v a b c d e g
theorem _root_.L2.Fun.b3(F:Fun K x q st f fd)(p r s:Str)(h:∀u v w,BdF x q st [u,v,w] [p,r,s]):Binds K fd [p,r,s] []:=F.binds λa b c d e g us hl=>match us,hl with | [u,v,w],_=>h u v w a b c d e g
theorem _root_.L2.Fun.b4(F:Fun K x q st f fd)(p r s t:Str)(h:∀u v w y,BdF x q st [u,v,w,y] [p,r,s,t]):Binds K fd [p,r,s,t] []:=F.binds λa b c d e g us hl=>match us,hl with | [u,v,w,y],_=>h u v w y a b c d e g
theorem _root_.L2.Fun.b5(F:Fun K x q st f fd)(p r s t m:Str)(h:∀u v w y z,BdF x q st [u,v,w,y,z] [p,r,s,t,m]):Binds K fd [p,r,s,t,m] []:=F.binds λa b c d e g us hl=>match us,hl with | [u,v,w,y,z],_=>h u v w y z a b c d e g
end
open PySem.W (readsIn findCls fnOf codeIn handedIn findIn nsIn keepIn isFn plainGet hasDictIn plainOver makesIn mroIn kitOne specialIn takesIn excIn mg_of mg_none_of)
theorem all_mk {l : PySem.W.OpenLaw} {w : World} {K : Frag} {h : Heap} {mg : Str → Option Value} {fa CRd fri frp fra frb frn frx WA fxiY fxhY fxpA fxsZ fxdA WB fxpB fxdB WD fxiD fxhD fxpD fxdD WE fxpE fxsE fxdE WF fxiF fxpF fxdF WG fxiG fxhZ fxpG fxdG WN fxiN fxpN fxdN CY CP fpi CS fsdI fsdK fsdC fsdN CH fshI fshR fshS fshW fshL CL fleT fleG fleE fleN fleO fleX fleP fleS fleA fheI fheG fheC fheK fheU fheR fheF fheB CA fleI fW1 fH1 fR1 fG1 fP1 fS1 fN1 fM1 fU1 fA3 fB3 fC3 fD3 fV1 fA2 fM2 fS2 fT2 fL2 fP2 fD2 fB2 fY2 fC2 fZ aSh aMn CNo CN : Addr} (X : K.In h) (G : h.Ns mainGlobals mg) (hfa : mg "law" = some (.ref fa))
     {t_MOST_FIGURES_things t_MOST_SIGNS t_MOST_DEEP t_LONGEST t_BLANK t_PERCENT t_TILDE t_MOST_FIGURES_steps t_MOST_STEPS t_PATIENCE:Tok} {esR:Array DictEntry} {epR:Nat} {dMn:Option Addr} {mn1 mn2:Tok} {nMn:Nat} {sMn:Array (Option Value)}
  (nrd:nsIn K mainGlobals "Reader"=some (some (.ref CRd)))
  (pgrd:plainGet K CRd Str.empty=true)
  (hdrd:hasDictIn K CRd=true)
  (pord:plainOver K CRd=true)
  (sard:findIn K (.ref CRd) "__setattr__"=some (some (.builtin "object.__setattr__")))
  (mkrd:makesIn K CRd=true)
  (kcrd:keepIn K (.ref CRd)=true)
  (nTx:findIn K (.ref CRd) "text"=some none)
  (nPl:findIn K (.ref CRd) "place"=some none)
  (ari:findIn K (.ref CRd) "__init__"=some (some (.ref fri)))
  (jri:isFn K (.ref fri)=true)
  (lri:FnX K fri "__init__" "Reader.__init__" gH)
  (arp:findIn K (.ref CRd) "passes"=some (some (.ref frp)))
  (jrp:isFn K (.ref frp)=true)
  (lrp:FnX K frp "passes" "Reader.passes" fm)
  (ara:findIn K (.ref CRd) "read_any"=some (some (.ref fra)))
  (jra:isFn K (.ref fra)=true)
  (lra:FnX K fra "read_any" "Reader.read_any" dX)
  (arb:findIn K (.ref CRd) "read_below"=some (some (.ref frb)))
  (jrb:isFn K (.ref frb)=true)
  (lrb:FnX K frb "read_below" "Reader.read_below" dm)
  (arn:findIn K (.ref CRd) "read_number"=some (some (.ref frn)))
  (jrn:isFn K (.ref frn)=true)
  (lrn:FnX K frn "read_number" "Reader.read_number" c9)
  (arx:findIn K (.ref CRd) "read_signs"=some (some (.ref frx)))
  (jrx:isFn K (.ref frx)=true)
  (lrx:FnX K frx "read_signs" "Reader.read_signs" dk)
  (nwA:nsIn K mainGlobals "TakeStep"=some (some (.ref WA)))
  (pgwA:plainGet K WA Str.empty=true)
  (hdwA:hasDictIn K WA=true)
  (powA:plainOver K WA=true)
  (sawA:findIn K (.ref WA) "__setattr__"=some (some (.builtin "object.__setattr__")))
  (mkwA:makesIn K WA=true)
  (kcwA:keepIn K (.ref WA)=true)
  (nWwA:findIn K (.ref WA) "where"=some none)
  (nCwA:findIn K (.ref WA) "cell"=some none)
  (nLwA:findIn K (.ref WA) "low"=some none)
  (nHwA:findIn K (.ref WA) "high"=some none)
  (nAwA:findIn K (.ref WA) "amount"=some none)
  (uxiYA:findIn K (.ref WA) "__init__"=some (some (.ref fxiY)))
  (jxiY:isFn K (.ref fxiY)=true)
  (lxiY:FnX K fxiY "__init__" "CellStep.__init__" di)
  (uxhYA:findIn K (.ref WA) "house"=some (some (.ref fxhY)))
  (jxhY:isFn K (.ref fxhY)=true)
  (lxhY:FnX K fxhY "house" "CellStep.house" cX)
  (uxpAA:findIn K (.ref WA) "spelled"=some (some (.ref fxpA)))
  (jxpA:isFn K (.ref fxpA)=true)
  (lxpA:FnX K fxpA "spelled" "TakeStep.spelled" cw)
  (uxsZA:findIn K (.ref WA) "sure"=some (some (.ref fxsZ)))
  (jxsZ:isFn K (.ref fxsZ)=true)
  (lxsZ:FnX K fxsZ "sure" "Step.sure" fV)
  (uxdAA:findIn K (.ref WA) "step_done"=some (some (.ref fxdA)))
  (jxdA:isFn K (.ref fxdA)=true)
  (lxdA:FnX K fxdA "step_done" "TakeStep.step_done" fU)
  (nwB:nsIn K mainGlobals "MeanStep"=some (some (.ref WB)))
  (pgwB:plainGet K WB Str.empty=true)
  (hdwB:hasDictIn K WB=true)
  (powB:plainOver K WB=true)
  (sawB:findIn K (.ref WB) "__setattr__"=some (some (.builtin "object.__setattr__")))
  (mkwB:makesIn K WB=true)
  (kcwB:keepIn K (.ref WB)=true)
  (nWwB:findIn K (.ref WB) "where"=some none)
  (nCwB:findIn K (.ref WB) "cell"=some none)
  (nLwB:findIn K (.ref WB) "low"=some none)
  (nHwB:findIn K (.ref WB) "high"=some none)
  (nAwB:findIn K (.ref WB) "amount"=some none)
  (uxiYB:findIn K (.ref WB) "__init__"=some (some (.ref fxiY)))
  (uxhYB:findIn K (.ref WB) "house"=some (some (.ref fxhY)))
  (uxpBB:findIn K (.ref WB) "spelled"=some (some (.ref fxpB)))
  (jxpB:isFn K (.ref fxpB)=true)
  (lxpB:FnX K fxpB "spelled" "MeanStep.spelled" cB)
  (uxsZB:findIn K (.ref WB) "sure"=some (some (.ref fxsZ)))
  (uxdBB:findIn K (.ref WB) "step_done"=some (some (.ref fxdB)))
  (jxdB:isFn K (.ref fxdB)=true)
  (lxdB:FnX K fxdB "step_done" "MeanStep.step_done" f6)
  (nwD:nsIn K mainGlobals "SumStep"=some (some (.ref WD)))
  (pgwD:plainGet K WD Str.empty=true)
  (hdwD:hasDictIn K WD=true)
  (powD:plainOver K WD=true)
  (sawD:findIn K (.ref WD) "__setattr__"=some (some (.builtin "object.__setattr__")))
  (mkwD:makesIn K WD=true)
  (kcwD:keepIn K (.ref WD)=true)
  (nWwD:findIn K (.ref WD) "where"=some none)
  (nCwD:findIn K (.ref WD) "cell"=some none)
  (nLwD:findIn K (.ref WD) "low"=some none)
  (nHwD:findIn K (.ref WD) "high"=some none)
  (nAwD:findIn K (.ref WD) "amount"=some none)
  (uxiDD:findIn K (.ref WD) "__init__"=some (some (.ref fxiD)))
  (jxiD:isFn K (.ref fxiD)=true)
  (lxiD:FnX K fxiD "__init__" "SumStep.__init__" dF)
  (uxhDD:findIn K (.ref WD) "house"=some (some (.ref fxhD)))
  (jxhD:isFn K (.ref fxhD)=true)
  (lxhD:FnX K fxhD "house" "SumStep.house" db)
  (uxpDD:findIn K (.ref WD) "spelled"=some (some (.ref fxpD)))
  (jxpD:isFn K (.ref fxpD)=true)
  (lxpD:FnX K fxpD "spelled" "SumStep.spelled" cJ)
  (uxsZD:findIn K (.ref WD) "sure"=some (some (.ref fxsZ)))
  (uxdDD:findIn K (.ref WD) "step_done"=some (some (.ref fxdD)))
  (jxdD:isFn K (.ref fxdD)=true)
  (lxdD:FnX K fxdD "step_done" "SumStep.step_done" gC)
  (nwE:nsIn K mainGlobals "GiveStep"=some (some (.ref WE)))
  (pgwE:plainGet K WE Str.empty=true)
  (hdwE:hasDictIn K WE=true)
  (powE:plainOver K WE=true)
  (sawE:findIn K (.ref WE) "__setattr__"=some (some (.builtin "object.__setattr__")))
  (mkwE:makesIn K WE=true)
  (kcwE:keepIn K (.ref WE)=true)
  (nWwE:findIn K (.ref WE) "where"=some none)
  (nCwE:findIn K (.ref WE) "cell"=some none)
  (nLwE:findIn K (.ref WE) "low"=some none)
  (nHwE:findIn K (.ref WE) "high"=some none)
  (nAwE:findIn K (.ref WE) "amount"=some none)
  (uxiYE:findIn K (.ref WE) "__init__"=some (some (.ref fxiY)))
  (uxhYE:findIn K (.ref WE) "house"=some (some (.ref fxhY)))
  (uxpEE:findIn K (.ref WE) "spelled"=some (some (.ref fxpE)))
  (jxpE:isFn K (.ref fxpE)=true)
  (lxpE:FnX K fxpE "spelled" "GiveStep.spelled" cC)
  (uxsEE:findIn K (.ref WE) "sure"=some (some (.ref fxsE)))
  (jxsE:isFn K (.ref fxsE)=true)
  (lxsE:FnX K fxsE "sure" "GiveStep.sure" dh)
  (uxdEE:findIn K (.ref WE) "step_done"=some (some (.ref fxdE)))
  (jxdE:isFn K (.ref fxdE)=true)
  (lxdE:FnX K fxdE "step_done" "GiveStep.step_done" f9)
  (nwF:nsIn K mainGlobals "AddStep"=some (some (.ref WF)))
  (pgwF:plainGet K WF Str.empty=true)
  (hdwF:hasDictIn K WF=true)
  (powF:plainOver K WF=true)
  (sawF:findIn K (.ref WF) "__setattr__"=some (some (.builtin "object.__setattr__")))
  (mkwF:makesIn K WF=true)
  (kcwF:keepIn K (.ref WF)=true)
  (nWwF:findIn K (.ref WF) "where"=some none)
  (nCwF:findIn K (.ref WF) "cell"=some none)
  (nLwF:findIn K (.ref WF) "low"=some none)
  (nHwF:findIn K (.ref WF) "high"=some none)
  (nAwF:findIn K (.ref WF) "amount"=some none)
  (uxiFF:findIn K (.ref WF) "__init__"=some (some (.ref fxiF)))
  (jxiF:isFn K (.ref fxiF)=true)
  (lxiF:FnX K fxiF "__init__" "AddStep.__init__" dH)
  (uxhYF:findIn K (.ref WF) "house"=some (some (.ref fxhY)))
  (uxpFF:findIn K (.ref WF) "spelled"=some (some (.ref fxpF)))
  (jxpF:isFn K (.ref fxpF)=true)
  (lxpF:FnX K fxpF "spelled" "AddStep.spelled" cN)
  (uxsZF:findIn K (.ref WF) "sure"=some (some (.ref fxsZ)))
  (uxdFF:findIn K (.ref WF) "step_done"=some (some (.ref fxdF)))
  (jxdF:isFn K (.ref fxdF)=true)
  (lxdF:FnX K fxdF "step_done" "AddStep.step_done" gD)
  (nwG:nsIn K mainGlobals "PlusStep"=some (some (.ref WG)))
  (pgwG:plainGet K WG Str.empty=true)
  (hdwG:hasDictIn K WG=true)
  (powG:plainOver K WG=true)
  (sawG:findIn K (.ref WG) "__setattr__"=some (some (.builtin "object.__setattr__")))
  (mkwG:makesIn K WG=true)
  (kcwG:keepIn K (.ref WG)=true)
  (nWwG:findIn K (.ref WG) "where"=some none)
  (nCwG:findIn K (.ref WG) "cell"=some none)
  (nLwG:findIn K (.ref WG) "low"=some none)
  (nHwG:findIn K (.ref WG) "high"=some none)
  (nAwG:findIn K (.ref WG) "amount"=some none)
  (uxiGG:findIn K (.ref WG) "__init__"=some (some (.ref fxiG)))
  (jxiG:isFn K (.ref fxiG)=true)
  (lxiG:FnX K fxiG "__init__" "PlusStep.__init__" df)
  (uxhZG:findIn K (.ref WG) "house"=some (some (.ref fxhZ)))
  (jxhZ:isFn K (.ref fxhZ)=true)
  (lxhZ:FnX K fxhZ "house" "Step.house" eW)
  (uxpGG:findIn K (.ref WG) "spelled"=some (some (.ref fxpG)))
  (jxpG:isFn K (.ref fxpG)=true)
  (lxpG:FnX K fxpG "spelled" "PlusStep.spelled" cz)
  (uxsZG:findIn K (.ref WG) "sure"=some (some (.ref fxsZ)))
  (uxdGG:findIn K (.ref WG) "step_done"=some (some (.ref fxdG)))
  (jxdG:isFn K (.ref fxdG)=true)
  (lxdG:FnX K fxdG "step_done" "PlusStep.step_done" ci)
  (nwN:nsIn K mainGlobals "NeedStep"=some (some (.ref WN)))
  (pgwN:plainGet K WN Str.empty=true)
  (hdwN:hasDictIn K WN=true)
  (powN:plainOver K WN=true)
  (sawN:findIn K (.ref WN) "__setattr__"=some (some (.builtin "object.__setattr__")))
  (mkwN:makesIn K WN=true)
  (kcwN:keepIn K (.ref WN)=true)
  (nWwN:findIn K (.ref WN) "where"=some none)
  (nCwN:findIn K (.ref WN) "cell"=some none)
  (nLwN:findIn K (.ref WN) "low"=some none)
  (nHwN:findIn K (.ref WN) "high"=some none)
  (nAwN:findIn K (.ref WN) "amount"=some none)
  (uxiNN:findIn K (.ref WN) "__init__"=some (some (.ref fxiN)))
  (jxiN:isFn K (.ref fxiN)=true)
  (lxiN:FnX K fxiN "__init__" "NeedStep.__init__" dg)
  (uxhZN:findIn K (.ref WN) "house"=some (some (.ref fxhZ)))
  (uxpNN:findIn K (.ref WN) "spelled"=some (some (.ref fxpN)))
  (jxpN:isFn K (.ref fxpN)=true)
  (lxpN:FnX K fxpN "spelled" "NeedStep.spelled" cA)
  (uxsZN:findIn K (.ref WN) "sure"=some (some (.ref fxsZ)))
  (uxdNN:findIn K (.ref WN) "step_done"=some (some (.ref fxdN)))
  (jxdN:isFn K (.ref fxdN)=true)
  (lxdN:FnX K fxdN "step_done" "NeedStep.step_done" cj)
  (nCY:nsIn K mainGlobals "CellStep"=some (some (.ref CY)))
  (gaY:specialIn K (.ref CY) "__getattribute__"=some (some (.builtin "type.__getattribute__")))
  (rdY:readsIn K CY (.type "type")=true)
  (fcY:findCls K (.ref CY) (.type "type") "__init__"=some (.val (.ref fxiY)))
  (hiY:handedIn (.ref fxiY)=true)
  (nP:nsIn K mainGlobals "Pact"=some (some (.ref CP)))
  (pgP:plainGet K CP Str.empty=true)
  (hdP:hasDictIn K CP=true)
  (poP:plainOver K CP=true)
  (saP:findIn K (.ref CP) "__setattr__"=some (some (.builtin "object.__setattr__")))
  (mkP:makesIn K CP=true)
  (kcP:keepIn K (.ref CP)=true)
  (nPm:findIn K (.ref CP) "manner"=some none)
  (nPs:findIn K (.ref CP) "steps"=some none)
  (nPp:findIn K (.ref CP) "parts"=some none)
  (api:findIn K (.ref CP) "__init__"=some (some (.ref fpi)))
  (jpi:isFn K (.ref fpi)=true)
  (lpi:FnX K fpi "__init__" "Pact.__init__" fY)
  (nS:nsIn K mainGlobals "Stand"=some (some (.ref CS)))
  (pgS:plainGet K CS Str.empty=true)
  (hdS:hasDictIn K CS=true)
  (poS:plainOver K CS=true)
  (saS:findIn K (.ref CS) "__setattr__"=some (some (.builtin "object.__setattr__")))
  (mkS:makesIn K CS=true)
  (kcS:keepIn K (.ref CS)=true)
  (qsc:findIn K (.ref CS) "cells"=some none)
  (qsb:findIn K (.ref CS) "begins"=some none)
  (qsw:findIn K (.ref CS) "worked"=some none)
  (qsr:findIn K (.ref CS) "readies"=some none)
  (qse:findIn K (.ref CS) "ends"=some none)
  (qsa:findIn K (.ref CS) "walks"=some none)
  (qso:findIn K (.ref CS) "overs"=some none)
  (asdI:findIn K (.ref CS) "__init__"=some (some (.ref fsdI)))
  (jsdI:isFn K (.ref fsdI)=true)
  (lsdI:FnX K fsdI "__init__" "Stand.__init__" fe)
  (asdK:findIn K (.ref CS) "keep"=some (some (.ref fsdK)))
  (jsdK:isFn K (.ref fsdK)=true)
  (lsdK:FnX K fsdK "keep" "Stand.keep" fb)
  (asdC:findIn K (.ref CS) "changes_of"=some (some (.ref fsdC)))
  (jsdC:isFn K (.ref fsdC)=true)
  (lsdC:FnX K fsdC "changes_of" "Stand.changes_of" cy)
  (asdN:findIn K (.ref CS) "news"=some (some (.ref fsdN)))
  (jsdN:isFn K (.ref fsdN)=true)
  (lsdN:FnX K fsdN "news" "Stand.news" eX)
  (nH:nsIn K mainGlobals "Sheet"=some (some (.ref CH)))
  (pgH:plainGet K CH Str.empty=true)
  (hdH:hasDictIn K CH=true)
  (poH:plainOver K CH=true)
  (saH:findIn K (.ref CH) "__setattr__"=some (some (.builtin "object.__setattr__")))
  (mkH:makesIn K CH=true)
  (kcH:keepIn K (.ref CH)=true)
  (qhs:findIn K (.ref CH) "stand"=some none)
  (qhr:findIn K (.ref CH) "rows"=some none)
  (qhe:findIn K (.ref CH) "sent"=some none)
  (qhl:findIn K (.ref CH) "latest"=some none)
  (nKH:findIn K (.ref CH) "spelled"=some none)
  (ashI:findIn K (.ref CH) "__init__"=some (some (.ref fshI)))
  (jshI:isFn K (.ref fshI)=true)
  (lshI:FnX K fshI "__init__" "Sheet.__init__" fh)
  (ashR:findIn K (.ref CH) "row"=some (some (.ref fshR)))
  (jshR:isFn K (.ref fshR)=true)
  (lshR:FnX K fshR "row" "Sheet.row" fX)
  (ashS:findIn K (.ref CH) "send"=some (some (.ref fshS)))
  (jshS:isFn K (.ref fshS)=true)
  (lshS:FnX K fshS "send" "Sheet.send" fg)
  (ashW:findIn K (.ref CH) "rows_told"=some (some (.ref fshW)))
  (jshW:isFn K (.ref fshW)=true)
  (lshW:FnX K fshW "rows_told" "Sheet.rows_told" cK)
  (ashL:findIn K (.ref CH) "letters_told"=some (some (.ref fshL)))
  (jshL:isFn K (.ref fshL)=true)
  (lshL:FnX K fshL "letters_told" "Sheet.letters_told" be)
  (nL:nsIn K mainGlobals "WalkedLead"=some (some (.ref CL)))
  (pgL:plainGet K CL Str.empty=true)
  (hdL:hasDictIn K CL=true)
  (poL:plainOver K CL=true)
  (saL:findIn K (.ref CL) "__setattr__"=some (some (.builtin "object.__setattr__")))
  (mkL:makesIn K CL=true)
  (kcL:keepIn K (.ref CL)=true)
  (qan:findIn K (.ref CL) "name"=some none)
  (qas:findIn K (.ref CL) "steps"=some none)
  (qah:findIn K (.ref CL) "houses"=some none)
  (qad:findIn K (.ref CL) "hands"=some none)
  (qat:findIn K (.ref CL) "turns"=some none)
  (qam:findIn K (.ref CL) "named"=some none)
  (qac:findIn K (.ref CL) "closed"=some none)
  (qbd:findIn K (.ref CL) "bend"=some none)
  (qun:findIn K (.ref CL) "undoing"=some none)
  (qsg:findIn K (.ref CL) "signed"=some none)
  (nKL:findIn K (.ref CL) "spelled"=some none)
  (nSL:findIn K (.ref CL) "send"=some none)
  (aleT:findIn K (.ref CL) "turn"=some (some (.ref fleT)))
  (jleT:isFn K (.ref fleT)=true)
  (lleT:FnX K fleT "turn" "Lead.turn" f7)
  (aleG:findIn K (.ref CL) "go"=some (some (.ref fleG)))
  (jleG:isFn K (.ref fleG)=true)
  (lleG:FnX K fleG "go" "Lead.go" iQ)
  (aleE:findIn K (.ref CL) "end"=some (some (.ref fleE)))
  (jleE:isFn K (.ref fleE)=true)
  (lleE:FnX K fleE "end" "Lead.end" gY)
  (aleN:findIn K (.ref CL) "naming"=some (some (.ref fleN)))
  (jleN:isFn K (.ref fleN)=true)
  (lleN:FnX K fleN "naming" "Lead.naming" eC)
  (aleO:findIn K (.ref CL) "own_steps_done"=some (some (.ref fleO)))
  (jleO:isFn K (.ref fleO)=true)
  (lleO:FnX K fleO "own_steps_done" "Lead.own_steps_done" bZ)
  (aleX:findIn K (.ref CL) "next_house"=some (some (.ref fleX)))
  (jleX:isFn K (.ref fleX)=true)
  (lleX:FnX K fleX "next_house" "Lead.next_house" cL)
  (aleP:findIn K (.ref CL) "present_hand"=some (some (.ref fleP)))
  (jleP:isFn K (.ref fleP)=true)
  (lleP:FnX K fleP "present_hand" "Lead.present_hand" cq)
  (aleS:findIn K (.ref CL) "send_step"=some (some (.ref fleS)))
  (jleS:isFn K (.ref fleS)=true)
  (lleS:FnX K fleS "send_step" "Lead.send_step" cV)
  (aleA:findIn K (.ref CL) "is_answer"=some (some (.ref fleA)))
  (jleA:isFn K (.ref fleA)=true)
  (lleA:FnX K fleA "is_answer" "Lead.is_answer" cW)
  (aheI:findIn K (.ref CL) "__init__"=some (some (.ref fheI)))
  (jheI:isFn K (.ref fheI)=true)
  (lheI:FnX K fheI "__init__" "WalkedLead.__init__" bx)
  (aheG:findIn K (.ref CL) "go_ahead"=some (some (.ref fheG)))
  (jheG:isFn K (.ref fheG)=true)
  (lheG:FnX K fheG "go_ahead" "WalkedLead.go_ahead" bY)
  (aheC:findIn K (.ref CL) "came"=some (some (.ref fheC)))
  (jheC:isFn K (.ref fheC)=true)
  (lheC:FnX K fheC "came" "WalkedLead.came" cI)
  (aheK:findIn K (.ref CL) "is_walking"=some (some (.ref fheK)))
  (jheK:isFn K (.ref fheK)=true)
  (lheK:FnX K fheK "is_walking" "WalkedLead.is_walking" bM)
  (aheU:findIn K (.ref CL) "is_undoing"=some (some (.ref fheU)))
  (jheU:isFn K (.ref fheU)=true)
  (lheU:FnX K fheU "is_undoing" "WalkedLead.is_undoing" bO)
  (aheR:findIn K (.ref CL) "undo_rest"=some (some (.ref fheR)))
  (jheR:isFn K (.ref fheR)=true)
  (lheR:FnX K fheR "undo_rest" "WalkedLead.undo_rest" bT)
  (aheF:findIn K (.ref CL) "go_from_end"=some (some (.ref fheF)))
  (jheF:isFn K (.ref fheF)=true)
  (lheF:FnX K fheF "go_from_end" "WalkedLead.go_from_end" bE)
  (aheB:findIn K (.ref CL) "go_behind"=some (some (.ref fheB)))
  (jheB:isFn K (.ref fheB)=true)
  (lheB:FnX K fheB "go_behind" "WalkedLead.go_behind" bU)
  (nCA:nsIn K mainGlobals "Lead"=some (some (.ref CA)))
  (gaA:specialIn K (.ref CA) "__getattribute__"=some (some (.builtin "type.__getattribute__")))
  (rdA:readsIn K CA (.type "type")=true)
  (fcA:findCls K (.ref CA) (.type "type") "__init__"=some (.val (.ref fleI)))
  (hiA:handedIn (.ref fleI)=true)
  (jleI:isFn K (.ref fleI)=true)
  (lleI:FnX K fleI "__init__" "Lead.__init__" f8)
  (aW1:nsIn K mainGlobals "is_whole"=some (some (.ref fW1)))
  (lW1:FnX K fW1 "is_whole" "is_whole" jM)
  (aH1:nsIn K mainGlobals "shown"=some (some (.ref fH1)))
  (lH1:FnX K fH1 "shown" "shown" qf)
  (aR1:nsIn K mainGlobals "read_thing"=some (some (.ref fR1)))
  (lR1:FnX K fR1 "read_thing" "read_thing" ib)
  (aG1:nsIn K mainGlobals "is_sign"=some (some (.ref fG1)))
  (lG1:FnX K fG1 "is_sign" "is_sign" kQ)
  (aP1:nsIn K mainGlobals "spell"=some (some (.ref fP1)))
  (lP1:FnX K fP1 "spell" "spell" h9)
  (aS1:nsIn K mainGlobals "read_step"=some (some (.ref fS1)))
  (lS1:FnX K fS1 "read_step" "read_step" cY)
  (aN1:nsIn K mainGlobals "read_number"=some (some (.ref fN1)))
  (lN1:FnX K fN1 "read_number" "read_number" d9)
  (aM1:nsIn K mainGlobals "made_step"=some (some (.ref fM1)))
  (lM1:FnX K fM1 "made_step" "made_step" fF)
  (aU1:nsIn K mainGlobals "made_sum"=some (some (.ref fU1)))
  (lU1:FnX K fU1 "made_sum" "made_sum" gQ)
  (aA3:nsIn K mainGlobals "read_part"=some (some (.ref fA3)))
  (lA3:FnX K fA3 "read_part" "read_part" fE)
  (aB3:nsIn K mainGlobals "read_pact"=some (some (.ref fB3)))
  (lB3:FnX K fB3 "read_pact" "read_pact" cZ)
  (aC3:nsIn K mainGlobals "houses_of"=some (some (.ref fC3)))
  (lC3:FnX K fC3 "houses_of" "houses_of" c8)
  (aD3:nsIn K mainGlobals "turning"=some (some (.ref fD3)))
  (lD3:FnX K fD3 "turning" "turning" iI)
  (aV1:nsIn K mainGlobals "no_value"=some (some (.ref fV1)))
  (lV1:FnX K fV1 "no_value" "no_value" o6)
  (aA2:nsIn K mainGlobals "_law_cell_at"=some (some (.ref fA2)))
  (lA2:FnX K fA2 "_law_cell_at" "_law_cell_at" dy)
  (aM2:nsIn K mainGlobals "_law_amount"=some (some (.ref fM2)))
  (lM2:FnX K fM2 "_law_amount" "_law_amount" eB)
  (aS2:nsIn K mainGlobals "_law_step"=some (some (.ref fS2)))
  (lS2:FnX K fS2 "_law_step" "_law_step" fH)
  (aT2:nsIn K mainGlobals "_law_steps"=some (some (.ref fT2)))
  (lT2:FnX K fT2 "_law_steps" "_law_steps" eP)
  (aL2:nsIn K mainGlobals "_law_last"=some (some (.ref fL2)))
  (lL2:FnX K fL2 "_law_last" "_law_last" fJ)
  (aP2:nsIn K mainGlobals "_law_plain"=some (some (.ref fP2)))
  (lP2:FnX K fP2 "_law_plain" "_law_plain" eQ)
  (aD2:nsIn K mainGlobals "_law_due"=some (some (.ref fD2)))
  (lD2:FnX K fD2 "_law_due" "_law_due" gR)
  (aB2:nsIn K mainGlobals "_law_back"=some (some (.ref fB2)))
  (lB2:FnX K fB2 "_law_back" "_law_back" fL)
  (aY2:nsIn K mainGlobals "_law_way"=some (some (.ref fY2)))
  (lY2:FnX K fY2 "_law_way" "_law_way" dw)
  (aC2:nsIn K mainGlobals "_law_came"=some (some (.ref fC2)))
  (lC2:FnX K fC2 "_law_came" "_law_came" fK)
  (aZ:nsIn K mainGlobals "law"=some (some (.ref fZ)))
  (lZ:FnX K fZ "law" "law" nB)
  (y_isinstance:nsIn K mainGlobals "isinstance"=some none)
  (y_int:nsIn K mainGlobals "int"=some none)
  (y_bool:nsIn K mainGlobals "bool"=some none)
  (y_str:nsIn K mainGlobals "str"=some none)
  (y_len:nsIn K mainGlobals "len"=some none)
  (y_range:nsIn K mainGlobals "range"=some none)
  (y_tuple:nsIn K mainGlobals "tuple"=some none)
  (y_list:nsIn K mainGlobals "list"=some none)
  (y_any:nsIn K mainGlobals "any"=some none)
  (y_all:nsIn K mainGlobals "all"=some none)
  (y_max:nsIn K mainGlobals "max"=some none)
  (y_sorted:nsIn K mainGlobals "sorted"=some none)
  (y_ord:nsIn K mainGlobals "ord"=some none)
  (y_set:nsIn K mainGlobals "set"=some none)
  (y_enumerate:nsIn K mainGlobals "enumerate"=some none)
  (y_reversed:nsIn K mainGlobals "reversed"=some none)
  (q_MOST_FIGURES_things:nsIn K mainGlobals "MOST_FIGURES_things"=some (some (.int 400 t_MOST_FIGURES_things)))
  (q_MOST_SIGNS:nsIn K mainGlobals "MOST_SIGNS"=some (some (.int 2000 t_MOST_SIGNS)))
  (q_MOST_DEEP:nsIn K mainGlobals "MOST_DEEP"=some (some (.int 8 t_MOST_DEEP)))
  (q_LONGEST:nsIn K mainGlobals "LONGEST"=some (some (.int 100000 t_LONGEST)))
  (q_BLANK:nsIn K mainGlobals "BLANK"=some (some (.int 32 t_BLANK)))
  (q_PERCENT:nsIn K mainGlobals "PERCENT"=some (some (.int 37 t_PERCENT)))
  (q_TILDE:nsIn K mainGlobals "TILDE"=some (some (.int 126 t_TILDE)))
  (q_MOST_FIGURES_steps:nsIn K mainGlobals "MOST_FIGURES_steps"=some (some (.int 40 t_MOST_FIGURES_steps)))
  (q_MOST_STEPS:nsIn K mainGlobals "MOST_STEPS"=some (some (.int 12 t_MOST_STEPS)))
  (q_PATIENCE:nsIn K mainGlobals "PATIENCE"=some (some (.int 4 t_PATIENCE)))
  (nSh:nsIn K mainGlobals "SHAPES"=some (some (.ref aSh)))
  (lSh:K.lookup aSh=some ⟨.type "dict",none,.dict esR epR,#[]⟩)
  (qSh:(aSh==sysModules)=false)
  (tSh:PyProof.Rows.KTD.rowsLook w8 esR.toList jt=true)
  (nMnn:nsIn K mainGlobals "MANNERS"=some (some (.ref aMn)))
  (lMn:K.lookup aMn=some ⟨.type "tuple",dMn,.seq #[.str "held" mn1,.str "walked" mn2] nMn,sMn⟩)
  (nNo:nsIn K mainGlobals "NoThing"=some (some (.ref CNo)))
  (xNo:excIn K CNo bmV "ValueError.__new__"=true)
  (nNe:nsIn K mainGlobals "NoNeed"=some (some (.ref CN)))
  (xNe:excIn K CN bmV "ValueError.__new__"=true)
  (subN:mroIn K CN (.ref CN)=some true) :
  ∃fd:FuncData,(∀(s:Shared) (v:Value),BindsTo s fd ⟨[v],[]⟩ [("_law_script",v)])/\∀base:Heap,K.In base->base.Ns mainGlobals mg->FnOk l.prog w K mg base CX0 10 fa fd ["_law_script"] (p7 K):=by
 have e:=hfa.symm.trans (PySem.W.mg_of X G aZ)
 cases e
 obtain ⟨dri,Fri⟩:=lri
 have eri:=Fri.kp
 have bri:=Fri.b2 "self" "text" λ_ _ _ _ _ _ _ _=>rfl
 obtain ⟨drp,Frp⟩:=lrp
 have erp:=Frp.kp
 have brp:=Frp.b2 "self" "sign" λ_ _ _ _ _ _ _ _=>rfl
 obtain ⟨dra,Fra⟩:=lra
 have era:=Fra.kp
 have bra:=Fra.b2 "self" "deep" λ_ _ _ _ _ _ _ _=>rfl
 obtain ⟨drb,Frb⟩:=lrb
 have erb:=Frb.kp
 have brb:=Frb.b1 "self" λ_ _ _ _ _ _ _=>rfl
 obtain ⟨drn,Frn⟩:=lrn
 have ern:=Frn.kp
 have brn:=Frn.b1 "self" λ_ _ _ _ _ _ _=>rfl
 obtain ⟨drx,Frx⟩:=lrx
 have erx:=Frx.kp
 have brx:=Frx.b2 "self" "many" λ_ _ _ _ _ _ _ _=>rfl
 obtain ⟨dxiY,FxiY⟩:=lxiY
 have exiY:=FxiY.kp
 have bxiY:=FxiY.b3 "self" "where" "cell" λ_ _ _ _ _ _ _ _ _=>rfl
 obtain ⟨dxhY,FxhY⟩:=lxhY
 have exhY:=FxhY.kp
 have bxhY:=FxhY.b1 "self" λ_ _ _ _ _ _ _=>rfl
 obtain ⟨dxpA,FxpA⟩:=lxpA
 have expA:=FxpA.kp
 have bxpA:=FxpA.b1 "self" λ_ _ _ _ _ _ _=>rfl
 obtain ⟨dxsZ,FxsZ⟩:=lxsZ
 have exsZ:=FxsZ.kp
 have bxsZ:=FxsZ.b1 "self" λ_ _ _ _ _ _ _=>rfl
 obtain ⟨dxdA,FxdA⟩:=lxdA
 have exdA:=FxdA.kp
 have bxdA:=FxdA.b3 "self" "hand" "value_of" λ_ _ _ _ _ _ _ _ _=>rfl
 obtain ⟨dxpB,FxpB⟩:=lxpB
 have expB:=FxpB.kp
 have bxpB:=FxpB.b1 "self" λ_ _ _ _ _ _ _=>rfl
 obtain ⟨dxdB,FxdB⟩:=lxdB
 have exdB:=FxdB.kp
 have bxdB:=FxdB.b3 "self" "hand" "value_of" λ_ _ _ _ _ _ _ _ _=>rfl
 obtain ⟨dxiD,FxiD⟩:=lxiD
 have exiD:=FxiD.kp
 have bxiD:=FxiD.b4 "self" "where" "low" "high" λ_ _ _ _ _ _ _ _ _ _=>rfl
 obtain ⟨dxhD,FxhD⟩:=lxhD
 have exhD:=FxhD.kp
 have bxhD:=FxhD.b1 "self" λ_ _ _ _ _ _ _=>rfl
 obtain ⟨dxpD,FxpD⟩:=lxpD
 have expD:=FxpD.kp
 have bxpD:=FxpD.b1 "self" λ_ _ _ _ _ _ _=>rfl
 obtain ⟨dxdD,FxdD⟩:=lxdD
 have exdD:=FxdD.kp
 have bxdD:=FxdD.b3 "self" "hand" "value_of" λ_ _ _ _ _ _ _ _ _=>rfl
 obtain ⟨dxpE,FxpE⟩:=lxpE
 have expE:=FxpE.kp
 have bxpE:=FxpE.b1 "self" λ_ _ _ _ _ _ _=>rfl
 obtain ⟨dxsE,FxsE⟩:=lxsE
 have exsE:=FxsE.kp
 have bxsE:=FxsE.b1 "self" λ_ _ _ _ _ _ _=>rfl
 obtain ⟨dxdE,FxdE⟩:=lxdE
 have exdE:=FxdE.kp
 have bxdE:=FxdE.b3 "self" "hand" "value_of" λ_ _ _ _ _ _ _ _ _=>rfl
 obtain ⟨dxiF,FxiF⟩:=lxiF
 have exiF:=FxiF.kp
 have bxiF:=FxiF.b4 "self" "where" "cell" "amount" λ_ _ _ _ _ _ _ _ _ _=>rfl
 obtain ⟨dxpF,FxpF⟩:=lxpF
 have expF:=FxpF.kp
 have bxpF:=FxpF.b1 "self" λ_ _ _ _ _ _ _=>rfl
 obtain ⟨dxdF,FxdF⟩:=lxdF
 have exdF:=FxdF.kp
 have bxdF:=FxdF.b3 "self" "hand" "value_of" λ_ _ _ _ _ _ _ _ _=>rfl
 obtain ⟨dxiG,FxiG⟩:=lxiG
 have exiG:=FxiG.kp
 have bxiG:=FxiG.b2 "self" "amount" λ_ _ _ _ _ _ _ _=>rfl
 obtain ⟨dxhZ,FxhZ⟩:=lxhZ
 have exhZ:=FxhZ.kp
 have bxhZ:=FxhZ.b1 "self" λ_ _ _ _ _ _ _=>rfl
 obtain ⟨dxpG,FxpG⟩:=lxpG
 have expG:=FxpG.kp
 have bxpG:=FxpG.b1 "self" λ_ _ _ _ _ _ _=>rfl
 obtain ⟨dxdG,FxdG⟩:=lxdG
 have exdG:=FxdG.kp
 have bxdG:=FxdG.b3 "self" "hand" "value_of" λ_ _ _ _ _ _ _ _ _=>rfl
 obtain ⟨dxiN,FxiN⟩:=lxiN
 have exiN:=FxiN.kp
 have bxiN:=FxiN.b2 "self" "amount" λ_ _ _ _ _ _ _ _=>rfl
 obtain ⟨dxpN,FxpN⟩:=lxpN
 have expN:=FxpN.kp
 have bxpN:=FxpN.b1 "self" λ_ _ _ _ _ _ _=>rfl
 obtain ⟨dxdN,FxdN⟩:=lxdN
 have exdN:=FxdN.kp
 have bxdN:=FxdN.b3 "self" "hand" "value_of" λ_ _ _ _ _ _ _ _ _=>rfl
 have W:TxW K (wmk WA WB WD WE WF WG WN):=⟨λk=>match k with | .take=>⟨pgwA,hdwA,powA,sawA⟩ | .mean=>⟨pgwB,hdwB,powB,sawB⟩ | .sum=>⟨pgwD,hdwD,powD,sawD⟩ | .give=>⟨pgwE,hdwE,powE,sawE⟩ | .add=>⟨pgwF,hdwF,powF,sawF⟩ | .plus=>⟨pgwG,hdwG,powG,sawG⟩ | .need=>⟨pgwN,hdwN,powN,sawN⟩,λk=>match k with | .take=>nWwA | .mean=>nWwB | .sum=>nWwD | .give=>nWwE | .add=>nWwF | .plus=>nWwG | .need=>nWwN,λk=>match k with | .take=>nCwA | .mean=>nCwB | .sum=>nCwD | .give=>nCwE | .add=>nCwF | .plus=>nCwG | .need=>nCwN,λk=>match k with | .take=>nLwA | .mean=>nLwB | .sum=>nLwD | .give=>nLwE | .add=>nLwF | .plus=>nLwG | .need=>nLwN,λk=>match k with | .take=>nHwA | .mean=>nHwB | .sum=>nHwD | .give=>nHwE | .add=>nHwF | .plus=>nHwG | .need=>nHwN,λk=>match k with | .take=>nAwA | .mean=>nAwB | .sum=>nAwD | .give=>nAwE | .add=>nAwF | .plus=>nAwG | .need=>nAwN⟩
 obtain ⟨dpi,Fpi⟩:=lpi
 have epi:=Fpi.kp
 have bpi:=Fpi.b3 "self" "manner" "steps" λ_ _ _ _ _ _ _ _ _=>rfl
 have TP:TxP K CP:=⟨⟨pgP,hdP,poP,saP⟩,nPm,nPs,nPp⟩
 obtain ⟨dsdI,FsdI⟩:=lsdI
 have esdI:=FsdI.kp
 have bsdI:=FsdI.b2 "self" "cells" λ_ _ _ _ _ _ _ _=>rfl
 obtain ⟨dsdK,FsdK⟩:=lsdK
 have esdK:=FsdK.kp
 have bsdK:=FsdK.b2 "self" "row" λ_ _ _ _ _ _ _ _=>rfl
 obtain ⟨dsdC,FsdC⟩:=lsdC
 have esdC:=FsdC.kp
 have bsdC:=FsdC.b2 "self" "row" λ_ _ _ _ _ _ _ _=>rfl
 obtain ⟨dsdN,FsdN⟩:=lsdN
 have esdN:=FsdN.kp
 have bsdN:=FsdN.b1 "self" λ_ _ _ _ _ _ _=>rfl
 obtain ⟨dshI,FshI⟩:=lshI
 have eshI:=FshI.kp
 have bshI:=FshI.b2 "self" "stand" λ_ _ _ _ _ _ _ _=>rfl
 obtain ⟨dshR,FshR⟩:=lshR
 have eshR:=FshR.kp
 have bshR:=FshR.b2 "self" "row" λ_ _ _ _ _ _ _ _=>rfl
 obtain ⟨dshS,FshS⟩:=lshS
 have eshS:=FshS.kp
 have bshS:=FshS.b5 "self" "to" "word" "p" "more" λ_ _ _ _ _ _ _ _ _ _ _=>rfl
 obtain ⟨dshW,FshW⟩:=lshW
 have eshW:=FshW.kp
 have bshW:=FshW.b1 "self" λ_ _ _ _ _ _ _=>rfl
 obtain ⟨dshL,FshL⟩:=lshL
 have eshL:=FshL.kp
 have bshL:=FshL.b1 "self" λ_ _ _ _ _ _ _=>rfl
 obtain ⟨dleT,FleT⟩:=lleT
 have eleT:=FleT.kp
 have bleT:=FleT.b2 "self" "sheet" λ_ _ _ _ _ _ _ _=>rfl
 obtain ⟨dleG,FleG⟩:=lleG
 have eleG:=FleG.kp
 have bleG:=FleG.b2 "self" "sheet" λ_ _ _ _ _ _ _ _=>rfl
 obtain ⟨dleE,FleE⟩:=lleE
 have eleE:=FleE.kp
 have bleE:=FleE.b3 "self" "sheet" "outcome" λ_ _ _ _ _ _ _ _ _=>rfl
 obtain ⟨dleN,FleN⟩:=lleN
 have eleN:=FleN.kp
 have bleN:=FleN.b2 "self" "outcome" λ_ _ _ _ _ _ _ _=>rfl
 obtain ⟨dleO,FleO⟩:=lleO
 have eleO:=FleO.kp
 have bleO:=FleO.b1 "self" λ_ _ _ _ _ _ _=>rfl
 obtain ⟨dleX,FleX⟩:=lleX
 have eleX:=FleX.kp
 have bleX:=FleX.b1 "self" λ_ _ _ _ _ _ _=>rfl
 obtain ⟨dleP,FleP⟩:=lleP
 have eleP:=FleP.kp
 have bleP:=FleP.b1 "self" λ_ _ _ _ _ _ _=>rfl
 obtain ⟨dleS,FleS⟩:=lleS
 have eleS:=FleS.kp
 have bleS:=FleS.b3 "self" "sheet" "word" λ_ _ _ _ _ _ _ _ _=>rfl
 obtain ⟨dleA,FleA⟩:=lleA
 have eleA:=FleA.kp
 have bleA:=FleA.b2 "self" "more" λ_ _ _ _ _ _ _ _=>rfl
 obtain ⟨dheI,FheI⟩:=lheI
 have eheI:=FheI.kp
 have bheI:=FheI.b3 "self" "name" "pact" λ_ _ _ _ _ _ _ _ _=>rfl
 obtain ⟨dheG,FheG⟩:=lheG
 have eheG:=FheG.kp
 have bheG:=FheG.b2 "self" "sheet" λ_ _ _ _ _ _ _ _=>rfl
 obtain ⟨dheC,FheC⟩:=lheC
 have eheC:=FheC.kp
 have bheC:=FheC.b5 "self" "sheet" "word" "sender" "more" λ_ _ _ _ _ _ _ _ _ _ _=>rfl
 obtain ⟨dheK,FheK⟩:=lheK
 have eheK:=FheK.kp
 have bheK:=FheK.b1 "self" λ_ _ _ _ _ _ _=>rfl
 obtain ⟨dheU,FheU⟩:=lheU
 have eheU:=FheU.kp
 have bheU:=FheU.b1 "self" λ_ _ _ _ _ _ _=>rfl
 obtain ⟨dheR,FheR⟩:=lheR
 have eheR:=FheR.kp
 have bheR:=FheR.b2 "self" "sheet" λ_ _ _ _ _ _ _ _=>rfl
 obtain ⟨dheF,FheF⟩:=lheF
 have eheF:=FheF.kp
 have bheF:=FheF.b2 "self" "sheet" λ_ _ _ _ _ _ _ _=>rfl
 obtain ⟨dheB,FheB⟩:=lheB
 have eheB:=FheB.kp
 have bheB:=FheB.b2 "self" "sheet" λ_ _ _ _ _ _ _ _=>rfl
 obtain ⟨dleI,FleI⟩:=lleI
 have eleI:=FleI.kp
 have bleI:=FleI.b3 "self" "name" "pact" λ_ _ _ _ _ _ _ _ _=>rfl
 have D:TxD K CS:=⟨⟨pgS,hdS,poS,saS⟩,qsc,qsb,qsw,qsr,qse,qsa,qso⟩
 have DH:TxH K CH:=⟨⟨pgH,hdH,poH,saH⟩,qhs,qhr,qhe,qhl⟩
 have TA:TxA K CL:=⟨⟨pgL,hdL,poL,saL⟩,qan,qas,qah,qad,qat,qam,qac⟩
 have TC:TxC K (wmk WA WB WD WE WF WG WN) CL CH:=⟨TA,qbd,qun,qsg,λk=>match k with | .take=>λe=>(by have e':WA=CL:=e;rw [← e',uxpAA] at nKL;cases nKL) | .mean=>λe=>(by have e':WB=CL:=e;rw [← e',uxpBB] at nKL;cases nKL) | .sum=>λe=>(by have e':WD=CL:=e;rw [← e',uxpDD] at nKL;cases nKL) | .give=>λe=>(by have e':WE=CL:=e;rw [← e',uxpEE] at nKL;cases nKL) | .add=>λe=>(by have e':WF=CL:=e;rw [← e',uxpFF] at nKL;cases nKL) | .plus=>λe=>(by have e':WG=CL:=e;rw [← e',uxpGG] at nKL;cases nKL) | .need=>λe=>(by have e':WN=CL:=e;rw [← e',uxpNN] at nKL;cases nKL),λk=>match k with | .take=>λe=>(by have e':WA=CH:=e;rw [← e',uxpAA] at nKH;cases nKH) | .mean=>λe=>(by have e':WB=CH:=e;rw [← e',uxpBB] at nKH;cases nKH) | .sum=>λe=>(by have e':WD=CH:=e;rw [← e',uxpDD] at nKH;cases nKH) | .give=>λe=>(by have e':WE=CH:=e;rw [← e',uxpEE] at nKH;cases nKH) | .add=>λe=>(by have e':WF=CH:=e;rw [← e',uxpFF] at nKH;cases nKH) | .plus=>λe=>(by have e':WG=CH:=e;rw [← e',uxpGG] at nKH;cases nKH) | .need=>λe=>(by have e':WN=CH:=e;rw [← e',uxpNN] at nKH;cases nKH),λe=>by rw [e,ashS] at nSL;cases nSL⟩
 obtain ⟨dW1,FW1⟩:=lW1
 have eW1:=FW1.kp
 have bW1:=FW1.b1 "thing" λ_ _ _ _ _ _ _=>rfl
 have mW1:mg "is_whole"=some (.ref fW1):=mg_of X G aW1
 obtain ⟨dH1,FH1⟩:=lH1
 have eH1:=FH1.kp
 have bH1:=FH1.b1 "thing" λ_ _ _ _ _ _ _=>rfl
 have mH1:mg "shown"=some (.ref fH1):=mg_of X G aH1
 obtain ⟨dR1,FR1⟩:=lR1
 have eR1:=FR1.kp
 have bR1:=FR1.b1 "text" λ_ _ _ _ _ _ _=>rfl
 have mR1:mg "read_thing"=some (.ref fR1):=mg_of X G aR1
 obtain ⟨dG1,FG1⟩:=lG1
 have eG1:=FG1.kp
 have bG1:=FG1.b1 "sign" λ_ _ _ _ _ _ _=>rfl
 have mG1:mg "is_sign"=some (.ref fG1):=mg_of X G aG1
 obtain ⟨dP1,FP1⟩:=lP1
 have eP1:=FP1.kp
 have bP1:=FP1.b2 "word" "numbers" λ_ _ _ _ _ _ _ _=>rfl
 have mP1:mg "spell"=some (.ref fP1):=mg_of X G aP1
 obtain ⟨dS1,FS1⟩:=lS1
 have eS1:=FS1.kp
 have bS1:=FS1.b1 "text" λ_ _ _ _ _ _ _=>rfl
 have mS1:mg "read_step"=some (.ref fS1):=mg_of X G aS1
 obtain ⟨dN1,FN1⟩:=lN1
 have eN1:=FN1.kp
 have bN1:=FN1.b2 "word" "letter" λ_ _ _ _ _ _ _ _=>rfl
 have mN1:mg "read_number"=some (.ref fN1):=mg_of X G aN1
 obtain ⟨dM1,FM1⟩:=lM1
 have eM1:=FM1.kp
 have bM1:=FM1.b2 "word" "numbers" λ_ _ _ _ _ _ _ _=>rfl
 have mM1:mg "made_step"=some (.ref fM1):=mg_of X G aM1
 obtain ⟨dU1,FU1⟩:=lU1
 have eU1:=FU1.kp
 have bU1:=FU1.b3 "where" "low" "high" λ_ _ _ _ _ _ _ _ _=>rfl
 have mU1:mg "made_sum"=some (.ref fU1):=mg_of X G aU1
 obtain ⟨dA3,FA3⟩:=lA3
 have eA3:=FA3.kp
 have bA3:=FA3.b2 "text" "number" λ_ _ _ _ _ _ _ _=>rfl
 have mA3:mg "read_part"=some (.ref fA3):=mg_of X G aA3
 obtain ⟨dB3,FB3⟩:=lB3
 have eB3:=FB3.kp
 have bB3:=FB3.b1 "text" λ_ _ _ _ _ _ _=>rfl
 have mB3:mg "read_pact"=some (.ref fB3):=mg_of X G aB3
 obtain ⟨dC3,FC3⟩:=lC3
 have eC3:=FC3.kp
 have bC3:=FC3.b1 "pact" λ_ _ _ _ _ _ _=>rfl
 have mC3:mg "houses_of"=some (.ref fC3):=mg_of X G aC3
 obtain ⟨dD3,FD3⟩:=lD3
 have eD3:=FD3.kp
 have bD3:=FD3.b1 "pact" λ_ _ _ _ _ _ _=>rfl
 have mD3:mg "turning"=some (.ref fD3):=mg_of X G aD3
 obtain ⟨dV1,FV1⟩:=lV1
 have eV1:=FV1.kp
 have bV1:=FV1.b1 "cell" λ_ _ _ _ _ _ _=>rfl
 have mV1:mg "no_value"=some (.ref fV1):=mg_of X G aV1
 obtain ⟨dA2,FA2⟩:=lA2
 have eA2:=FA2.kp
 have bA2:=FA2.b2 "_law_script" "_law_k" λ_ _ _ _ _ _ _ _=>rfl
 have mA2:mg "_law_cell_at"=some (.ref fA2):=mg_of X G aA2
 obtain ⟨dM2,FM2⟩:=lM2
 have eM2:=FM2.kp
 have bM2:=FM2.b1 "_law_number" λ_ _ _ _ _ _ _=>rfl
 have mM2:mg "_law_amount"=some (.ref fM2):=mg_of X G aM2
 obtain ⟨dS2,FS2⟩:=lS2
 have eS2:=FS2.kp
 have bS2:=FS2.b3 "_law_number" "_law_given" "_law_none" λ_ _ _ _ _ _ _ _ _=>rfl
 have mS2:mg "_law_step"=some (.ref fS2):=mg_of X G aS2
 obtain ⟨dT2,FT2⟩:=lT2
 have eT2:=FT2.kp
 have bT2:=FT2.b1 "_law_script" λ_ _ _ _ _ _ _=>rfl
 have mT2:mg "_law_steps"=some (.ref fT2):=mg_of X G aT2
 obtain ⟨dL2,FL2⟩:=lL2
 have eL2:=FL2.kp
 have bL2:=FL2.b1 "_law_hands" λ_ _ _ _ _ _ _=>rfl
 have mL2:mg "_law_last"=some (.ref fL2):=mg_of X G aL2
 obtain ⟨dP2,FP2⟩:=lP2
 have eP2:=FP2.kp
 have bP2:=FP2.b2 "_law_steps_here" "_law_hands" λ_ _ _ _ _ _ _ _=>rfl
 have mP2:mg "_law_plain"=some (.ref fP2):=mg_of X G aP2
 obtain ⟨dD2,FD2⟩:=lD2
 have eD2:=FD2.kp
 have bD2:=FD2.b3 "_law_name" "_law_steps_here" "_law_back_here" λ_ _ _ _ _ _ _ _ _=>rfl
 have mD2:mg "_law_due"=some (.ref fD2):=mg_of X G aD2
 obtain ⟨dB2,FB2⟩:=lB2
 have eB2:=FB2.kp
 have bB2:=FB2.b1 "_law_steps_here" λ_ _ _ _ _ _ _=>rfl
 have mB2:mg "_law_back"=some (.ref fB2):=mg_of X G aB2
 obtain ⟨dY2,FY2⟩:=lY2
 have eY2:=FY2.kp
 have bY2:=FY2.b5 "_law_lead" "_law_sheet" "_law_steps_here" "_law_many" "_law_script" λ_ _ _ _ _ _ _ _ _ _ _=>rfl
 have mY2:mg "_law_way"=some (.ref fY2):=mg_of X G aY2
 obtain ⟨dC2,FC2⟩:=lC2
 have eC2:=FC2.kp
 have bC2:=FC2.b5 "_law_lead" "_law_sheet" "_law_steps_here" "_law_back_here" "_law_number" λ_ _ _ _ _ _ _ _ _ _ _=>rfl
 have mC2:mg "_law_came"=some (.ref fC2):=mg_of X G aC2
 obtain ⟨dZ,FZ⟩:=lZ
 have eZ:=FZ.kp
 have B:TxB mg:=⟨mg_none_of X G y_isinstance,mg_none_of X G y_int,mg_none_of X G y_bool,mg_none_of X G y_str,mg_none_of X G y_len,mg_none_of X G y_range,mg_none_of X G y_tuple,mg_none_of X G y_list,mg_none_of X G y_any,mg_none_of X G y_all,mg_none_of X G y_max,mg_none_of X G y_sorted⟩
 have TN:TxN K mg CN:=⟨mg_of X G nNe,xNe,subN⟩
 have TT:K45T.Tx K mg CRd:=⟨⟨pgrd,hdrd,pord,sard⟩,nTx,nPl,mg_of X G nrd,mg_none_of X G y_isinstance,mg_none_of X G y_int,mg_none_of X G y_bool,mg_none_of X G y_str,mg_none_of X G y_len,mg_none_of X G y_ord,mg_none_of X G y_all,mg_none_of X G y_range,⟨_,mg_of X G q_MOST_FIGURES_things⟩,⟨_,mg_of X G q_MOST_SIGNS⟩,⟨_,mg_of X G q_MOST_DEEP⟩,⟨_,mg_of X G q_LONGEST⟩,⟨_,mg_of X G q_BLANK⟩,⟨_,mg_of X G q_PERCENT⟩,⟨_,mg_of X G q_TILDE⟩⟩
 have tM:∀H,SqT K H aMn [.str "held",.str "walked"]:=λH=>.inr ⟨_,_,_,lMn,rfl,rfl,χ,.cons ⟨mn1,rfl⟩ (.cons ⟨mn2,rfl⟩ .nil)⟩
 refine ⟨dZ,(by obtain ⟨oc,od,kV,doc,pm,an,cdv,ct,osl,rfl,lk,hcd⟩:=FZ.ex;exact λs v=>.of_eq rfl),λbase _ _=>?_⟩
 have GCI:=uE (P:=l.prog) (w:=w) (mg:=mg) (base:=base) FxiY W
 have WI:∀wd,WI l.prog w K mg base (wmk WA WB WD WE WF WG WN) wd:=λwd=>match wd with | .take=>⟨fxiY,_,_,⟨mkwA,uxiYA,jxiY,kcwA⟩,(GCI.imp λ_ _ _ _ z=>mE rfl z).mono ζ,bxiY,mg_of X G nwA⟩ | .mean=>⟨fxiY,_,_,⟨mkwB,uxiYB,jxiY,kcwB⟩,(GCI.imp λ_ _ _ _ z=>mE rfl z).mono ζ,bxiY,mg_of X G nwB⟩ | .sum=>⟨fxiD,_,_,⟨mkwD,uxiDD,jxiD,kcwD⟩,(ud FxiD W).mono ζ,bxiD,mg_of X G nwD⟩ | .give=>⟨fxiY,_,_,⟨mkwE,uxiYE,jxiY,kcwE⟩,(GCI.imp λ_ _ _ _ z=>mE rfl z).mono ζ,bxiY,mg_of X G nwE⟩ | .add=>⟨fxiF,_,_,⟨mkwF,uxiFF,jxiF,kcwF⟩,uG FxiF W (mg_of X G nCY) ⟨gaY,rdY,fcY,hiY,exiY⟩ GCI bxiY,bxiF,mg_of X G nwF⟩ | .plus=>⟨fxiG,_,_,⟨mkwG,uxiGG,jxiG,kcwG⟩,(ur FxiG W).mono ζ,bxiG,mg_of X G nwG⟩ | .need=>⟨fxiN,_,_,⟨mkwN,uxiNN,jxiN,kcwN⟩,(uu FxiN W).mono ζ,bxiN,mg_of X G nwN⟩
 have Hi:=K45T.wE (P:=l.prog) (w:=w) (mg:=mg) (base:=base) Fri TT
 have Hp:=K45T.wz (P:=l.prog) (w:=w) (mg:=mg) (base:=base) Frp TT
 have Hn:=K45T.yE (P:=l.prog) (w:=w) (mg:=mg) (base:=base) Frn TT
 have Hx:=K45T.ue (P:=l.prog) (w:=w) (mg:=mg) (base:=base) Frx TT
 have Mrn:gE K CRd "read_number" frn:=⟨arn,jrn,ern⟩
 have Mrp:gE K CRd "passes" frp:=⟨arp,jrp,erp⟩
 have Mrb:gE K CRd "read_below" frb:=⟨arb,jrb,erb⟩
 have Mrx:gE K CRd "read_signs" frx:=⟨arx,jrx,erx⟩
 have Mra:gE K CRd "read_any" fra:=⟨ara,jra,era⟩
 have Hb:=K45T.uF Frb TT Hn brn Mrn
 have Ha:=K45T.yN Fra TT Hp brp Mrp Hb brb Mrb Hn brn Mrn Hx brx Mrx
 have HG:=K45T.wu (P:=l.prog) (w:=w) (mg:=mg) (base:=base) FG1 TT
 have HW:=K45T.ua (P:=l.prog) (w:=w) (mg:=mg) (base:=base) FW1 TT
 have GW1:GF l.prog w K mg base CX0 1 "is_whole" ["thing"] K45T.jn:=⟨fW1,_,HW,bW1,eW1,mW1⟩
 have GH1:GF l.prog w K mg base CX0 2 "shown" ["thing"] K45T.lH:=⟨fH1,_,K45T.uf FH1 TT HW bW1 eW1 mW1,bH1,eH1,mH1⟩
 have GR1:GF l.prog w K mg base CX0 4 "read_thing" ["text"] K45T.oO:=⟨fR1,_,K45T.ww FR1 TT ⟨mkrd,ari,jri,kcrd⟩ HG bG1 eG1 mG1 Hi bri Ha bra Mra,bR1,eR1,mR1⟩
 have GP1:GF l.prog w K mg base CX0 3 "spell" ["word","numbers"] dq:=⟨fP1,_,uc FP1 GH1,bP1,eP1,mP1⟩
 have GU1:GF l.prog w K mg base CX0 4 "made_sum" ["where","low","high"] (oR (wmk WA WB WD WE WF WG WN)):=⟨fU1,_,wC FU1 (WI .sum),bU1,eU1,mU1⟩
 have GM1:GF l.prog w K mg base CX0 5 "made_step" ["word","numbers"] (St.oQ (wmk WA WB WD WE WF WG WN)):=⟨fM1,_,uw FM1 WI GU1,bM1,eM1,mM1⟩
 have GN1:GF l.prog w K mg base CX0 5 "read_number" ["word","letter"] oP:=⟨fN1,_,wv FN1 B (mg_of X G nNo) xNo θ ⟨_,mg_of X G q_MOST_FIGURES_steps⟩ GR1 GW1,bN1,eN1,mN1⟩
 have GS1:GF l.prog w K mg base CX0 6 "read_step" ["text"] (lJ (wmk WA WB WD WE WF WG WN)):=⟨fS1,_,uh FS1 B (mg_of X G nSh) (xQ lSh qSh tSh) GN1 GM1,bS1,eS1,mS1⟩
 have Gh:∀wd,GM l.prog w K mg base CX0 1 ((wmk WA WB WD WE WF WG WN) wd) "house" ["self"] (dQ (wmk WA WB WD WE WF WG WN) wd):=λwd=>match wd with | .take=>⟨fxhY,_,ij (.inl rfl) FxhY W,bxhY,⟨uxhYA,jxhY,exhY⟩⟩ | .mean=>⟨fxhY,_,ij (.inl rfl) FxhY W,bxhY,⟨uxhYB,jxhY,exhY⟩⟩ | .sum=>⟨fxhD,_,wF FxhD W,bxhD,⟨uxhDD,jxhD,exhD⟩⟩ | .give=>⟨fxhY,_,ij (.inl rfl) FxhY W,bxhY,⟨uxhYE,jxhY,exhY⟩⟩ | .add=>⟨fxhY,_,ij (.inr rfl) FxhY W,bxhY,⟨uxhYF,jxhY,exhY⟩⟩ | .plus=>⟨fxhZ,_,nQ (.inl rfl) FxhZ,bxhZ,⟨uxhZG,jxhZ,exhZ⟩⟩ | .need=>⟨fxhZ,_,nQ (.inr rfl) FxhZ,bxhZ,⟨uxhZN,jxhZ,exhZ⟩⟩
 have Gp:∀wd,GM l.prog w K mg base CX0 4 ((wmk WA WB WD WE WF WG WN) wd) "spelled" ["self"] (bX (wmk WA WB WD WE WF WG WN) wd):=λwd=>match wd with | .take=>⟨fxpA,_,uk FxpA W GP1,bxpA,⟨uxpAA,jxpA,expA⟩⟩ | .mean=>⟨fxpB,_,uq FxpB W GP1,bxpB,⟨uxpBB,jxpB,expB⟩⟩ | .sum=>⟨fxpD,_,wx FxpD W GP1,bxpD,⟨uxpDD,jxpD,expD⟩⟩ | .give=>⟨fxpE,_,ut FxpE W GP1,bxpE,⟨uxpEE,jxpE,expE⟩⟩ | .add=>⟨fxpF,_,wA FxpF W GP1,bxpF,⟨uxpFF,jxpF,expF⟩⟩ | .plus=>⟨fxpG,_,um FxpG W GP1,bxpG,⟨uxpGG,jxpG,expG⟩⟩ | .need=>⟨fxpN,_,uo FxpN W GP1,bxpN,⟨uxpNN,jxpN,expN⟩⟩
 have GPI:=rA (P:=l.prog) (w:=w) (mg:=mg) (base:=base) Fpi B TP
 have GA3:GF l.prog w K mg base CX0 7 "read_part" ["text","number"] (lK (wmk WA WB WD WE WF WG WN)):=⟨fA3,_,ui FA3 GS1,bA3,eA3,mA3⟩
 have GB3:GF l.prog w K mg base CX0 8 "read_pact" ["text"] (lL CP (wmk WA WB WD WE WF WG WN)):=⟨fB3,_,uj FB3 B (mg_of X G nMnn) tM ⟨_,mg_of X G q_MOST_STEPS⟩ ⟨mkP,api,jpi,kcP⟩ (mg_of X G nP) GPI bpi GA3,bB3,eB3,mB3⟩
 have GC3:GF l.prog w K mg base CX0 2 "houses_of" ["pact"] (jD CP (wmk WA WB WD WE WF WG WN)):=⟨fC3,_,rC FC3 B (mg_none_of X G y_set) TP W Gh,bC3,eC3,mC3⟩
 have Gu:∀wd,GM l.prog w K mg base CX0 1 ((wmk WA WB WD WE WF WG WN) wd) "sure" ["self"] (lG wd):=λwd=>match wd with | .take=>⟨fxsZ,_,eJ ζ FxsZ,bxsZ,⟨uxsZA,jxsZ,exsZ⟩⟩ | .mean=>⟨fxsZ,_,eJ ζ FxsZ,bxsZ,⟨uxsZB,jxsZ,exsZ⟩⟩ | .sum=>⟨fxsZ,_,eJ ζ FxsZ,bxsZ,⟨uxsZD,jxsZ,exsZ⟩⟩ | .give=>⟨fxsE,_,ug FxsE,bxsE,⟨uxsEE,jxsE,exsE⟩⟩ | .add=>⟨fxsZ,_,eJ ζ FxsZ,bxsZ,⟨uxsZF,jxsZ,exsZ⟩⟩ | .plus=>⟨fxsZ,_,eJ ζ FxsZ,bxsZ,⟨uxsZG,jxsZ,exsZ⟩⟩ | .need=>⟨fxsZ,_,eJ ζ FxsZ,bxsZ,⟨uxsZN,jxsZ,exsZ⟩⟩
 have GD3:GF l.prog w K mg base CX0 2 "turning" ["pact"] (oN CP (wmk WA WB WD WE WF WG WN)):=⟨fD3,_,pA FD3 B TP W Gu,bD3,eD3,mD3⟩
 have GSI:=rm (P:=l.prog) (w:=w) (mg:=mg) (base:=base) FsdI B D
 have GHI:=uB (P:=l.prog) (w:=w) (mg:=mg) (base:=base) (CS:=CS) FshI DH
 have GsdC:GM l.prog w K mg base CX0 1 CS "changes_of" ["self","row"] (oT CS K):=⟨fsdC,_,wI FsdC,bsdC,⟨asdC,jsdC,esdC⟩⟩
 have GsdK:GM l.prog w K mg base CX0 2 CS "keep" ["self","row"] (lM CS K):=⟨fsdK,_,ux FsdK D GsdC,bsdK,⟨asdK,jsdK,esdK⟩⟩
 have GsdN:GM l.prog w K mg base CX0 1 CS "news" ["self"] (jp CS K):=⟨fsdN,_,uv FsdN B D,bsdN,⟨asdN,jsdN,esdN⟩⟩
 have GshR:GM l.prog w K mg base CX0 3 CH "row" ["self","row"] (lP CS CH K):=⟨fshR,_,uA FshR D DH GsdK GsdN,bshR,⟨ashR,jshR,eshR⟩⟩
 have GshS:GM l.prog w K mg base CX0 1 CH "send" ["self","to","word","p","more"] (jq CS CH K):=⟨fshS,_,uy FshS DH,bshS,⟨ashS,jshS,eshS⟩⟩
 have GshW:GM l.prog w K mg base CX0 1 CH "rows_told" ["self"] (lO CS CH K):=⟨fshW,_,uz FshW B DH,bshW,⟨ashW,jshW,eshW⟩⟩
 have GshL:GM l.prog w K mg base CX0 2 CH "letters_told" ["self"] (jr CS CH K):=⟨fshL,_,wG FshL D DH GsdN,bshL,⟨ashL,jshL,eshL⟩⟩
 have GD:∀b,GM l.prog w K mg base (CXE l.prog w) 1 ((wmk WA WB WD WE WF WG WN) (pw b)) "step_done" ["self","hand","value_of"] (vN CN (wmk WA WB WD WE WF WG WN) b):=λb=>match b with | true=>⟨fxdG,_,uC FxdG W,bxdG,⟨uxdGG,jxdG,exdG⟩⟩ | false=>⟨fxdN,_,uD FxdN W TN,bxdN,⟨uxdNN,jxdN,exdN⟩⟩
 have GleX:GM l.prog w K mg base CX0 2 CL "next_house" ["self"] (jC CL (wmk WA WB WD WE WF WG WN)):=⟨fleX,_,wB FleX B TA W Gh,bleX,⟨aleX,jleX,eleX⟩⟩
 have GleP:GM l.prog w K mg base CX0 1 CL "present_hand" ["self"] (lN CL (wmk WA WB WD WE WF WG WN)):=⟨fleP,_,wH FleP TA,bleP,⟨aleP,jleP,eleP⟩⟩
 have GleA:GM l.prog w K mg base CX0 3 CL "is_answer" ["self","more"] (sN CL (wmk WA WB WD WE WF WG WN)):=⟨fleA,_,yJ FleA B TA GleX,bleA,⟨aleA,jleA,eleA⟩⟩
 have GleN:GM l.prog w K mg base CX0 1 CL "naming" ["self","outcome"] (mZ CL (wmk WA WB WD WE WF WG WN)):=⟨fleN,_,yF FleN TA,bleN,⟨aleN,jleN,eleN⟩⟩
 have GleO:GM l.prog w K mg base CX0 3 CL "own_steps_done" ["self"] (sJ CL CS CH (wmk WA WB WD WE WF WG WN) K):=⟨fleO,_,yD FleO B TC W TN mV1 GleX GleP GD,bleO,⟨aleO,jleO,eleO⟩⟩
 have GleS:GM l.prog w K mg base CX0 5 CL "send_step" ["self","sheet","word"] (lI CL CS CH (wmk WA WB WD WE WF WG WN) K):=⟨fleS,_,ub FleS B TC W DH Gp GleX GleP GshS,bleS,⟨aleS,jleS,eleS⟩⟩
 have GheG:GM l.prog w K mg base CX0 6 CL "go_ahead" ["self","sheet"] (sP CL CS CH (wmk WA WB WD WE WF WG WN) K):=⟨fheG,_,yK FheG B TC GleS GleN,bheG,⟨aheG,jheG,eheG⟩⟩
 have GheR:GM l.prog w K mg base CX0 5 CL "undo_rest" ["self","sheet"] (yb CL CS CH (wmk WA WB WD WE WF WG WN) K):=⟨fheR,_,Ab FheR TC W DH Gh Gp GshS,bheR,⟨aheR,jheR,eheR⟩⟩
 have GheB:GM l.prog w K mg base CX0 6 CL "go_behind" ["self","sheet"] (oU CL CS CH (wmk WA WB WD WE WF WG WN) K):=⟨fheB,_,Af FheB TC DH GheR GshR,bheB,⟨aheB,jheB,eheB⟩⟩
 have GheF:GM l.prog w K mg base CX0 7 CL "go_from_end" ["self","sheet"] (oU CL CS CH (wmk WA WB WD WE WF WG WN) K):=⟨fheF,_,Ae FheF TC GheB,bheF,⟨aheF,jheF,eheF⟩⟩
 have GleG:GM l.prog w K mg base CX0 7 CL "go" ["self","sheet"] (sQ CL CS CH (wmk WA WB WD WE WF WG WN) K):=⟨fleG,_,Ac FleG TC GheB GleO GleN GheG,bleG,⟨aleG,jleG,eleG⟩⟩
 have GleT:GM l.prog w K mg base CX0 8 CL "turn" ["self","sheet"] (jo CL CS CH (wmk WA WB WD WE WF WG WN) K):=⟨fleT,_,wt FleT TC ⟨_,mg_of X G q_PATIENCE⟩ GleN GleG,bleT,⟨aleT,jleT,eleT⟩⟩
 have GleE:GM l.prog w K mg base CX0 8 CL "end" ["self","sheet","outcome"] (sR CL CS CH (wmk WA WB WD WE WF WG WN) K):=⟨fleE,_,yL FleE TC GheF,bleE,⟨aleE,jleE,eleE⟩⟩
 have GheK:GM l.prog w K mg base CX0 1 CL "is_walking" ["self"] (sC CL CS CH (wmk WA WB WD WE WF WG WN) K):=⟨fheK,_,yy FheK TC,bheK,⟨aheK,jheK,eheK⟩⟩
 have GheU:GM l.prog w K mg base CX0 1 CL "is_undoing" ["self"] (sE CL CS CH (wmk WA WB WD WE WF WG WN) K):=⟨fheU,_,yA FheU B TC,bheU,⟨aheU,jheU,eheU⟩⟩
 have GheC:GM l.prog w K mg base CX0 8 CL "came" ["self","sheet","word","sender","more"] (lQ CL CS CH (wmk WA WB WD WE WF WG WN) K):=⟨fheC,_,wK FheC TC GheK GheU GleA GleG,bheC,⟨aheC,jheC,eheC⟩⟩
 have GLI:=rB (P:=l.prog) (w:=w) (mg:=mg) (base:=base) FleI TA TP TC.n1 GC3
 have GEI:=rk (P:=l.prog) (w:=w) (mg:=mg) (base:=base) (CP:=CP) FheI B TC TP W (mg_of X G nCA) ⟨gaA,rdA,fcA,hiA,eleI⟩ GLI bleI GD3 Gh
 have GA2:GF l.prog w K mg base CX0 1 "_law_cell_at" ["_law_script","_law_k"] (jE K):=⟨fA2,_,wJ FA2 B,bA2,eA2,mA2⟩
 have GM2:GF l.prog w K mg base CX0 1 "_law_amount" ["_law_number"] qc:=⟨fM2,_,yO FM2,bM2,eM2,mM2⟩
 have GS2:GF l.prog w K mg base CX0 2 "_law_step" ["_law_number","_law_given","_law_none"] sL:=⟨fS2,_,yG FS2 B GM2,bS2,eS2,mS2⟩
 have GT2:GF l.prog w K mg base CX0 3 "_law_steps" ["_law_script"] (sF K):=⟨fT2,_,yB FT2 B GA2 GS2,bT2,eT2,mT2⟩
 have GL2:GF l.prog w K mg base CX0 1 "_law_last" ["_law_hands"] (oS K):=⟨fL2,_,wD FL2,bL2,eL2,mL2⟩
 have GP2:GF l.prog w K mg base CX0 2 "_law_plain" ["_law_steps_here","_law_hands"] (sH K):=⟨fP2,_,yC FP2 B GL2,bP2,eP2,mP2⟩
 have GD2:GF l.prog w K mg base CX0 1 "_law_due" ["_law_name","_law_steps_here","_law_back_here"] (sS K):=⟨fD2,_,yM FD2,bD2,eD2,mD2⟩
 have GB2:GF l.prog w K mg base CX0 1 "_law_back" ["_law_steps_here"] (oV K):=⟨fB2,_,wL FB2 B (mg_none_of X G y_enumerate) (mg_none_of X G y_reversed),bB2,eB2,mB2⟩
 have GY2:GF l.prog w K mg base CX0 9 "_law_way" ["_law_lead","_law_sheet","_law_steps_here","_law_many","_law_script"] (sD CL CS CH (wmk WA WB WD WE WF WG WN) K):=⟨fY2,_,yz FY2 B TC DH GA2 GM2 GP2 GshL GleG GleT GheC,bY2,eY2,mY2⟩
 have GC2:GF l.prog w K mg base CX0 9 "_law_came" ["_law_lead","_law_sheet","_law_steps_here","_law_back_here","_law_number"] (sM CL CS CH (wmk WA WB WD WE WF WG WN) K):=⟨fC2,_,yH FC2 TC GheC,bC2,eC2,mC2⟩
 exact yI FZ B TC D DH ⟨mkS,asdI,jsdI,kcS⟩ (mg_of X G nS) GSI bsdI ⟨mkH,ashI,jshI,kcH⟩ (mg_of X G nH) GHI bshI ⟨mkL,aheI,jheI,kcL⟩ (mg_of X G nL) GEI bheI GB3 GA2 GT2 GB2 GY2 GD2 GC2 GshW GshL GleT GleE
theorem walk{l:PySem.W.OpenLaw}{q:Program}{loose:List Str}{XP:(Str->Option Value)->Heap->Prop}{YP:World->Heap->Prop}{d:DefRec}{K:Params->Frag}(hn:l.most=some 63)(hdf:d.params.defaults=[])
  (hY:∀(w:World) (h:Heap),YP w h->(K w.params).In h)
  (F:∀(w:World) (mg:Str->Option Value) (fa:Addr) (h:Heap),(K w.params).In h->h.Ns mainGlobals mg->mg d.name=some (.ref fa) ->
   ∃fd:FuncData,(∀(s:Shared) (u:Value),BindsTo s fd ⟨[u],[]⟩ [("_law_script",u)])/\∀base:Heap,(K w.params).In base->base.Ns mainGlobals mg->FnOk l.prog w (K w.params) mg base CX0 10 fa fd ["_law_script"] (p7 (K w.params))) :
  PySem.W.WalkO q loose XP YP l.row.toRowW d [] (λf vs=>PySem.call f vs) :=
 L2.vz (n:=63) (k:=10) (x:="_law_script") (CX:=λ_=>CX0) (sp:=λw=>p7 (K w.params)) hn ζ hdf ⟨rfl,ζ,ζ⟩ hY F (λ_ _ a ns hl _ hS=>⟨a,ns,rfl,hS,hl,λ_=>rfl⟩) λ_ _ _ _ _ z=>z
end K45
open PySem PySem.W PyProof.Rows
set_option maxRecDepth 100000 in
set_option maxHeartbeats 0 in
theorem PySem.Challenge.cw_pactroom_k45_undone_from_the_last_holds : PySem.Challenge.rw_pactroom_k45_undone_from_the_last.Holds := by
 w_on;o_law
 refine holds_open (q:=Q.qv) (loose:=Q.lo) (Xt:=Q.Xt) (XP:=XL Q.qv Q.lvv) (Yf:=Hook.obs (kHook Q.Kf Q.Ka Q.ke)) (Ya:=Hook.val (kHook Q.Kf Q.Ka Q.ke)) (YP:=Hook.says (kHook Q.Kf Q.Ka Q.ke)) (N:=15600) Q.left (Hook.of (kHook Q.Kf Q.Ka Q.ke)) (Hook.keeps (kHook Q.Kf Q.Ka Q.ke)) (λs e=>xl_of s (Bool.and_eq_true_iff.mp e).1) XL.keeps (by rfl) (by rfl) (by rfl) (λs e=>recFacts_of (Bool.and_eq_true_iff.mp e).2) (by rfl) (by first | assumption | decide +kernel) (by decide +kernel) ⟨rfl,rfl,rfl,rfl,rfl,by decide +kernel⟩ ?hw ?hc
 (case hw=>w_witness2)
 k_fill
 refine K45.walk (l:=PySem.Challenge.rw_pactroom_k45_undone_from_the_last) rfl rfl (λw h Y=>PySem.W.kIn_of Y) ?F
 case F =>
  intro w mg fa h KX G hmg
  apply K45.all_mk KX G hmg
  all_goals first | k_is | exact K45.fnx (by k_is) (by k_is) (by k_is) | kit_is | k_exc | kernel_rfl | skip
#print axioms PySem.Challenge.cw_pactroom_k45_undone_from_the_last_holds
