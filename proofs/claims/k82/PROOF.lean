import PyProof.Rows.All
import Wide.All
import OpenK.AllK
import Wide.FinOn
import Lean
import PyProof.EqAt
import PyProof.EqKinds
import PyProof.TupleCall
import KE.KNestM
import PyProof.SetScanFacts
import PyProof.SetKind
import PyProof.TupleKey
import PyProof.Rows.SetFrom
import PyProof.WalksS
import PyProof.CollectWalk
import PyProof.StationsW
import PyProof.ExcClass2
import PyProof.InstStoreFacts
import PyProof.DictRoadsH
import PyProof.MeetsDict
import KE.KLam
import KE.KMinKey
import KE.KRevSl
import KE.KRevIter
import KE.KDictList
import KE.KTryMore
import PySem.Challenge.RW_pactroom_k82_papers_that_lie
set_option Elab.async false
set_option linter.all false
set_option genSizeOf false
set_option maxHeartbeats 4000000
set_option maxRecDepth 100000
abbrev ν:=@List.length_map
abbrev ϕ:=@List.mem_cons
abbrev ϵ:=@List.mem_singleton
abbrev ϑ:=@List.mem_map
abbrev ϖ:=@Nat.zero_le
abbrev ϰ:=@True.intro
abbrev ŝ:=@PyProof.Rows.slot_tuple_getitem
abbrev ũ:=@PyProof.Rows.boot_isinstance
abbrev ū:=@List.getElem?_append_right
abbrev ķ:=@Array.getElem?_eq_some_iff
abbrev ſ:=@List.getElem?_eq_some_iff
abbrev Ŕ:=@List.getElem?_append_left
abbrev œ:=@List.drop_eq_getElem_cons
abbrev ĵ:=@List.mem_or_eq_of_mem_set
abbrev ş:=@PySem.F.slot_list_append
abbrev Ş:=@PySem.F.type_list_append
abbrev ŀ:=@Nat.lt_succ_iff_lt_or_eq
abbrev Ĳ:=@List.getElem?_take_of_lt
abbrev Ţ:=@PySem.F.plainAttrs_list
abbrev Ľ:=@List.length_eq_zero_iff
abbrev ı:=@PySem.wpAny_getItem_str_slice
abbrev Ŧ:=@PySem.F.plainAttrs_str
abbrev š:=@List.getElem?_set_self
abbrev Š:=@PySem.Heap.get?_update_other
abbrev ř:=@Option.map_eq_some_iff
abbrev ĩ:=@PySem.Calls.callWith_builtin
abbrev Ħ:=@PyProof.Rows.boot_list
abbrev Ŝ:=@List.length_singleton
abbrev Ő:=@List.eq_nil_or_concat
abbrev ŏ:=@List.concat_eq_append
abbrev Ķ:=@PySem.Heap.get?_update_self
abbrev Ģ:=@PySem.W.methodCall_KW
abbrev ġ:=@Array.getElem?_toList
abbrev Ġ:=@PyProof.Rows.boot_int
abbrev ž:=@List.mem_of_getElem?
abbrev ť:=@List.getElem?_of_mem
abbrev Ō:=@List.mem_append_left
abbrev ŋ:=@List.getElem?_set_ne
abbrev Ŋ:=@PySem.W.looks_findIn
abbrev ň:=@List.mem_of_mem_take
abbrev Ŀ:=@List.mem_of_mem_drop
abbrev Ě:=@PySem.Calls.evalArgs_plain
abbrev Ę:=@PySem.codeAny_call_builtin
abbrev Ũ:=@PySem.mem_of_lookup
abbrev ŧ:=@Int.toNat_of_nonneg
abbrev Ň:=@beq_eq_false_iff_ne
abbrev Ļ:=@Array.toList_append
abbrev Ž:=@List.length_append
abbrev Ÿ:=@Nat.lt_of_lt_of_le
abbrev Ŵ:=@Int.emod_lt_of_pos
abbrev ű:=@Bool.false_ne_true
abbrev ō:=@PySem.Calls.spliced_cons
abbrev ń:=@PySem.wpAny_Call_Name_kw
abbrev Ń:=@PySem.W.callWith_K
abbrev ĸ:=@PySem.F.args_str_split_2
abbrev ĭ:=@List.mem_filterMap
abbrev Ĩ:=@List.getElem?_drop
abbrev ħ:=@Nat.lt_of_le_of_lt
abbrev Ż:=@List.getElem?_map
abbrev Ų:=@List.take_add_one
abbrev Ű:=@List.size_toArray
abbrev Ť:=@Array.size_append
abbrev Œ:=@PySem.wpAny_truthy_bool
abbrev ő:=@List.append_assoc
abbrev ľ:=@PySem.wpAny_loadPart_at
abbrev ĳ:=@PySem.F.entry_str_split
abbrev ğ:=@Int.toNat_natCast
abbrev Ğ:=@PySem.wpAny_newObj_type
abbrev ĝ:=@List.nodup_append
abbrev Ĝ:=@Nat.lt_of_succ_lt
abbrev ŷ:=@List.length_take
abbrev Ŷ:=@List.length_cons
abbrev Ū:=@List.take_length
abbrev Ś:=@List.length_drop
abbrev ł:=@Bool.and_eq_true
abbrev İ:=@PySem.F.slot_str_split
abbrev į:=@Array.toList_inj
abbrev ė:=@Nat.lt_succ_self
abbrev Ė:=@List.any_eq_true
abbrev ż:=@List.map_append
abbrev ź:=@List.mem_append
abbrev ų:=@List.append_nil
abbrev Ů:=@Int.emod_nonneg
abbrev ś:=@PySem.W.kia_one
abbrev Ř:=@Nat.not_lt_zero
abbrev ŕ:=@List.length_set
abbrev Ŏ:=@PySem.wpAny_execs_nil
abbrev ņ:=@Nat.min_eq_left
abbrev Ņ:=@PySem.PassesOwn.never
abbrev ļ:=@Bool.eq_iff_iff
abbrev Ĵ:=@PySem.wpAny_passesOwn
abbrev ĥ:=@List.nodup_cons
abbrev Ź:=@PySem.boot_len
abbrev ě:=@Bool.false_and
abbrev ŗ:=@PySem.wpAny_holding
abbrev Ŗ:=@List.map_cons
abbrev Ĺ:=@Nat.lt_irrefl
abbrev Ĥ:=@PySem.wpAny_standAt
abbrev ģ:=@List.map_take
abbrev ē:=@List.cons.inj
abbrev Ł:=@PySem.codeAny_mono
abbrev ĺ:=@Nat.sub_self
abbrev Į:=@Nat.le_of_lt
abbrev ĕ:=@Int.zero_add
abbrev Ĕ:=@List.map_map
abbrev Ē:=@PySem.wpAny_field
abbrev Ŭ:=@PySem.wpAny_mono
abbrev ţ:=@PySem.W.mg_none_of
abbrev Ĭ:=@beq_iff_eq
abbrev ī:=@PySem.wpAny_call
abbrev Ī:=@PySem.typeIs_str
abbrev ę:=@PySem.call_meets
abbrev ŵ:=@if_neg
abbrev ů:=@if_pos
abbrev ŭ:=@PySem.W.mg_of
abbrev î:=@List
abbrev ï:=PySem.Expr
abbrev ð:=PySem.Stmt
abbrev ñ:=PySem.Heap
abbrev ò:=PySem.W.Frag
abbrev ó:=PySem.Value
abbrev ô:=PySem.Around
abbrev õ:=PySem.FuncData
abbrev ö:=PySem.World
abbrev ø:=PySem.Addr
abbrev ù:=PySem.Program
abbrev ú:=PySem.Shared
abbrev û:=Array PySem.Value
abbrev ý:=Option PySem.Value
abbrev Ą:=List PySem.Expr
abbrev ą:=List PySem.Env
abbrev Ć:=List Nat
abbrev ć:=List Int
abbrev Ĉ:=List PySem.Str
abbrev ĉ:=List PySem.Addr
abbrev Ċ:=List PySem.Value
abbrev ċ:=List (PySem.Str×PySem.Addr)
abbrev ď:=PySem.Str->Option PySem.Value
abbrev Đ:=PySem.Value->PySem.Shared->Prop
abbrev đ:=List (PySem.Addr×PySem.Obj)
def ϱ.{u}{α:Sort u}{a:α}:a=a:=rfl
def θ{p:Prop}(h:p:=by decide +kernel):p:=h
def ζ{p:Prop}(h:p:=by decide):p:=h
def ω{p:Prop}(h:p:=by lia):p:=h
def χ{a b:Nat}(h:a.ble b=true:=by rfl):a<=b:=Nat.le_of_ble_eq_true h
abbrev ε:=@PySem.wpAny_bind
abbrev π:=@PySem.wpAny_pure
abbrev ρ:=@PySem.Heap.get?_push_of_some
abbrev ξ:=@List.getElem?_eq_getElem
abbrev τ:=@decide_eq_true
abbrev υ:=@Nat.le_succ_of_le
abbrev ι:=@Nat.le_refl
abbrev η:=@PySem.Heap.lt_size
abbrev ψ:=@PySem.Heap.get?_push_size
abbrev Γ:=@decide_eq_false
abbrev Δ:=@Option.some.inj
abbrev Θ:=@List.mem_cons_of_mem
abbrev Λ:=@Nat.le_trans
abbrev Ξ:=@of_decide_eq_true
abbrev Φ:=@Nat.ne_of_lt
abbrev Ψ:=@List.mem_append_right
abbrev Ω:=@List.mem_cons_self
open PySem.W (Frag)
namespace L2
open PySem PySem.Spec PyProof.Rows
abbrev Key:=Sum Int Str
def pW:Key->ó->Bool
 | .inl k,v=>Value.isInt k v
 | .inr x,v=>Value.isStrOf x v
def Fh(w:ö):Key->Int
 | .inl k=>hashInt k
 | .inr x=>hashStr w x
theorem bq:∀{k:Key} {v:ó},pW k v=true->(∃i t,k=Sum.inl i/\v=Value.int i t)\/(∃x t,k=Sum.inr x/\v=Value.str x t)
 | .inl i,v,h=>by
  obtain ⟨t,e⟩:=Value.isInt_shape (k:=i) (v:=v) h
  exact .inl ⟨i,t,ϱ,e⟩
 | .inr x,v,h=>by
  obtain ⟨t,e⟩:=Value.isStrOf_shape (x:=x) (v:=v) h
  exact .inr ⟨x,t,ϱ,e⟩
def wL(i:Int)(t:Tok):pW (.inl i) (.int i t)=true:=by simp [pW,Value.isInt]
def wK(x:Str)(t:Tok):pW (.inr x) (.str x t)=true:=by simp [pW,Value.isStrOf]
def Df(a b:Int):decide ((Sum.inl a:Key)=Sum.inl b)=(a==b):=by
 by_cases e:a=b
 .subst e;simp
 .have h:¬(Sum.inl a:Key)=Sum.inl b:=λq=>e (Sum.inl.inj q)
  exact Γ h▸(Ň.mpr e).symm
def Dc(a b:Str):decide ((Sum.inr a:Key)=Sum.inr b)=decide (a=b):=by
 by_cases e:a=b
 .subst e;simp
 .have h:¬(Sum.inr a:Key)=Sum.inr b:=λq=>e (Sum.inr.inj q)
  rw [Γ h,Γ e]
def De(a:Int)(b:Str):decide ((Sum.inl a:Key)=Sum.inr b)=false:=Γ (λq=>nomatch q)
def Dd(a:Str)(b:Int):decide ((Sum.inr a:Key)=Sum.inl b)=false:=Γ (λq=>nomatch q)
def ci(prog:ù)(w:ö):PySem.KeyKind prog w Key where
 is:=pW
 hash:=Fh w
 inj:=λv a b ha hb=>by
  rcases bq ha with ⟨i,t,rfl,rfl⟩ | ⟨x,t,rfl,rfl⟩
  .rcases bq hb with ⟨j,u,rfl,e⟩ | ⟨y,u,rfl,e⟩
   .injection e with e1 _;rw [e1]
   .exact nomatch e
  .rcases bq hb with ⟨j,u,rfl,e⟩ | ⟨y,u,rfl,e⟩
   .exact nomatch e
   .injection e with e1 _;rw [e1]
 byValue:=λk v h=>by
  rcases bq h with ⟨i,t,rfl,rfl⟩ | ⟨x,t,rfl,rfl⟩<;>rfl
 pyHash:=λhv h=>by
  rcases bq hv with ⟨i,t,rfl,rfl⟩ | ⟨x,t,rfl,rfl⟩
  .exact wpAny_pyHash_int h
  .exact wpAny_pyHash_str h
 eqBool:=λhu hv h=>by
  rcases bq hu with ⟨i,t,rfl,rfl⟩ | ⟨x,t,rfl,rfl⟩
  .rcases bq hv with ⟨j,u,rfl,rfl⟩ | ⟨y,u,rfl,rfl⟩
   .rw [Df] at h;exact wpAny_eqBool_int h
   .rw [De] at h;exact SeqAt.EqAt.int_str i t y u _ _ _ _ h
  .rcases bq hv with ⟨j,u,rfl,rfl⟩ | ⟨y,u,rfl,rfl⟩
   .rw [Dd] at h;exact SeqAt.EqAt.str_int x t j u _ _ _ _ h
   .rw [Dc] at h;exact wpAny_eqBool_str h
 «strs» := fun k x t v h => by
  rcases bq h with ⟨i,u,rfl,e⟩ | ⟨y,u,rfl,e⟩
  .exact nomatch e
  .injection e with e1 _
   subst e1
   cases v<;>rfl
def sP(prog:ù)(w:ö)(i:Int)(t:Tok):(ci prog w).is (.inl i) (.int i t)=true:=wL i t
def sO(prog:ù)(w:ö)(x:Str)(t:Tok):(ci prog w).is (.inr x) (.str x t)=true:=wK x t
inductive V where
 | non | bl (b:Bool) | int (i:Int) | str (x:Str) | byt (b:Array UInt8) | flt (b:UInt64) | ref (a:ø) | ty (n:String)
 deriving DecidableEq
def NP:V->ó->Prop
 | .non,u=>u=Value.none
 | .bl b,u=>u=Value.bool b
 | .int i,u=>∃t,u=Value.int i t
 | .str x,u=>∃t,u=Value.str x t
 | .byt b,u=>∃t,u=Value.bytes b t
 | .flt b,u=>∃t,u=Value.float b t
 | .ref a,u=>u=Value.ref a
 | .ty n,u=>u=Value.type n
abbrev NQ:î V->Ċ->Prop:=Paired NP
def NQ.length{xs:î V}{us:Ċ}(r:NQ xs us):xs.length=us.length:=Paired.length r
theorem NQ.get:∀{xs:î V} {us:Ċ} {i:Nat} {x:V},NQ xs us->xs[i]?=some x->∃u,us[i]?=some u/\NP x u
 | _,_,_,_,.nil,e=>by simp at e
 | _,_,0,_,.cons r _,e=>by simp at e;subst e;exact ⟨_,rfl,r⟩
 | _,_,i+1,x,.cons _ t,e=>by
  obtain ⟨u,h1,h2⟩:=NQ.get (i:=i) (x:=x) t (by simpa using e)
  exact ⟨u,by simpa using h1,h2⟩
theorem NQ.set{x:V}{u:ó}(r:NP x u):∀{xs:î V} {us:Ċ} (i:Nat),NQ xs us->NQ (xs.set i x) (us.set i u)
 | _,_,_,.nil=>.nil
 | _,_,0,.cons _ t=>.cons r t
 | _,_,i+1,.cons q t=>.cons q (NQ.set r i t)
theorem NQ.append:∀{xs ys:î V} {us ws:Ċ},NQ xs us->NQ ys ws->NQ (xs++ys) (us++ws)
 | _,_,_,_,.nil,s=>s
 | _,_,_,_,.cons r t,s=>.cons r (NQ.append t s)
theorem NQ.take:∀{xs:î V} {us:Ċ} (n:Nat),NQ xs us->NQ (xs.take n) (us.take n)
 | _,_,0,_=>.nil
 | _,_,_+1,.nil=>.nil
 | _,_,n+1,.cons r t=>.cons r (NQ.take n t)
theorem NQ.drop:∀{xs:î V} {us:Ċ} (n:Nat),NQ xs us->NQ (xs.drop n) (us.drop n)
 | _,_,0,r=>r
 | _,_,_+1,.nil=>.nil
 | _,_,n+1,.cons _ t=>NQ.drop n t
def RelO:Option V->ý->Prop
 | some v,some u=>NP v u
 | none,none=>True
 | _,_=>False
def KV{κ:Type}:î (κ×V)->î (κ×ó)->Prop:=Paired λ(p:κ×V) (q:κ×ó)=>p.1=q.1/\NP p.2 q.2
def kV:Key->V
 | .inl i=>.int i
 | .inr x=>.str x
inductive HO where
 | lst (xs:î V)
 | tup (xs:î V)
 | dK (kvs:List (Key×V)) | dT (kvs:List (List Key×V))
 | set (S:Int->Bool) (n:Nat)
 | ins (C dx:ø) (fs:List (Str×V))
 | own (x:ø)
 | xd (fs:List (Str×V))
 | met (f x:ø)
 | rng (lo hi:Int)
 | frz (o:Obj) (u:HO)
 | tbl (ps:û)
 | ext (φ:ñ->Prop)
abbrev Hp:=ø->Option HO
def upd(H:Hp)(a:ø)(o:HO):Hp:=λb=>if b=a then some o else H b
def upd_same{H:Hp}{a:ø}{o:HO}:upd H a o a=some o:=by unfold upd;rw [if_pos rfl]
abbrev Ny:=@upd_same
def am{H:Hp}{a b:ø}{o:HO}(h:b≠a):upd H a o b=H b:=by unfold upd;rw [if_neg h]
def vD{H:Hp}{a b:ø}{o u:HO}(h:H a=some o)(h':H b=some u)(d:o≠u):a≠b:=by
 intro e;subst e;rw [h] at h';exact d (Δ h')
def ap{H:Hp}{a b:ø}{o:HO}(h:H a=some o)(h':H b=none):a≠b:=by
 intro e;subst e;rw [h] at h';cases h'
section
variable (P:ù)(w:ö)
def NR(H:Hp)(h:ñ)(a:ø):HO->Prop
 | .lst xs=>xs.length<=sizeLine/\∃(its:Ċ) (n:Nat),NQ xs its/\h.get? a=some {cls:=.type "list",data:=.seq its.toArray n}
 | .tup xs=>xs.length<=sizeLine/\∃its:Ċ,NQ xs its/\IsTup h a its.toArray
 | .dK kvs=>kvs.length<=sizeLine/\(a==sysModules)=false/\∃vs,KV kvs vs/\h.DictOf (ci P w) a vs
 | .dT kvs=>kvs.length<=sizeLine/\(a==sysModules)=false/\∃xs:î (î Key×Addr×ó),
   Paired (λ(p:î Key×V) (q:î Key×Addr×ó)=>p.1=q.1/\H q.2.1=some (.tup (p.1.map kV))/\NP p.2 q.2.2) kvs xs /\
   ∃o es ep,h.get? a=some o/\o.ExactDict/\o.data=.dict es ep/\es.toList=xs.map (entryOfKey (tupleKind (ci P w)))/\(xs.map (·.1)).Nodup
 | .set S n=>h.SetOf (intKind P w) a S n
 | .ins C dx fs=>H dx=some (.own a)/\fs.length<=1000/\dx≠a/\h.get? a=some (PySem.W.instObj C dx) /\
   ∃mA,h.Ns1 dx mA/\(∀f,RelO (fs.lookup f) (mA f))/\PySem.Within mA (fs.map (·.1))
 | .own _=>∃o,h.get? a=some o
 | .xd fs=>∃mA,h.Ns1 a mA/\∀f,RelO (fs.lookup f) (mA f)
 | .rng lo hi=>∃t u v,h.get? a=some {cls:=.type "range",data:=.fields #[.int lo t,.int hi u,.int 1 v]}
 | .frz o u=>h.get? a=some o/\NR H h a u
 | .tbl ps=>h.get? a=some {cls:=.none,data:=.fields ps}
 | .met f x=>h.get? a=some (PySem.W.methodObj (.ref f) (.ref x))
 | .ext φ=>φ h/\(∃o,h.get? a=some o)/\∀h1 h2:ñ,φ h1->(∀o,h1.get? a=some o->h2.get? a=some o)->φ h2
def NS(H:Hp)(h:ñ):Prop:=∀a o,H a=some o->NR P w H h a o
end
section
variable {P:ù}{w:ö}{H H':Hp}{h h':ñ}{a:ø}{o:HO}
def NR.lt(x:NR P w H h a o):a<h.objs.size:=by
 cases o with
 | lst xs=>obtain ⟨_,_,_,_,e⟩:=x;exact η e
 | tup xs=>obtain ⟨_,_,_,p⟩:=x;exact p.lt
 | dK kvs=>obtain ⟨_,_,_,_,o,_,_,e,_⟩:=x;exact η e
 | dT kvs=>obtain ⟨_,_,_,_,o,_,_,e,_⟩:=x;exact η e
 | set S n=>obtain ⟨o,_,_,_,e,_⟩:=x;exact η e
 | ins C dx fs=>obtain ⟨_,_,_,e,_⟩:=x;exact η e
 | own y=>obtain ⟨_,e⟩:=x;exact η e
 | xd fs=>obtain ⟨_,⟨_,_,_,e,_⟩,_⟩:=x;exact η e
 | rng lo hi=>obtain ⟨_,_,_,e⟩:=x;exact η e
 | frz ob u=>obtain ⟨e,_⟩:=x;exact η e
 | tbl ps=>exact η (show h.get? a=some _ from x)
 | met f y=>exact η (show h.get? a=some _ from x)
 | ext φ=>obtain ⟨_,⟨_,e⟩,_⟩:=x;exact η e
theorem Paired.mapP{α β:Type}{F G:α->β->Prop}:∀{l₁:î α} {l₂:î β},Paired F l₁ l₂->(∀a b,F a b->G a b)->Paired G l₁ l₂
 | _,_,.nil,_=>.nil
 | _,_,.cons r t,f=>.cons (f _ _ r) (Paired.mapP t f)
abbrev NB:=@Paired.mapP
def NR.stay(x:NR P w H h a o)(k:∀b u,(b=a\/H b=some (.own a))->h.get? b=some u->h'.get? b=some u)
  (L:∀b,H b=some (.own a)->H' b=some (.own a))(O:∀b xs,H b=some (.tup xs)->H' b=some (.tup xs)):NR P w H' h' a o:=by
 induction o with
 | lst xs=>obtain ⟨z,D,n,r,e⟩:=x;exact ⟨z,D,n,r,k _ _ (.inl rfl) e⟩
 | tup xs=>obtain ⟨z,D,r,g,e,c⟩:=x;exact ⟨z,D,r,g,k _ _ (.inl rfl) e,c⟩
 | dK kvs=>obtain ⟨z,y,vs,r,g,j,l,e,c⟩:=x;exact ⟨z,y,vs,r,g,j,l,k _ _ (.inl rfl) e,c⟩
 | dT kvs =>
  obtain ⟨z,y,xs,r,g,j,l,e,c⟩:=x
  exact ⟨z,y,xs,NB r λp q z=>⟨z.1,O _ _ z.2.1,z.2.2⟩,g,j,l,k _ _ (.inl rfl) e,c⟩
 | set S n=>obtain ⟨g,j,l,t,e,c⟩:=x;exact ⟨g,j,l,t,k _ _ (.inl rfl) e,c⟩
 | ins C dx fs =>
  obtain ⟨d,z,J,e,F,⟨G,j,l,K,c⟩,r⟩:=x
  exact ⟨L _ d,z,J,k _ _ (.inl rfl) e,F,⟨G,j,l,k _ _ (.inr d) K,c⟩,r⟩
 | own y=>obtain ⟨g,e⟩:=x;exact ⟨g,k _ _ (.inl rfl) e⟩
 | xd fs=>obtain ⟨F,⟨G,j,l,e,c⟩,r⟩:=x;exact ⟨F,⟨G,j,l,k _ _ (.inl rfl) e,c⟩,r⟩
 | rng lo hi=>obtain ⟨t,u,v,e⟩:=x;exact ⟨t,u,v,k _ _ (.inl rfl) e⟩
 | frz g u ih=>obtain ⟨e,q⟩:=x;exact ⟨k _ _ (.inl rfl) e,ih q⟩
 | tbl ps =>
  have e:h.get? a=some {cls:=.none,data:=.fields ps}:=x
  show h'.get? a=some {cls:=.none,data:=.fields ps}
  exact k a _ (.inl rfl) e
 | met f y =>
  have e:h.get? a=some (PySem.W.methodObj (.ref f) (.ref y)):=x
  show h'.get? a=some (PySem.W.methodObj (.ref f) (.ref y))
  exact k a _ (.inl rfl) e
 | ext φ=>obtain ⟨p,⟨o,e⟩,I⟩:=x;exact ⟨I _ _ p λo q=>k _ _ (.inl rfl) q,⟨o,k _ _ (.inl rfl) e⟩,I⟩
def NS.lt(x:NS P w H h)(e:H a=some o):a<h.objs.size:=(x a o e).lt
def NS.fresh(x:NS P w H h)(e:h.objs.size<=a):H a=none:=by
 cases q:H a with
 | none=>rfl
 | some u=>exact absurd (Ÿ (x.lt q) e) (Ĺ _)
def NS.kept(x:NS P w H h)(k:∀b u,h.get? b=some u->h'.get? b=some u):NS P w H h':=λa o e =>
 (x a o e).stay (λb u _ q=>k b u q) (λ_ q=>q) λ_ _ q=>q
def NS.laid(x:NS P w H h)(k:∀b u,h.get? b=some u->h'.get? b=some u)(hp:h.objs.size<=a)(new:NR P w (upd H a o) h' a o):NS P w (upd H a o) h':=λb u e=>by
 have hn:=x.fresh hp
 by_cases hb:b=a
 .subst hb;cases Ny▸e;exact new
 .rw [am hb] at e
  exact (x b u e).stay (λc v _ q=>k c v q) (λc q=>by rw [am (ap q hn)];exact q) λc xs q=>by rw [am (ap q hn)];exact q
end
def Rd(H:Hp)(a:ø)(u:HO):Prop:=H a=some u\/∃o,H a=some (.frz o u)
def Rd.ok{P:ù}{w:ö}{H:Hp}{h:ñ}{a:ø}{u:HO}(r:Rd H a u)(x:NS P w H h):NR P w H h a u:=by
 rcases r with r | ⟨o,r⟩
 .exact x a u r
 .obtain ⟨_,q⟩:=x a _ r
  exact q
def Mut:Option HO->Prop
 | some (.lst _)=>True
 | some (.dK _)=>True
 | some (.dT _)=>True
 | some (.set _ _)=>True
 | some (.ins _ _ _)=>True
 | some (.ext _)=>True
 | _=>False
section
variable {P:ù}{w:ö}{H:Hp}{h h':ñ}{x e:ø}{o':HO}
def NS.write(ok:NS P w H h)(d:Mut (H x))(g:e=x\/H e=some (.own x))(k:∀b u,b≠e->h.get? b=some u->h'.get? b=some u)(f:∃u,h'.get? e=some u)
  (new:NR P w (upd H x o') h' x o'):NS P w (upd H x o') h':=λb u q=>by
 have nown:∀c y,H c=some (.own y)->c≠x:=λc y r z=>by subst z;rw [r] at d;exact d
 have ntup:∀c xs,H c=some (.tup xs)->c≠x:=λc xs r z=>by subst z;rw [r] at d;exact d
 by_cases hb:b=x
 .subst hb;cases Ny▸q;exact new
 .rw [am hb] at q
  by_cases hbe:b=e
  .have q':H b=some (.own x):=by
    rcases g with z | z
    .exact absurd (hbe.trans z) hb
    .rw [hbe];exact z
   rw [q] at q';cases q'
   obtain ⟨v,j⟩:=f
   exact ⟨v,by rw [hbe];exact j⟩
  .refine (ok b u q).stay (λc v hc r=>k c v ?_ r) (λc r=>by rw [am (nown c b r)];exact r) λc xs r=>by rw [am (ntup c xs r)];exact r
   rcases hc with rfl | hc
   .exact hbe
   .rintro rfl
    rcases g with z | z
    .exact nown c b hc z
    .cases hc▸z;exact hb rfl
end
structure Un(fs ex:ĉ)(H H':Hp)(h h':ñ):Prop where
 keep:∀b o,h.get? b=some o->H b=none->b∉fs->b∉ex->h'.get? b=some o
 slot:∀b o,h.get? b=some o->H b=none->b∈fs->b∉ex->∃sl,h'.get? b=some {o with slots:=sl}
 free:∀b o,h.get? b=some o->H b=none->b∉ex->H' b=none
 there:∀b o,h.get? b=some o->b∉ex->∃o',h'.get? b=some o'
 tups:∀b xs,H b=some (.tup xs)->H' b=some (.tup xs)
 frzs:∀b o u,H b=some (.frz o u)->H' b=some (.frz o u)
 tbls:∀b ps,H b=some (.tbl ps)->∃more,H' b=some (.tbl (ps++more))
section
variable {fs fs' ex ex':ĉ}{H H1 H2:Hp}{h h1 h2 h':ñ}{a x e:ø}{o:HO}
def Un.any(u:Un fs ex H H1 h h1){b:ø}{d:Obj}(q:h.get? b=some d)(n:H b=none)(hx:b∉ex):∃sl,h1.get? b=some {d with slots:=sl}:=by
 by_cases hb:b∈fs
 .exact u.slot b d q n hb hx
 .exact ⟨d.slots,u.keep b d q n hb hx⟩
def Un.kept(k:∀b u,h.get? b=some u->h'.get? b=some u):Un fs ex H H h h' :=
 ⟨λb ob q _ _ _=>k b ob q,λb ob q _ _ _=>⟨ob.slots,k b ob q⟩,λ_ _ _ n _=>n,λb ob q _=>⟨ob,k b ob q⟩,λ_ _ q=>q,λ_ _ _ q=>q,λ_ ps q=>⟨#[],by rw [q];simp⟩⟩
def Un.refl:Un fs ex H H h h:=Un.kept λ_ _ q=>q
def Un.laid(k:∀b u,h.get? b=some u->h'.get? b=some u)(hp:h.objs.size<=a)(hn:H a=none):Un fs ex H (upd H a o) h h' where
 keep:=λb u q _ _ _=>k b u q
 slot:=λb u q _ _ _=>⟨u.slots,k b u q⟩
 free:=λb u q n _=>by rw [am (Φ (Ÿ (η q) hp))];exact n
 there:=λb u q _=>⟨u,k b u q⟩
 tups:=λb xs q=>by rw [am (ap q hn)];exact q
 frzs:=λb u xs q=>by rw [am (ap q hn)];exact q
 tbls:=λb ps q=>⟨#[],by rw [am (ap q hn),q];simp⟩
def Un.write(d:Mut (H x))(t:e=x\/H e=some (.own x))(k:∀b u,b≠e->h.get? b=some u->h'.get? b=some u)(g:∃u,h'.get? e=some u):Un fs ex H (upd H x o) h h':=by
 have j:∀b,H b=none->b≠x:=λb n z=>by subst z;rw [n] at d;exact d
 have l:∀b,H b=none->b≠e:=λb n z=>by
  subst z
  rcases t with r | r
  .exact j b n r
  .cases n▸r
 have f:∀b u,H b=some u->¬Mut (some u)->b≠x:=λb u q nm z=>by subst z;rw [q] at d;exact nm d
 refine ⟨λb u q n _ _=>k b u (l b n) q,λb u q n _ _=>⟨u.slots,k b u (l b n) q⟩,λb u q n _=>by rw [am (j b n)];exact n,λb u q _=>?_,
  λb xs q=>by rw [am (f b _ q λz=>z)];exact q,λb u xs q=>by rw [am (f b _ q λz=>z)];exact q,λb w q=>⟨#[],by rw [am (f b _ q λz=>z),q];simp⟩⟩
 by_cases hbe:b=e
 .subst hbe;exact g
 .exact ⟨u,k b u hbe q⟩
end
def trk(h:ñ)(H:Hp):ĉ:=(List.range h.objs.size).filter λa=>(H a).isSome
def pC(h:ñ)(H:Hp):ñ:=PySem.W.hideAll h (trk h H)
def wP(h:ñ)(H:Hp):(pC h H).objs.size=h.objs.size:=PySem.W.hideAll_size _ _
def zq{h:ñ}{H:Hp}{b:ø}{o:Obj}(e:h.get? b=some o)(n:H b=none):(pC h H).get? b=some o :=
 PySem.W.hideAll_get _ e λhm=>by
  have q:(H b).isSome=true:=(List.mem_filter.mp hm).2
  rw [n] at q;simp at q
def A6{h:ñ}{H:Hp}{b:ø}{o:Obj}(e:(pC h H).get? b=some o):h.get? b=some o/\H b=none:=by
 have d:h.get? b=some o:=PySem.W.of_hideAll (trk h H) e
 refine ⟨d,?_⟩
 cases q:H b with
 | none=>rfl
 | some x =>
  have f:b∈trk h H:=List.mem_filter.mpr ⟨List.mem_range.mpr (Heap.lt_size d),by simp [q]⟩
  have z:(pC h H).get? b=none:=PySem.W.hideAll_none (trk h H) f
  cases z▸e
structure Mod(K:ò)(mg:ď)(base:ñ):Prop where
 kin:K.In base
 glob:base.Ns mainGlobals mg
 blt:∃mb,base.Ns builtinsNs mb/\∀x:Str,x≠"__name__"->mb x=bootBuiltins x
 nolimit:base.NoLimit
structure Cx where
 prog:ù
 w:ö
 K:ò
 mg:ď
 base:ñ
 A:ô
 N:Ĉ
 s₀:ú
 H₀:Hp
 env:Env
 outer:ą
 stack:ą
 ex:ĉ
 fn:Str->Bool
 calm:Bool
 pn:đ
 xe:Đ
def frs(l:ą):ĉ:=l.filterMap (·.frame)
abbrev Cx.fs(X:Cx):ĉ:=frs X.outer
def Vis(sc:Scope)(x:Str):Prop:=sc.names.lookup x=some .local\/sc.names.lookup x=some .cell\/sc.names.lookup x=some .free
def Loc(sc:Scope)(x:Str):Prop:=sc.names.lookup x=some .local\/sc.names.lookup x=some .cell
def Fw(env:Env)(h:ñ)(m:ď)(x:Str)(u:ó):Prop :=
 (env.kindOf x=some .local/\m x=some u)\/((env.kindOf x=some .cell\/env.kindOf x=some .free)/\∃c,env.cells.lookup x=some c/\h.IsCell c (some u))
structure Cx.Ok(X:Cx):Prop where
 mod:Mod X.K X.mg X.base
 kind:X.env.scope.kind=.function
 glob:X.env.globals=mainGlobals
 blt:X.env.builtins=builtinsNs
 above:X.s₀.heap.objs.size<=X.env.locals
 inj:∀x y c,X.env.cells.lookup x=some c->X.env.cells.lookup y=some c->x=y
 has:∀x,(X.env.kindOf x=some .cell\/X.env.kindOf x=some .free)->∃c,X.env.cells.lookup x=some c
 cab:∀x c,X.fn x=true->X.env.cells.lookup x=some c->X.s₀.heap.objs.size<=c
 hd:X.calm=true->X.A.handled=none
 frames:X.A.frames=some X.stack
 stk:X.stack=X.outer\/(X.stack=X.env::X.outer/\X.env.frame=some X.env.locals)
 exf:∀b∈X.ex,b≠X.env.locals/\∀x c,X.env.cells.lookup x=some c->c≠b
 bs:∀b o,X.base.get? b=some o->X.s₀.heap.get? b=some o/\X.H₀ b=none
 bsz:X.base.objs.size<=X.s₀.heap.objs.size
 noex:∀b o,X.base.get? b=some o->b∉X.ex
 exfs:∀b∈X.ex,b∉X.fs
 funs:X.s₀.heap.FunFrames X.base X.outer
 frf:∀b∈X.fs,X.H₀ b=none
structure NM(X:Cx)(pins:đ)(σ:î (Option V))(H:Hp)(s:ú):Prop where
 ok:X.Ok
 os:s.os=X.s₀.os
 bare:AllBare s.gens
 base:Un X.fs X.ex X.H₀ H X.s₀.heap s.heap
 loc:∃m,s.heap.Ns X.env.locals m/\∀(i:Nat) (x:Str) (v:V),X.N[i]?=some x->σ[i]?=some (some v)->Vis X.env.scope x->∃u,NP v u/\Fw X.env s.heap m x u
 cell:∀x c,X.env.cells.lookup x=some c->∃v,s.heap.IsCell c v
 free:H X.env.locals=none
 freeC:∀x c,X.env.cells.lookup x=some c->H c=none
 pin:∀p∈X.pn++pins,s.heap.get? p.1=some p.2/\H p.1=none/\p.1≠X.env.locals/\p.1∉X.fs/\∀v,p.2.data≠.cell v
 hok:NS X.prog X.w H s.heap
 len:σ.length=X.N.length
section
variable {X:Cx}{pins:đ}{σ:î (Option V)}{H H':Hp}{s:ú}{h':ñ}
def Cx.Ok.nofr(ok:X.Ok){b:ø}{o:Obj}(e:X.base.get? b=some o):b∉X.fs:=λhb=>by
 have:=(ok.funs.mem hb).1
 cases e▸this
def NM.bs(I:NM X pins σ H s):∀b o,X.base.get? b=some o->s.heap.get? b=some o/\H b=none:=λb o e =>
 ⟨I.base.keep b o (I.ok.bs b o e).1 (I.ok.bs b o e).2 (I.ok.nofr e) (I.ok.noex b o e),I.base.free b o (I.ok.bs b o e).1 (I.ok.bs b o e).2 (I.ok.noex b o e)⟩
def NM.bk(I:NM X pins σ H s):∀b o,X.base.get? b=some o->s.heap.get? b=some o:=λb o e=>(I.bs b o e).1
def NM.mod(I:NM X pins σ H s):Mod X.K X.mg X.base:=I.ok.mod
def NM.kIn(I:NM X pins σ H s):X.K.In s.heap:=I.ok.mod.kin.keeps I.bk
def NM.lt(I:NM X pins σ H s):X.env.locals<s.heap.objs.size:=let ⟨_,hn,_⟩:=I.loc;hn.lt
def NM.sz(I:NM X pins σ H s):X.s₀.heap.objs.size<=s.heap.objs.size:=Λ I.ok.above (Į I.lt)
def NM.nofs(I:NM X pins σ H s){a:ø}(h:s.heap.objs.size<=a):a∉X.fs:=λhb=>by
 obtain ⟨_,o,ho,_⟩:=I.ok.funs.mem hb
 exact absurd (Ÿ (η ho) (Λ I.sz h)) (Ĺ _)
def NM.cne(I:NM X pins σ H s):∀x c,X.env.cells.lookup x=some c->c≠X.env.locals:=λx c e z=>by
 obtain ⟨v,o,ho,hd⟩:=I.cell x c e
 obtain ⟨m,⟨o',es,ep,ho',hd',_⟩,_⟩:=I.loc
 rw [z,ho'] at ho;cases ho;cases hd'▸hd
def NM.funs(I:NM X pins σ H s):s.heap.FunFrames X.base X.outer:=by
 have all:∀(l:ą),(∀b∈frs l,b∈X.fs)->X.s₀.heap.FunFrames X.base l->s.heap.FunFrames X.base l:=by
  intro l
  induction l with
  | nil=>intro _ _;trivial
  | cons env r ih =>
   intro h w
   obtain ⟨j,⟨L,o,d,k,q,t⟩,u⟩:=w
   have f:L∈X.fs:=h L (by unfold frs;rw [List.filterMap_cons,d];exact List.mem_cons_self)
   obtain ⟨x,e⟩:=I.base.slot L o q (I.ok.frf L f) f λz=>I.ok.exfs L z f
   exact ⟨j,⟨L,_,d,k,e,t⟩,ih (λb g=>h b (by unfold frs;rw [List.filterMap_cons,d];exact List.mem_cons_of_mem _ g)) u⟩
 exact all X.outer (λ_ g=>g) I.ok.funs
def NM.stack(I:NM X pins σ H s):s.heap.FunFrames X.base X.stack:=by
 rcases I.ok.stk with e | ⟨e,hf⟩
 .rw [e];exact I.funs
 .rw [e]
  obtain ⟨m,d,_⟩:=I.loc
  refine .cons (by rw [I.ok.kind];decide) hf d ?_ I.funs
  exact Heap.get?_none_of_le (Λ I.ok.bsz I.ok.above)
def NM.stkSub(I:NM X pins σ H s):∀b∈frs X.stack,b∈X.env.locals::X.fs:=λb hb=>by
 rcases I.ok.stk with e | ⟨e,hf⟩
 .rw [e] at hb;exact Θ _ hb
 .rw [e] at hb
  unfold frs at hb
  rw [List.filterMap_cons,hf] at hb
  exact hb
def NM.stkFree(I:NM X pins σ H s):∀b∈frs X.stack,H b=none:=λb hb=>by
 rcases ϕ.mp (I.stkSub b hb) with e | hb
 .rw [e];exact I.free
 .obtain ⟨_,o,ho,_⟩:=I.ok.funs.mem hb
  exact I.base.free b o ho (I.ok.frf b hb) λz=>I.ok.exfs b z hb
def NM.step{g':Array GenState}{t':Nat}{d':Drawn}{ch:ĉ}(I:NM X pins σ H s)
  (t:∀b∈ch,(b∈X.ex\/X.s₀.heap.objs.size<=b)/\b≠X.env.locals/\(∀x c,X.env.cells.lookup x=some c->c≠b)/\∀p∈X.pn++pins,p.1≠b)
  (keep:∀b o,b≠X.env.locals->b∉X.fs->b∉ch->s.heap.get? b=some o->H b=none->h'.get? b=some o)
  (D:∀b o,b≠X.env.locals->b∈X.fs->b∉ch->s.heap.get? b=some o->H b=none->∃sl,h'.get? b=some {o with slots:=sl})(g:∀b o,b∉ch->s.heap.get? b=some o->H b=none->H' b=none)
  (there:∀b o,b∉ch->s.heap.get? b=some o->∃o',h'.get? b=some o')
  (L:∀b xs,H b=some (.tup xs)->H' b=some (.tup xs))(O:∀b o u,H b=some (.frz o u)->H' b=some (.frz o u))(P:∀b ps,H b=some (.tbl ps)->∃more,H' b=some (.tbl (ps++more)))
  (ns:∀m,s.heap.Ns X.env.locals m->h'.Ns X.env.locals m)(W:NS X.prog X.w H' h')(hg:AllBare g') :
  NM X pins σ H' {s with heap:=h',gens:=g',drawn:=d',toks:=t'}:=by
 have K:∀b o,X.s₀.heap.get? b=some o->b≠X.env.locals:=λb o e=>Φ (Ÿ (η e) I.ok.above)
 have C:∀b o,X.s₀.heap.get? b=some o->b∉X.ex->b∉ch:=λb o e f F=>by
  rcases (t b F).1 with z | z
  .exact f z
  .exact absurd (Ÿ (η e) z) (Ĺ _)
 have h:∀x c,X.env.cells.lookup x=some c->∀v,s.heap.IsCell c v->h'.IsCell c v:=λx c e v ⟨o,G,U⟩=>by
  have j:c∉ch:=λz=>(t c z).2.2.1 x c e rfl
  by_cases hc:c∈X.fs
  .obtain ⟨sl,q⟩:=D c o (I.cne x c e) hc j G (I.freeC x c e)
   exact ⟨_,q,U⟩
  .exact ⟨o,keep c o (I.cne x c e) hc j G (I.freeC x c e),U⟩
 refine ⟨I.ok,I.os,hg,⟨λb o e n F f=>?_,λb o e n F f=>?_,λb o e n f=>?_,λb o e f=>?_,λb xs e=>L b xs (I.base.tups b xs e),λb o xs e=>O b o xs (I.base.frzs b o xs e),λb ps e=>?_⟩,?_,λx c e=>?_,?_,λx c e=>?_,λp hp=>?_,W,I.len⟩
 .exact keep b o (K b o e) F (C b o e f) (I.base.keep b o e n F f) (I.base.free b o e n f)
 .obtain ⟨sl,y⟩:=I.base.slot b o e n F f
  obtain ⟨Q,J⟩:=D b _ (K b o e) F (C b o e f) y (I.base.free b o e n f)
  exact ⟨Q,J⟩
 .obtain ⟨o',y⟩:=I.base.there b o e f
  exact g b o' (C b o e f) y (I.base.free b o e n f)
 .obtain ⟨o',y⟩:=I.base.there b o e f
  exact there b o' (C b o e f) y
 .obtain ⟨m1,y⟩:=I.base.tbls b ps e
  obtain ⟨m2,J⟩:=P b _ y
  exact ⟨m1++m2,by rw [J,Array.append_assoc]⟩
 .obtain ⟨m,hn,hl⟩:=I.loc
  refine ⟨m,ns m hn,λi x v y J e3=>?_⟩
  obtain ⟨u,r,l⟩:=hl i x v y J e3
  refine ⟨u,r,?_⟩
  rcases l with l | ⟨k,c,e,z⟩
  .exact .inl l
  .exact .inr ⟨k,c,e,h x c e _ z⟩
 .obtain ⟨v,z⟩:=I.cell x c e
  exact ⟨v,h x c e v z⟩
 .obtain ⟨m,⟨o,_,_,G,_⟩,_⟩:=I.loc
  exact g _ o (λz=>(t _ z).2.1 rfl) G I.free
 .obtain ⟨v,o,G,U⟩:=I.cell x c e
  exact g c o (λz=>(t c z).2.2.1 x c e rfl) G (I.freeC x c e)
 .obtain ⟨e,n,Y,Z,d⟩:=I.pin p hp
  have j:p.1∉ch:=λz=>(t p.1 z).2.2.2 p hp rfl
  exact ⟨keep p.1 p.2 Y Z j e n,g p.1 p.2 j e n,Y,Z,d⟩
def NM.un{t':Nat}(I:NM X pins σ H s)(u:Un X.fs [] H H' s.heap h')(j:NS X.prog X.w H' h'):NM X pins σ H' {s with heap:=h',toks:=t'}:=by
 obtain ⟨m,⟨o,x,y,k,r⟩,_⟩:=id I.loc
 obtain ⟨C,l⟩:=u.any k I.free (by simp)
 exact I.step (g':=s.gens) (d':=s.drawn) (ch:=[]) (λ_ z=>nomatch z) (λb o _ h _ e n=>u.keep b o e n h (by simp)) (λb o _ h _ e n=>u.slot b o e n h (by simp)) (λb o _ e n=>u.free b o e n (by simp)) (λb o _ e=>u.there b o e (by simp)) u.tups u.frzs u.tbls (λF t=>by
  obtain ⟨D,f,g,d,q⟩:=t
  rw [k] at d;cases d
  exact ⟨_,f,g,l,q⟩) j I.bare
def NM.call{g':Array GenState}{t':Nat}{d':Drawn}{ch:ĉ}(I:NM X pins σ H s)(u:Un (frs X.stack) ch H H' s.heap h')(l:NS X.prog X.w H' h')(D:AllBare g')
  (g:∀b∈ch,(b∈X.ex\/X.s₀.heap.objs.size<=b)/\b≠X.env.locals/\(∀x c,X.env.cells.lookup x=some c->c≠b)/\∀p∈X.pn++pins,p.1≠b) :
  NM X pins σ H' {s with heap:=h',gens:=g',drawn:=d',toks:=t'}:=by
 obtain ⟨m,⟨o,F,G,q,r⟩,_⟩:=id I.loc
 obtain ⟨J,h⟩:=u.any q I.free λz=>(g _ z).2.1 rfl
 exact I.step (ch:=ch) g (λb o h y d e n=>u.keep b o e n (λz=>(ϕ.mp (I.stkSub b z)).elim h y) d) (λb o _ _ d e n=>u.any e n d) (λb o d e n=>u.free b o e n d) (λb o d e=>u.there b o e d) u.tups u.frzs u.tbls (λL C=>by
  obtain ⟨K,j,k,f,t⟩:=C
  rw [q] at f;cases f
  exact ⟨_,j,k,h,t⟩) l D
def NM.turned{t':Nat}{it:ø}(I:NM X pins σ H s)(k:∀b o,b≠it->s.heap.get? b=some o->h'.get? b=some o)(y:H it=none)(g:it≠X.env.locals)
  (h1:it∈X.ex\/X.s₀.heap.objs.size<=it)(C:∀x c,X.env.cells.lookup x=some c->c≠it)(D:∀p∈X.pn++pins,p.1≠it):NM X pins σ H {s with heap:=h',toks:=t'}:=by
 have f:∀b u,H b=some u->b≠it:=λb u e z=>by rw [z,y] at e;cases e
 refine I.step (g':=s.gens) (d':=s.drawn) (ch:=[it]) (λb t=>?_) (λb o _ _ d e _=>k b o (λz=>d (by simp [z])) e) (λb o _ _ d e _=>⟨o.slots,k b o (λz=>d (by simp [z])) e⟩) (λ_ _ _ _ n=>n)
  (λb o d e=>⟨o,k b o (λz=>d (by simp [z])) e⟩) (λ_ _ e=>e) (λ_ _ _ e=>e) (λb F e=>⟨#[],by rw [e];simp⟩) (λm w=>?_) (λb u e=>?_) I.bare
 .have e:b=it:=by simpa using t
  subst e
  exact ⟨h1,g,C,D⟩
 .obtain ⟨o,h,j,l,r⟩:=w
  exact ⟨o,h,j,k _ o (Ne.symm g) l,r⟩
 .refine (I.hok b u e).stay (λc v d q=>k c v ?_ q) (λ_ q=>q) λ_ _ q=>q
  rcases d with z | z
  .rw [z];exact f b u e
  .exact f c _ z
def NM.tok(I:NM X pins σ H s)(t:Nat):NM X pins σ H {s with toks:=t}:=I.un (h':=s.heap) (t':=t) Un.refl I.hok
def NM.kept{t':Nat}(I:NM X pins σ H s)(k:∀b u,s.heap.get? b=some u->h'.get? b=some u):NM X pins σ H {s with heap:=h',toks:=t'}:=I.un (Un.kept k) (I.hok.kept k)
def NM.laid{a:ø}{o:HO}{t':Nat}(I:NM X pins σ H s)(k:∀b u,s.heap.get? b=some u->h'.get? b=some u)(hp:s.heap.objs.size<=a)(new:NR X.prog X.w (upd H a o) h' a o) :
  NM X pins σ (upd H a o) {s with heap:=h',toks:=t'}:=I.un (Un.laid k hp (I.hok.fresh hp)) (I.hok.laid k hp new)
def NM.write{x e:ø}{o:HO}{t':Nat}(I:NM X pins σ H s)(mu:Mut (H x))(he:e=x\/H e=some (.own x))(k:∀b u,b≠e->s.heap.get? b=some u->h'.get? b=some u)(heo:∃u,h'.get? e=some u)
  (new:NR X.prog X.w (upd H x o) h' x o):NM X pins σ (upd H x o) {s with heap:=h',toks:=t'}:=I.un (Un.write mu he k heo) (I.hok.write mu he k heo new)
def NM.weak{σ':î (Option V)}(I:NM X pins σ H s)(hl:σ'.length=σ.length)(w:∀(i:Nat) v,σ'[i]?=some (some v)->σ[i]?=some (some v)):NM X pins σ' H s :=
 ⟨I.ok,I.os,I.bare,I.base,let ⟨m,hn,hl'⟩:=I.loc;⟨m,hn,λi x v e1 e2 e3=>hl' i x v e1 (w i v e2) e3⟩,I.cell,I.free,I.freeC,I.pin,I.hok,hl.trans I.len⟩
def NM.pins_of{pins':đ}(I:NM X pins σ H s)(h:∀p∈pins',s.heap.get? p.1=some p.2/\H p.1=none/\p.1≠X.env.locals/\p.1∉X.fs/\∀v,p.2.data≠.cell v):NM X pins' σ H s :=
 ⟨I.ok,I.os,I.bare,I.base,I.loc,I.cell,I.free,I.freeC,λp hp=>(ź.mp hp).elim (λz=>I.pin p (Ō _ z)) (h p),I.hok,I.len⟩
def oA{N:Ĉ}(hN:N.Nodup){i j:Nat}{x:Str}(a:N[i]?=some x)(b:N[j]?=some x):i=j:=by
 obtain ⟨h1,d⟩:=ſ.mp a
 obtain ⟨f,e⟩:=ſ.mp b
 exact (List.getElem_inj hN).mp (d.trans e.symm)
def pL{M:Model}{A:ô}{E:Đ}{i:Nat}{x:Str}{v:V}{u:ó}{Q:Unit->ú->Prop}(I:NM X pins σ H s)(hN:X.N.Nodup)(P:X.N[i]?=some x)(hx:Loc X.env.scope x)(r:NP v u)
  (h:∀s',NM X pins (σ.set i (some v)) H s'->(∃a,Heap.SameBut a s.heap s'.heap/\(a=X.env.locals\/X.env.cells.lookup x=some a))->Q () s')(hf:X.fn x=true\/X.env.scope.names.lookup x=some .local:=by first | exact .inl rfl | exact .inr rfl | assumption):wpAny M A (storeName X.env x u) Q E s:=by
 obtain ⟨m,Z,hl⟩:=id I.loc
 have K:(X.env.scope.kind==.class||(X.env.scope.kind==.module&&X.env.locals != X.env.globals))=false:=by rw [I.ok.kind];rfl
 have L:i<σ.length:=by rw [I.len];exact (ſ.mp P).1
 have cne:=I.cne
 have g:∀{a:ø} {h':ñ},(∃o,s.heap.get? a=some o/\H a=none)->Heap.SameBut a s.heap h'->NS X.prog X.w H h':=λ{a h'} ha f b ob e=>by
  obtain ⟨_,_,t⟩:=ha
  refine (I.hok b ob e).stay (λc U hc q=>(f.2 c ?_).trans q) (λ_ q=>q) λ_ _ q=>q
  rintro rfl
  rcases hc with rfl | hc
  .cases t▸e
  .cases t▸hc
 rcases hx with hk | hk
 .refine wpAny_storeName_local hk Z (λh' a6 f=>?_) K
  obtain ⟨oL,_,_,a0,_⟩:=id Z
  refine h _ ⟨I.ok,I.os,I.bare,⟨λb o e n F hx=>?_,λb o e n F hx=>?_,I.base.free,λb o e hx=>?_,I.base.tups,I.base.frzs,I.base.tbls⟩,⟨_,a6,λj y v' l C e3=>?_⟩,λy c e=>?_,I.free,I.freeC,λp hp=>?_,g ⟨oL,a0,I.free⟩ f,by simpa using I.len⟩ ⟨_,f,.inl rfl⟩
  .exact (f.2 b (Φ (Ÿ (η e) I.ok.above))).trans (I.base.keep b o e n F hx)
  .obtain ⟨sl,l⟩:=I.base.slot b o e n F hx
   exact ⟨sl,(f.2 b (Φ (Ÿ (η e) I.ok.above))).trans l⟩
  .obtain ⟨o',l⟩:=I.base.there b o e hx
   exact ⟨o',(f.2 b (Φ (Ÿ (η e) I.ok.above))).trans l⟩
  .by_cases hj:j=i
   .subst hj
    cases P▸l
    rw [š L] at C
    cases C
    exact ⟨u,r,.inl ⟨hk,by simp⟩⟩
   .rw [ŋ (Ne.symm hj)] at C
    obtain ⟨u',r',q⟩:=hl j y v' l C e3
    refine ⟨u',r',?_⟩
    rcases q with ⟨k,e⟩ | ⟨k,c,e,z⟩
    .refine .inl ⟨k,?_⟩
     have:y≠x:=λe=>hj (oA hN l (e▸P))
     simp [this,e]
    .exact .inr ⟨k,c,e,z.sameBut f (cne y c e)⟩
  .obtain ⟨U,z⟩:=I.cell y c e
   exact ⟨U,z.sameBut f (cne y c e)⟩
  .obtain ⟨e,n,W,nf,d⟩:=I.pin p hp
   exact ⟨(f.2 p.1 W).trans e,n,W,nf,d⟩
 .have D:X.fn x=true:=by
   rcases hf with z | z
   .exact z
   .cases z▸hk
  obtain ⟨c,hc⟩:=I.ok.has x (.inl hk)
  obtain ⟨U,z⟩:=I.cell x c hc
  refine wpAny_storeName_cell I.ok.kind hk hc z (λh' O f=>?_)
  obtain ⟨oc,G,J⟩:=id z
  refine h {s with heap:=h'} ⟨I.ok,I.os,I.bare,⟨λb o e n F hx=>?_,λb o e n F hx=>?_,I.base.free,λb o e hx=>?_,I.base.tups,I.base.frzs,I.base.tbls⟩,⟨m,Z.sameBut f (Ne.symm (cne x c hc)),λj y v' l C e3=>?_⟩,λy Y e=>?_,I.free,I.freeC,λp hp=>?_,g ⟨oc,G,I.freeC x c hc⟩ f,by simpa using I.len⟩ ⟨c,f,.inr hc⟩
  .exact (f.2 b (Φ (Ÿ (η e) (I.ok.cab x c D hc)))).trans (I.base.keep b o e n F hx)
  .obtain ⟨sl,l⟩:=I.base.slot b o e n F hx
   exact ⟨sl,(f.2 b (Φ (Ÿ (η e) (I.ok.cab x c D hc)))).trans l⟩
  .obtain ⟨o',l⟩:=I.base.there b o e hx
   exact ⟨o',(f.2 b (Φ (Ÿ (η e) (I.ok.cab x c D hc)))).trans l⟩
  .by_cases hj:j=i
   .subst hj
    cases P▸l
    rw [š L] at C
    cases C
    exact ⟨u,r,.inr ⟨.inl hk,c,hc,O⟩⟩
   .rw [ŋ (Ne.symm hj)] at C
    obtain ⟨u',r',q⟩:=hl j y v' l C e3
    refine ⟨u',r',?_⟩
    rcases q with q | ⟨k,Y,e,z'⟩
    .exact .inl q
    .refine .inr ⟨k,Y,e,z'.sameBut f ?_⟩
     rintro rfl
     exact hj (oA hN l (I.ok.inj _ _ _ e hc▸P))
  .by_cases hcc:Y=c
   .subst hcc;exact ⟨_,O⟩
   .obtain ⟨w2,z2⟩:=I.cell y Y e
    exact ⟨w2,z2.sameBut f hcc⟩
  .obtain ⟨e,n,W,nf,d⟩:=I.pin p hp
   refine ⟨(f.2 p.1 ?_).trans e,n,W,nf,d⟩
   intro q
   rw [q,G] at e
   have q':oc=p.2:=Δ e
   exact d U (q'▸J)
def jz{M:Model}{A:ô}{E:Đ}{i:Nat}{x:Str}{v:V}{u:ó}{Q:Unit->ú->Prop}(I:NM X pins σ H s)(hN:X.N.Nodup)(hi:X.N[i]?=some x)(hx:Loc X.env.scope x)(r:NP v u)
  (h:∀s',NM X pins (σ.set i (some v)) H s'->Q () s')(hf:X.fn x=true\/X.env.scope.names.lookup x=some .local:=by first | exact .inl rfl | exact .inr rfl | assumption):wpAny M A (storeName X.env x u) Q E s :=
 pL I hN hi hx r (λs' I' _=>h s' I') hf
def NM.call'{s':ú}{ch:ĉ}(I:NM X pins σ H s)(h:s'.os=s.os)(u:Un (frs X.stack) ch H H' s.heap s'.heap)(d:NS X.prog X.w H' s'.heap)(j:AllBare s'.gens)
  (f:∀b∈ch,(b∈X.ex\/X.s₀.heap.objs.size<=b)/\b≠X.env.locals/\(∀x c,X.env.cells.lookup x=some c->c≠b)/\∀p∈X.pn++pins,p.1≠b):NM X pins σ H' s':=by
 obtain ⟨h',g',d',t',g⟩:=s'
 have e:g=s.os:=h
 subst e
 exact I.call (g':=g') (t':=t') (d':=d') u d j f
end
abbrev XK:=ó->Option ø->Hp->Prop
abbrev St:=î (Option V)
abbrev VK:=V->Hp->Prop
abbrev TE:=St->Hp->VK->Prop
abbrev TT:=St->Hp->(Bool->Hp->Prop)->Prop
abbrev TA:=St->Hp->(î V->Hp->Prop)->Prop
structure Ends where
 nx:St->Hp->Prop
 rt:VK
 bk:St->Hp->Prop:=λ_ _=>False
 ct:St->Hp->Prop:=λ_ _=>False
abbrev TS:=Ends->St->Hp->Prop
def EP(X:Cx)(pins:đ)(σ:St)(Q:VK)(u:ó)(s':ú):Prop:=∃v H',NM X pins σ H' s'/\NP v u/\Q v H'
def TP(X:Cx)(pins:đ)(σ:St)(Q:Bool->Hp->Prop)(b:Bool)(s':ú):Prop:=∃H',NM X pins σ H' s'/\Q b H'
def AP(X:Cx)(pins:đ)(σ:St)(Q:î V->Hp->Prop)(us:Ċ)(s':ú):Prop:=∃vs H',NM X pins σ H' s'/\NQ vs us/\Q vs H'
def SP(X:Cx)(pins:đ)(D:Ends)(f:Flow)(s':ú):Prop :=
 match f with
 | .next=>∃σ' H',NM X pins σ' H' s'/\D.nx σ' H'
 | .brk=>∃σ' H',NM X pins σ' H' s'/\D.bk σ' H'
 | .cont=>∃σ' H',NM X pins σ' H' s'/\D.ct σ' H'
 | .ret u=>∃v σ' H',NM X pins σ' H' s'/\NP v u/\D.rt v H'
def PE(X:Cx)(e:ï)(t:TE):Prop :=
 ∀(pins:đ) (s:ú) (σ:St) (H:Hp) (Q:VK),NM X pins σ H s->t σ H Q->wpAny (model X.prog X.w) X.A (eval e X.env) (EP X pins σ Q) X.xe s
def PT(X:Cx)(e:ï)(t:TT):Prop :=
 ∀(pins:đ) (s:ú) (σ:St) (H:Hp) (Q:Bool->Hp->Prop),NM X pins σ H s->t σ H Q->wpAny (model X.prog X.w) X.A (isTrue e X.env (eval e X.env)) (TP X pins σ Q) X.xe s
def PW(X:Cx)(e:ï)(t:TT):Prop :=
 ∀(whole:Sem ó) (pins:đ) (s:ú) (σ:St) (H:Hp) (Q:Bool->Hp->Prop),NM X pins σ H s->t σ H Q->wpAny (model X.prog X.w) X.A (isTrue e X.env whole) (TP X pins σ Q) X.xe s
def PW.pt{X:Cx}{e:ï}{t:TT}(h:PW X e t):PT X e t:=h _
def PA(X:Cx)(es:Ą)(t:TA):Prop :=
 ∀(pos:Pos) (pins:đ) (s:ú) (σ:St) (H:Hp) (Q:î V->Hp->Prop),NM X pins σ H s->t σ H Q->wpAny (model X.prog X.w) X.A (spliced (backTo pos (starEach es X.env))) (AP X pins σ Q) X.xe s
def PS(X:Cx)(st:ð)(t:TS):Prop :=
 ∀(pins:đ) (s:ú) (σ:St) (H:Hp) (D:Ends),NM X pins σ H s->t D σ H->wpAny (model X.prog X.w) X.A (exec st X.env) (SP X pins D) X.xe s
def PSs(X:Cx)(st:î ð)(t:TS):Prop :=
 ∀(pins:đ) (s:ú) (σ:St) (H:Hp) (D:Ends),NM X pins σ H s->t D σ H->wpAny (model X.prog X.w) X.A (execs st X.env) (SP X pins D) X.xe s
def Zg{α:Type}{t:Sem α}{Q Q':α->ú->Prop}{M:Model}{A:ô}{E:Đ}{s:ú}(h:wpAny M A t Q E s)(hQ:∀a s,Q a s->Q' a s):wpAny M A t Q' E s:=Ŭ h hQ λ_ _ x=>x
section
variable {X:Cx}
inductive XV (i:Nat) (σ:St) (H:Hp) (Q:VK):Prop|mk v:σ[i]?=some (some v)->Q v H->XV i σ H Q
def jx(i:Nat):TE:=fun σ H Q=>XV i σ H Q
def tC(v:V):TE:=λ_ H Q=>Q v H
def ym{i:Nat}{x:Str}{pos:Pos}(hN:X.N[i]?=some x)(q:Vis X.env.scope x)(g:(x==("__debug__":Str))=false:=by decide)(j:(x==("__classdict__":Str))=false:=by decide):PE X (.Name x pos) (jx i):=by
 intro f s σ H Q I h
 obtain ⟨v,e,h⟩:=h
 obtain ⟨m,k,o⟩:=I.loc
 obtain ⟨u,r,l⟩:=o i x v hN e q
 have d:EP X f σ Q u s:=⟨v,H,I,r,h⟩
 rcases l with ⟨hk,hm⟩ | ⟨hk,c,hc,hcell⟩
 .exact wpAny_Name (wpAny_loadName_local I.ok.kind hk k hm d) g
 .rcases hk with hk | hk
  .exact wpAny_Name (wpAny_loadName_cell I.ok.kind hk hc hcell d) g
  .exact wpAny_Name (wpAny_loadName_free I.ok.kind hk hc hcell d j) g
def af{i j pos}:PE X (.Constant (.int i) j pos) (tC (.int i)):=λ_ _ _ H _ I h=>wpAny_Constant_int ⟨.int i,H,I.tok _,⟨_,ϱ⟩,h⟩
def eS{b j pos}:PE X (.Constant (.bool b) j pos) (tC (.bl b)):=λ_ _ _ H _ I h=>Constant_bool ⟨.bl b,H,I,ϱ,h⟩
def gE{j pos}:PE X (.Constant .none j pos) (tC .non):=λ_ _ _ H _ I h=>Constant_none ⟨.non,H,I,ϱ,h⟩
def aw{x j pos}:PE X (.Constant (.str x) j pos) (tC (.str x)):=λ_ _ _ H _ I h=>Calls.Constant_str ⟨.str x,H,I.tok _,⟨_,ϱ⟩,h⟩
def Gl(X:Cx)(x:Str):Prop:=X.env.kindOf x=some .globalImplicit
def cy{E:Đ}{pins:đ}{s:ú}{σ:St}{H:Hp}{x:Str}{u:ó}{pos:Pos}{Q:Đ}(I:NM X pins σ H s)(hg:Gl X x)(hm:X.mg x=some u)(h:Q u s)
  (hd:(x==("__debug__":Str))=false:=by decide):wpAny (model X.prog X.w) X.A (eval (.Name x pos) X.env) Q E s :=
 Calls.Name_function_global I.ok.kind hg (Calls.loadGlobal_global (I.ok.glob▸I.mod.glob.keeps I.bk) hm h) hd
def oJ{E:Đ}{d:đ}{s:ú}{σ:St}{H:Hp}{x:Str}{u:ó}{pos:Pos}{Q:Đ}(I:NM X d σ H s)(f:Gl X x)(g:X.mg x=none)(j:bootBuiltins x=some u)(h:Q u s)
  (k:x≠"__name__":=by decide)(l:(x==("__debug__":Str))=false:=by decide):wpAny (model X.prog X.w) X.A (eval (.Name x pos) X.env) Q E s:=by
 obtain ⟨o,h1,e⟩:=I.mod.blt
 exact Calls.Name_function_global I.ok.kind f (Calls.loadGlobal_builtin (I.ok.glob▸I.mod.glob.keeps I.bk) g (I.ok.blt▸h1.keeps I.bk) ((e x k).trans j) h) l
def dZ{x:Str}{v:V}{u:ó}{pos:Pos}(hg:Gl X x)(hm:X.mg x=some u)(r:NP v u)(hd:(x==("__debug__":Str))=false:=by decide):PE X (.Name x pos) (tC v) :=
 λ_ _ _ H _ I h=>cy I hg hm ⟨v,H,I,r,h⟩ hd
def jK{x:Str}{v:V}{u:ó}{pos:Pos}(hg:Gl X x)(hm:X.mg x=none)(hv:bootBuiltins x=some u)(r:NP v u)(hn:x≠"__name__":=by decide)(hd:(x==("__debug__":Str))=false:=by decide):PE X (.Name x pos) (tC v) :=
 λ_ _ _ H _ I h=>oJ I hg hm hv ⟨v,H,I,r,h⟩ hn hd
variable {a b:ï}{ta tb:TE}{pos:Pos}
inductive XB (Q:Bool->Hp->Prop) (x:V) (H:Hp):Prop|mk c:x=.bl c->Q c H->XB Q x H
def tB(t:TE):TT:=fun σ H Q=>t σ H λx H1=>XB Q x H1
def bj{e:ï}{t:TE}(h:PE X e t)(l:∀whole,isTrue e X.env whole=(do let v ← whole;standAt e.pos;holding [v] (truthy v)):=by intro _;rfl):PT X e (tB t):=by
 intro f s σ H Q I k
 refine isTrue_plain (Zg (h f s σ H _ I k) λv o ⟨x,H1,g,j,q1⟩=>?_) (l _)
 obtain ⟨d,rfl,q⟩:=q1
 cases j
 exact Œ ⟨H1,g,q⟩
variable {tA tB':TT}{rest:Ą}
def DR(t u:TT):TT:=fun σ H Q=>t σ H λc H1=>if c=true then u σ H1 Q else Q false H1
def tOr(t u:TT):TT:=fun σ H Q=>t σ H λc H1=>if c=true then Q true H1 else u σ H1 Q
def E1(t:TT):TT:=fun σ H Q=>t σ H λc H1=>Q (!c) H1
def fu(f:PT X a tA):PW X (.BoolOp .And [a] pos) tA:=by
 intro j d s σ H Q I h
 refine isTrue_and (Zg (f d s σ H Q I h) λc g e=>?_)
 cases c with
 | true=>exact isTrue_and_nil e
 | false=>exact e
def cR(f:PT X a tA):PW X (.BoolOp .Or [a] pos) tA:=by
 intro j d s σ H Q I h
 refine isTrue_or (Zg (f d s σ H Q I h) λc g e=>?_)
 cases c with
 | false=>exact isTrue_or_nil e
 | true=>exact e
def ir(j:PT X a tA)(k:PW X (.BoolOp .And (b::rest) pos) tB'):PW X (.BoolOp .And (a::b::rest) pos) (DR tA tB'):=by
 intro g d s σ H Q I h
 refine isTrue_and (Zg (j d s σ H _ I h) λc f ⟨H1,e,q1⟩=>?_)
 cases c with
 | true=>exact k g d f σ H1 Q e q1
 | false=>exact ⟨H1,e,q1⟩
def cU(j:PT X a tA)(k:PW X (.BoolOp .Or (b::rest) pos) tB'):PW X (.BoolOp .Or (a::b::rest) pos) (tOr tA tB'):=by
 intro g d s σ H Q I h
 refine isTrue_or (Zg (j d s σ H _ I h) λc f ⟨H1,e,q1⟩=>?_)
 cases c with
 | true=>exact ⟨H1,e,q1⟩
 | false=>exact k g d f σ H1 Q e q1
def eN(e:PT X a tA):PT X (.UnaryOp .Not a pos) (E1 tA):=by
 intro d s σ H Q I h
 exact isTrue_not (e d s σ H (λc H1=>Q (!c) H1) I h)
inductive XIf (x:V) (P R:Prop):Prop|mk c:x=.bl c->(if c=true then P else R)->XIf x P R
def DQ(ta tb:TE):TE:=fun σ H Q=>ta σ H λx H1=>XIf x (tb σ H1 Q) (Q (.bl false) H1)
def EZ(ta tb:TE):TE:=fun σ H Q=>ta σ H λx H1=>XIf x (Q (.bl true) H1) (tb σ H1 Q)
def DJ(ta:TE):TE:=fun σ H Q=>ta σ H λx H1=>∃c,x=.bl c/\Q (.bl (!c)) H1
def iu{op}{t:TE}(h:PE X a t):PE X (.BoolOp op [a] pos) t:=λpins s σ H Q I hw=>BoolOp_one (h pins s σ H Q I hw)
def kS(j:PE X a ta)(k:PE X (.BoolOp .And (b::rest) pos) tb):PE X (.BoolOp .And (a::b::rest) pos) (DQ ta tb):=by
 intro d s σ H Q I h
 refine BoolOp_and (Zg (j d s σ H _ I h) λv f ⟨x,H1,e,g,q1⟩=>?_)
 obtain ⟨c,rfl,q1⟩:=q1
 cases g
 refine Œ ?_
 cases c with
 | true=>exact k d f σ H1 Q e q1
 | false=>exact ⟨.bl false,H1,e,rfl,q1⟩
def yn(j:PE X a ta)(k:PE X (.BoolOp .Or (b::rest) pos) tb):PE X (.BoolOp .Or (a::b::rest) pos) (EZ ta tb):=by
 intro d s σ H Q I h
 refine BoolOp_or (Zg (j d s σ H _ I h) λv f ⟨x,H1,e,g,q1⟩=>?_)
 obtain ⟨c,rfl,q1⟩:=q1
 cases g
 refine Œ ?_
 cases c with
 | false=>exact k d f σ H1 Q e q1
 | true=>exact ⟨.bl true,H1,e,rfl,q1⟩
def Cv(g:PE X a ta):PE X (.UnaryOp .Not a pos) (DJ ta):=by
 intro d s σ H Q I h
 refine UnaryOp_ (Zg (g d s σ H _ I h) λv j ⟨x,H1,e,f,q1⟩=>?_)
 obtain ⟨c,rfl,q1⟩:=q1
 cases f
 exact not_of (Œ ⟨.bl (!c),H1,e,ϱ,q1⟩)
def tIf(t:TT)(ta tb:TE):TE:=fun σ H Q=>t σ H λc H1=>if c=true then ta σ H1 Q else tb σ H1 Q
def ou{c:ï}(hc:PT X c tA)(j:PE X a ta)(k:PE X b tb):PE X (.IfExp c a b pos) (tIf tA ta tb):=by
 intro e s σ H Q I h
 refine wpAny_IfExp (Zg (hc e s σ H _ I h) λd f ⟨H1,g,q1⟩=>?_)
 cases d with
 | true=>exact j e f σ H1 Q g q1
 | false=>exact k e f σ H1 Q g q1
end
def NO(K:ò)(H:Hp)(a:ø)(xs:î V):Prop :=
 Rd H a (.lst xs) \/
  ∃(o:Obj) (its:û) (n:Nat),K.lookup a=some o/\o.cls=.type "list"/\o.dict=none/\o.data=.seq its n/\its.size<=sizeLine/\NQ xs its.toList
def NN(K:ò)(H:Hp)(a:ø)(xs:î V):Prop :=
 Rd H a (.tup xs) \/
  ∃(o:Obj) (its:û) (n:Nat),K.lookup a=some o/\o.cls=.type "tuple"/\o.data=.seq its n/\its.size<=sizeLine/\NQ xs its.toList
def Fu:ó->Option V
 | .none=>some .non
 | .bool b=>some (.bl b)
 | .int i _=>some (.int i)
 | .str x _=>some (.str x)
 | .bytes b _=>some (.byt b)
 | .float b _=>some (.flt b)
 | .ref a=>some (.ref a)
 | .type n=>some (.ty n)
 | _=>none
def NP.abs{x:V}{u:ó}(r:NP x u):Fu u=some x:=by
 cases x with
 | non=>cases r;rfl
 | bl _=>cases r;rfl
 | int _=>obtain ⟨t,rfl⟩:=r;rfl
 | str _=>obtain ⟨t,rfl⟩:=r;rfl
 | byt _=>obtain ⟨t,rfl⟩:=r;rfl
 | flt _=>obtain ⟨t,rfl⟩:=r;rfl
 | ref _=>cases r;rfl
 | ty _=>cases r;rfl
def NP.inj{x y:V}{u:ó}(r:NP x u)(q:NP y u):x=y:=Δ (r.abs.symm.trans q.abs)
theorem NQ.inj:∀{xs ys:î V} {us:Ċ},NQ xs us->NQ ys us->xs=ys
 | _,_,_,.nil,.nil=>rfl
 | _,_,_,.cons r t,.cons r' t'=>by rw [r.inj r',NQ.inj t t']
section
variable {X:Cx}{pins:đ}{σ:St}{H:Hp}{s:ú}{a:ø}{xs ys:î V}
def NO.of{K:ò}(h:H a=some (.lst xs)):NO K H a xs:=.inl (.inl h)
abbrev Nz:=@NO.of
def NN.of{K:ò}(h:H a=some (.tup xs)):NN K H a xs:=.inl (.inl h)
abbrev NA:=@NN.of
def NM.list(I:NM X pins σ H s)(h:NO X.K H a xs):∃its:Ċ,NQ xs its/\PlainL s.heap a its.toArray/\xs.length<=sizeLine:=by
 rcases h with h | ⟨o,its,n,hk,hc,hd,hs,hz,r⟩
 .obtain ⟨z,its,n,r,e⟩:=h.ok I.hok
  exact ⟨its,r,⟨_,n,e,ϱ,ϱ,ϱ⟩,z⟩
 .refine ⟨its.toList,r,⟨o,n,I.kIn a o hk,hc,hd,by simpa using hs⟩,?_⟩
  have e:=r.length
  simp only [Array.length_toList] at e
  lia
def NM.tuple(I:NM X pins σ H s)(h:NN X.K H a xs):∃its:Ċ,NQ xs its/\IsTup s.heap a its.toArray/\xs.length<=sizeLine:=by
 rcases h with h | ⟨o,its,n,hk,hc,hs,hz,r⟩
 .obtain ⟨z,its,r,p⟩:=h.ok I.hok
  exact ⟨its,r,p,z⟩
 .refine ⟨its.toList,r,⟨o,I.kIn a o hk,hc,n,by simpa using hs⟩,?_⟩
  have e:=r.length
  simp only [Array.length_toList] at e
  lia
def NM.list_inj(I:NM X pins σ H s)(h:NO X.K H a xs)(h':NO X.K H a ys):xs=ys:=by
 obtain ⟨g,r,⟨o,n,e,_,_,d⟩,_⟩:=I.list h
 obtain ⟨f,l,⟨q,t,j,_,_,k⟩,_⟩:=I.list h'
 rw [e] at j;cases j
 rw [d] at k
 injection k with d1 _
 have:g=f:=by simpa using congrArg Array.toList d1
 subst this
 exact r.inj l
def NM.tuple_inj(I:NM X pins σ H s)(h:NN X.K H a xs)(h':NN X.K H a ys):xs=ys:=by
 obtain ⟨g,r,⟨o,e,_,n,d⟩,_⟩:=I.tuple h
 obtain ⟨f,l,⟨q,j,_,t,k⟩,_⟩:=I.tuple h'
 rw [e] at j;cases j
 rw [d] at k
 injection k with d1 _
 have:g=f:=by simpa using congrArg Array.toList d1
 subst this
 exact r.inj l
end
abbrev Cx.wish(X:Cx)(E:Đ):Cx:={X with xe:=E}
abbrev Cx.nox(X:Cx):Cx:=X.wish λ_ _=>False
def Cx.Ok.wish{X:Cx}(ok:X.Ok)(E:Đ):(X.wish E).Ok :=
 ⟨ok.mod,ok.kind,ok.glob,ok.blt,ok.above,ok.inj,ok.has,ok.cab,ok.hd,ok.frames,ok.stk,ok.exf,ok.bs,ok.bsz,ok.noex,ok.exfs,ok.funs,ok.frf⟩
def Cx.Ok.unwish{X:Cx}{E:Đ}(ok:(X.wish E).Ok):X.Ok :=
 ⟨ok.mod,ok.kind,ok.glob,ok.blt,ok.above,ok.inj,ok.has,ok.cab,ok.hd,ok.frames,ok.stk,ok.exf,ok.bs,ok.bsz,ok.noex,ok.exfs,ok.funs,ok.frf⟩
section
variable {X:Cx}{pins:đ}{σ:St}{H:Hp}{s:ú}{E:Đ}
def NM.wish(I:NM X pins σ H s)(E:Đ):NM (X.wish E) pins σ H s:=⟨I.ok.wish E,I.os,I.bare,I.base,I.loc,I.cell,I.free,I.freeC,I.pin,I.hok,I.len⟩
def NM.unwish(I:NM (X.wish E) pins σ H s):NM X pins σ H s:=⟨I.ok.unwish,I.os,I.bare,I.base,I.loc,I.cell,I.free,I.freeC,I.pin,I.hok,I.len⟩
def SP.unwish{D:Ends}{f:Flow}{s':ú}(h:SP (X.wish E) pins D f s'):SP X pins D f s':=by
 cases f with
 | next=>obtain ⟨d,e,I,q⟩:=h;exact ⟨d,e,I.unwish,q⟩
 | brk=>obtain ⟨d,e,I,q⟩:=h;exact ⟨d,e,I.unwish,q⟩
 | cont=>obtain ⟨d,e,I,q⟩:=h;exact ⟨d,e,I.unwish,q⟩
 | ret u=>obtain ⟨v,d,e,I,r,q⟩:=h;exact ⟨v,d,e,I.unwish,r,q⟩
def PSs.nox{st:î ð}{t:TS}(h:PSs X.nox st t):PSs X st t:=λpins s σ H D I hw =>
 Ŭ (h pins s σ H D (I.wish _) hw) (λ_ _ q=>q.unwish) λ_ _ z=>False.elim z
end
section
variable {X:Cx}{st:ð}{rest:î ð}{t u:TS}{e:ï}{te:TE}{pos:Pos}
def Bx:TS:=λD σ H=>D.nx σ H
def BX(t u:TS):TS:=λD σ H=>t {D with nx:=u D} σ H
def ao:PSs X [] Bx:=λ_ _ σ H _ I h=>Ŏ ⟨σ,H,I,h⟩
def ac(h1:PS X st t)(l:PSs X rest u):PSs X (st::rest) (BX t u):=by
 intro d s σ H D I h
 refine wpAny_execs_cons (Zg (h1 d s σ H {D with nx:=u D} I h) λf k q=>?_)
 cases f with
 | next =>
  obtain ⟨e,g,j,q⟩:=q
  exact l d k e g D j q
 | ret v=>exact q
 | brk=>exact q
 | cont=>exact q
def au(h1:PS X st t):PSs X [st] t:=by
 intro d s σ H D I h
 refine wpAny_execs_cons (Zg (h1 d s σ H D I h) λf e q=>?_)
 cases f with
 | next=>exact Ŏ q
 | ret v=>exact q
 | brk=>exact q
 | cont=>exact q
def NM.quiet{pins:đ}{σ:St}{H:Hp}{s:ú}(I:NM X pins σ H s):interactive X.env=false:=by simp [interactive,I.ok.kind]
def DN(te:TE):TS:=λD σ H=>te σ H λ_ H1=>D.nx σ H1
def bz(g:PE X e te)(j:swapsWith e none pos.line X.env=pure false:=by rfl):PS X (.Expr e pos) (DN te):=by
 intro d s σ H D I h
 exact wpAny_Expr_any (Zg (g d s σ H _ I h) λv k ⟨x,H1,f,l,q1⟩=>⟨σ,H1,f,q1⟩) I.quiet j
def DH(te:TE):TS:=λD σ H=>te σ H D.rt
def eO(j:PE X e te):PS X (.Return (some e) pos) (DH te):=by
 intro d s σ H D I h
 exact wpAny_Return_some (Zg (j d s σ H _ I h) λv k ⟨x,H1,f,g,q1⟩=>⟨x,σ,H1,f,g,q1⟩)
def DF:TS:=λD _ H=>D.rt .non H
def vo:PS X (.Return none pos) DF:=λ_ _ σ H _ I h=>wpAny_Return_none ⟨.non,σ,H,I,ϱ,h⟩
def DM(c:TT)(t u:TS):TS:=λD σ H=>c σ H λb H1=>if b=true then t D σ H1 else u D σ H1
def aC{c:ï}{a b:î ð}{tc:TT}(hc:PT X c tc)(j:PSs X a t)(k:PSs X b u):PS X (.If c a b pos) (DM tc t u):=by
 intro e s σ H D I h
 refine wpAny_If (Zg (hc e s σ H _ I h) λd f ⟨H1,g,q1⟩=>?_)
 cases d with
 | true=>exact j e f σ H1 D g q1
 | false=>exact k e f σ H1 D g q1
def BZ:TS:=λ_ _ _=>False
def aQ{sts:î ð}:PSs X sts BZ:=λ_ _ _ _ _ _ h=>h.elim
end
abbrev TG:=V->St->Hp->(St->Hp->Prop)->Prop
abbrev TGs:=î V->St->Hp->(St->Hp->Prop)->Prop
def PG(X:Cx)(target:ï)(t:TG):Prop :=
 ∀(pins:đ) (s:ú) (σ:St) (H:Hp) (v:V) (u:ó) (Q:St->Hp->Prop),NM X pins σ H s->NP v u->t v σ H Q ->
  wpAny (model X.prog X.w) X.A (assign target X.env u) (λ_ s'=>∃σ' H',NM X pins σ' H' s'/\Q σ' H') X.xe s
def PGs(X:Cx)(ts:Ą)(t:TGs):Prop :=
 ∀(pins:đ) (s:ú) (σ:St) (H:Hp) (vs:î V) (us:Ċ) (Q:St->Hp->Prop),NM X pins σ H s->NQ vs us->t vs σ H Q ->
  wpAny (model X.prog X.w) X.A (assignInOrder ((assignEach ts X.env).map (·.2)) us) (λ_ s'=>∃σ' H',NM X pins σ' H' s'/\Q σ' H') X.xe s
abbrev Dt:=V->V->V->Hp->(Hp->Prop)->Prop
def ET(X:Cx)(t:Dt):Prop :=
 ∀(pins:đ) (s:ú) (σ:St) (H:Hp) (o i v:V) (ov iv u:ó) (Q:Hp->Prop),NM X pins σ H s->NP o ov->NP i iv->NP v u->t o i v H Q ->
  wpAny (model X.prog X.w) X.A (setItem ov iv u) (λ_ s'=>∃H',NM X pins σ H' s'/\Q H') X.xe s
section
variable {X:Cx}{pos:Pos}
def jV(i:Nat):TG:=λv σ H Q=>Q (σ.set i (some v)) H
def vt{i:Nat}{x:Str}(hN:X.N.Nodup)(f:X.N[i]?=some x)(hx:Loc X.env.scope x)(g:X.fn x=true\/X.env.scope.names.lookup x=some .local:=by first | exact .inl rfl | exact .inr rfl | assumption):PG X (.Name x pos) (jV i):=by
 intro d s σ H v u Q I r h
 exact wpAny_assign_Name (jz I hN f hx r (λj e=>⟨_,H,e,h⟩) g)
def Fp:TGs:=λvs σ H Q=>vs=[]/\Q σ H
inductive XGC (t:TG) (u:TGs) (vs:î V) (σ:St) (H:Hp) (Q:St->Hp->Prop):Prop|mk v r:vs=v::r->(t v σ H fun σ' H'=>u r σ' H' Q)->XGC t u vs σ H Q
def ED(t:TG)(u:TGs):TGs:=λvs σ H Q=>XGC t u vs σ H Q
def fy:PGs X [] Fp:=by
 intro d s σ H vs f Q I r h
 obtain ⟨e,h⟩:=h
 subst e
 cases r
 exact assignInOrder_nil ⟨σ,H,I,h⟩
def aY{e:ï}{f:Ą}{t:TG}{u:TGs}(h1:PG X e t)(o:PGs X f u)
  (q:(assignEach (e::f) X.env).map (·.2)=assign e X.env::(assignEach f X.env).map (·.2):=by rfl):PGs X (e::f) (ED t u):=by
 intro d s σ H vs w Q I r h
 obtain ⟨v,vr,g,h⟩:=h
 subst g
 cases r with
 | cons r rr =>
  rw [q]
  refine assignInOrder_cons (Zg (h1 d s σ H _ _ _ I r h) λ_ j ⟨k,H1,l,q1⟩=>?_)
  exact o d j k H1 _ _ Q l rr q1
inductive XGT (K:ò) (n:Nat) (t:TGs) (v:V) (σ:St) (H:Hp) (Q:St->Hp->Prop):Prop|mk a xs:v=.ref a->NN K H a xs->xs.length=n->t xs σ H Q->XGT K n t v σ H Q
def Fn(K:ò)(n:Nat)(t:TGs):TG:=λv σ H Q=>XGT K n t v σ H Q
def kQ{f:Ą}{k:Nat}{t:TGs}{n:Nat}(hc:X.calm=true)(h:PGs X f t)
  (G:(assignEach f X.env).length=n:=by rfl)(j:(assignEach f X.env).findIdx? (·.1)=none:=by rfl):PG X (.Tuple f k pos) (Fn X.K n t):=by
 intro d s σ H v u Q I r g
 obtain ⟨a,xs,q,w,x,g⟩:=g
 subst q
 cases r
 obtain ⟨y,l,z,J⟩:=I.tuple w
 refine assign_Tuple_tuple (I.ok.hd hc) z (by simp [G,← x,l.length]) j λD F=>?_
 have C:NM X d σ H {s with heap:=D}:=I.kept (t':=s.toks) λb o e=>F b o (Φ (η e)) e
 exact h d _ σ H xs _ Q C (by simpa using l) g
def Fo(to ti:TE)(t:Dt):TG:=λv σ H Q=>to σ H λo H1=>ti σ H1 λi H2=>t o i v H2 λH3=>Q σ H3
def gD{o i:ï}{e f:TE}{t:Dt}(F:PE X o e)(G:PE X i f)(J:ET X t)
  (K:∀v,assign (.Subscript o i pos) X.env v=(do
   let ov ← holding [v] (eval o X.env)
   let iv ← holding [v,ov] (eval i X.env)
   standAt pos
   holding [v,ov,iv] (setItem ov iv v)
   release [v,ov,iv] []):=by intro _;rfl):PG X (.Subscript o i pos) (Fo e f t):=by
 intro d s σ H v u Q I r h
 rw [K]
 refine ε (ŗ (Zg (F d s σ H _ I h) λov g ⟨x,H1,j,k,q1⟩=>?_))
 refine ε (ŗ (Zg (G d g σ H1 _ j q1) λiv l ⟨y,q,w,z,q2⟩=>?_))
 refine ε (Ĥ (ε (ŗ (Zg (J d l σ q x y v ov iv u _ w k z r q2) λ_ L ⟨C,D,q3⟩=>?_))))
 exact wpAny_release ⟨σ,C,D,q3⟩
def xy(te:TE)(g:TG):TS:=λD σ H=>te σ H λx H1=>g x σ H1 D.nx
def bV{f e:ï}{j:TE}{g:TG}(r:PE X e j)(t:PG X f g)(u:swapsWithSole [f] e pos.line X.env=pure false:=by rfl)(hw:swappedStores [f] e X.env=pure none:=by rfl)
  (h1:(assignEach [f] X.env).map (·.2)=[assign f X.env]:=by rfl):PS X (.Assign [f] e pos) (xy j g):=by
 intro d s σ H D I h
 refine wpAny_Assign_stores (Zg (r d s σ H _ I h) λv k ⟨x,H1,l,o,q1⟩=>?_) u hw
 rw [h1]
 exact Zg (t d k σ H1 x v _ l o q1) λ_ w q=>q
def gC{i:Nat}{x:Str}{e:ï}{g:TE}{d:Pos}(hN:X.N.Nodup)(o:X.N[i]?=some x)(hx:Loc X.env.scope x)(q:PE X e g)(r:swapsWith e (some (.Name x d)) pos.line X.env=pure false:=by rfl)(t:X.fn x=true\/X.env.scope.names.lookup x=some .local:=by first | exact .inl rfl | exact .inr rfl | assumption) :
  PS X (.Assign [.Name x d] e pos) (xy g (jV i)):=by
 intro f s σ H D I h
 refine wpAny_Assign_Name (Zg (q f s σ H _ I h) λv u ⟨y,H1,j,k,q1⟩=>?_) r
 exact jz j hN o hx k (λw l=>⟨_,H1,l,q1⟩) t
end
section
variable {X:Cx}{pos:Pos}
def BV(c:TT)(tb:TS):TS:=λD σ H=>∃W:Nat->St->Hp->Prop,(∃m,W m σ H)/\∀m σ H,W m σ H ->
 c σ H λb H1=>if b=true then ∃N:St->Hp->Prop,(∀σ' H',N σ' H'->∃m',m'<m/\W m' σ' H')/\tb {D with nx:=N,ct:=N,bk:=D.nx} σ H1 else D.nx σ H1
def sD{c:ï}{e:î ð}{tc:TT}{tb:TS}(z:PassesOwn (model X.prog X.w) X.A X.env X.xe)(hc:PT X c tc)(O:PSs X e tb):PS X (.While c e [] pos) (BV tc tb):=by
 intro d s σ H D I h
 obtain ⟨W,⟨m0,C⟩,g⟩:=h
 refine wpAny_While (codeAny_whileLoop (λn F=>∃σ' H',NM X d σ' H' F/\W n σ' H') ?_ m0 ⟨σ,H,I,C⟩)
 rintro n J ⟨l,H1,K,L⟩
 refine Ĵ z (Zg (hc d J l H1 _ K (g n l H1 L)) λb G ⟨x,y,q2⟩=>?_)
 cases b with
 | true =>
  obtain ⟨N,hN,q2⟩:=q2
  rw [ů rfl]
  refine Ĵ z (Zg (O d G l x _ y q2) λf P q3=>?_)
  cases f with
  | next =>
   obtain ⟨j,k,o,q⟩:=q3
   obtain ⟨r,t,u⟩:=hN j k q
   exact ⟨r,t,j,k,o,u⟩
  | cont =>
   obtain ⟨j,k,o,q⟩:=q3
   obtain ⟨r,t,u⟩:=hN j k q
   exact ⟨r,t,j,k,o,u⟩
  | brk=>exact q3
  | ret v=>exact q3
 | false =>
  exact ŵ ű▸Ŏ ⟨l,x,y,q2⟩
end
structure It where
 go:Nat->Hp->Prop
 yld:Nat->Hp->V->Hp->Prop
 stop:Nat->Hp->Prop
def tR(X:Cx)(pins:đ)(H:Hp)(b:ø):Prop :=
 H b=none/\b≠X.env.locals/\b∉X.fs/\(b∈X.ex\/X.s₀.heap.objs.size<=b)/\(∀x c,X.env.cells.lookup x=some c->c≠b)/\∀p∈X.pn++pins,p.1≠b
def NM.fpOk{X:Cx}{d:đ}{σ:St}{H H':Hp}{s:ú}{b:ø}(I:NM X d σ H s)(f:s.heap.objs.size<=b)(h:H' b=none):tR X d H' b:=by
 refine ⟨h,Nat.ne_of_gt (Ÿ I.lt f),I.nofs f,.inr (Λ I.sz f),λx c e z=>?_,λp g z=>?_⟩
 .obtain ⟨v,q⟩:=I.cell x c e
  exact absurd (Ÿ q.lt (z▸f)) (Ĺ _)
 .exact absurd (Ÿ (η (I.pin p g).1) (z▸f)) (Ĺ _)
structure zY(P:ù)(w:ö)(K:ò)(tg:ï)(J:It)(fp:ĉ)(it:ø)(tn:Nat->ñ->Prop):Prop where
 mem:it∈fp
 obj:∀i h,tn i h->∀b∈fp,∃o,h.get? b=some o/\∀v,o.data≠.cell v
 keep:∀i h h',tn i h->(∀b∈fp,∀o,h.get? b=some o->h'.get? b=some o)->tn i h'
 item:∀(X:Cx),X.prog=P->X.w=w->X.K=K->X.calm=true->∀(i:Nat) (pins:đ) (s:ú) (σ:St) (H:Hp) (E:Đ),NM X pins σ H s->(∀b∈fp,tR X pins H b)->tn i s.heap->J.go i H ->
  wpAny (model P w) X.A (pyNext (.ref it)) (λr s1=>∃u,r=some u /\
   wpAny (model P w) X.A (letOwnedTupleGo tg (.ref it) u) (λ_ s2=>∃x H',NM X pins σ H' s2/\NP x u/\J.yld i H x H'/\tn (i+1) s2.heap/\∀b∈fp,H' b=none) E s1) E s
 done:∀(X:Cx),X.prog=P->X.w=w->X.K=K->X.calm=true->∀(i:Nat) (pins:đ) (s:ú) (σ:St) (H:Hp) (E:Đ),NM X pins σ H s->(∀b∈fp,tR X pins H b)->tn i s.heap->J.stop i H ->
  wpAny (model P w) X.A (pyNext (.ref it)) (λr s1=>r=none/\NM X pins σ H s1) E s
 self:∀(A:ô) (i:Nat) (s:ú) (Q:Đ) (E:Đ),tn i s.heap->Q (.ref it) s->wpAny (model P w) A (pyIter (.ref it)) Q E s
abbrev TI:=St->Hp->(It->Hp->Prop)->Prop
def PIE(X:Cx)(pins:đ)(σ:St)(tg:ï)(R:It->Hp->Prop)(itv:ó)(s2:ú):Prop :=
 ∃(it:ø) (fp:ĉ) (tn:Nat->ñ->Prop) (J:It) (H':Hp),itv=.ref it/\NM X pins σ H' s2/\zY X.prog X.w X.K tg J fp it tn/\tn 0 s2.heap/\(∀b∈fp,tR X pins H' b)/\R J H'
def PI(X:Cx)(tg iter:ï)(wi:TI):Prop :=
 ∀(pins:đ) (s:ú) (σ:St) (H:Hp) (R:It->Hp->Prop),NM X pins σ H s->wi σ H R ->
  wpAny (model X.prog X.w) X.A (eval iter X.env) (λv s1=>wpAny (model X.prog X.w) X.A (pyIter v) (PIE X pins σ tg R) X.xe s1) X.xe s
def vS{M:Model}{A:ô}{E:Đ}{s:ú}{e:ï}{it:ø}{u:ó}{o:Obj}{n:String}{vs:û}{Q:Unit->ú->Prop}(f:s.heap.get? it=some o)(hc:o.cls=.type n)(g:o.data=.fields vs)
  (j:["enumerate","zip","dict_itemiterator","dict_reverseitemiterator","odict_iterator","itertools.zip_longest","itertools.pairwise"].contains n=false)(d:Q () s):wpAny M A (letOwnedTupleGo e (.ref it) u) Q E s:=by
 unfold letOwnedTupleGo
 cases e<;>first
  | exact π d
  | (cases u<;>first
    | exact π d
    | (refine ε (wpAny_load f ?_)
       rw [hc,g]
       show wpAny M A (if (["enumerate","zip","dict_itemiterator","dict_reverseitemiterator","odict_iterator","itertools.zip_longest","itertools.pairwise"].contains n&&vs[0]?==some (rawInt _))=true then _ else _) Q E s
       rw [ŵ (by intro h;rw [j,ě] at h;cases h)]
       exact π d))
def Itl(K:ò)(a:ø):It :=
 ⟨λi H=>∃xs x,NO K H a xs/\xs[i]?=some x,λi H x H'=>H'=H/\∀xs,NO K H a xs->xs[i]?=some x,λi H=>∃xs,NO K H a xs/\xs.length<=i⟩
def Itt(K:ò)(a:ø):It :=
 ⟨λi H=>∃xs x,NN K H a xs/\xs[i]?=some x,λi H x H'=>H'=H/\∀xs,NN K H a xs->xs[i]?=some x,λi H=>∃xs,NN K H a xs/\xs.length<=i⟩
def Itr(lo:Int)(n:Nat):It:=⟨λi _=>i<n,λi H x H'=>H'=H/\x=.int (lo+i),λi _=>n<=i⟩
def wk{P:ù}{w:ö}{K:ò}{tg:ï}(a it:ø):zY P w K tg (Itl K a) [it] it (λi h=>h.IsListIter it a i) where
 mem:=by simp
 obj:=λi h st b hb=>by
  have e:b=it:=by simpa using hb
  subst e
  obtain ⟨o,e,c,d⟩:=st
  exact ⟨o,e,λv z=>by cases d▸z⟩
 keep:=λi h h' st k=>st.at λo e=>k it (by simp) o e
 item:=by
  intro X F G J O i f s σ H E I l st L
  subst F G J
  obtain ⟨xs,x,j,q⟩:=L
  obtain ⟨r,t,p,Q⟩:=I.list j
  obtain ⟨u,U,W⟩:=t.get q
  obtain ⟨y,f1,f2,f3,C,D⟩:=l it (by simp)
  refine wpAny_pyNext_list_item st p.isList (x:=u) (by simpa using U) λh' g sb=>?_
  have Y:NM X f σ H {s with heap:=h'}:=I.turned (t':=s.toks) (λb o hb e=>(sb.2 b hb).trans e) y f1 f3 C D
  obtain ⟨o,e,c,d⟩:=id g
  exact ⟨u,ϱ,vS (s:={s with heap:=h'}) e c d ζ ⟨x,H,Y,W,⟨ϱ,λys Z=>by rw [I.list_inj Z j];exact q⟩,g,λb hb=>(l b hb).1⟩⟩
 done:=by
  intro X F G J O i f s σ H E I l st L
  subst F G J
  obtain ⟨xs,j,q⟩:=L
  obtain ⟨r,t,p,Q⟩:=I.list j
  obtain ⟨y,f1,f2,f3,C,D⟩:=l it (by simp)
  have hl:=t.length
  exact wpAny_pyNext_list_end (I.ok.hd O) st p.isList (by simp;lia) λh' eb=>⟨ϱ,I.turned (t':=s.toks) (λb o hb e=>eb b o hb e) y f1 f3 C D⟩
 self:=λ_ _ _ _ _ st h=>wpAny_pyIter_listiter st h
def tU{P:ù}{w:ö}{K:ò}{tg:ï}(a it:ø):zY P w K tg (Itt K a) [it] it (λi h=>h.IsTupleIter it a i) where
 mem:=by simp
 obj:=λi h st b hb=>by
  have e:b=it:=by simpa using hb
  subst e
  obtain ⟨o,e,c,d⟩:=st
  exact ⟨o,e,λv z=>by cases d▸z⟩
 keep:=λi h h' st k=>st.at λo e=>k it (by simp) o e
 item:=by
  intro X F G J O i f s σ H E I q st L
  subst F G J
  obtain ⟨xs,x,l,r⟩:=L
  obtain ⟨g,t,p,Q⟩:=I.tuple l
  obtain ⟨u,U,W⟩:=t.get r
  obtain ⟨y,f1,f2,f3,C,D⟩:=q it (by simp)
  refine wpAny_pyNext_tuple_item st (show s.heap.IsTuple a g.toArray from p) (x:=u) (by simpa using U) λh' j sb=>?_
  have Y:NM X f σ H {s with heap:=h'}:=I.turned (t':=s.toks) (λb o hb e=>(sb.2 b hb).trans e) y f1 f3 C D
  obtain ⟨o,e,c,d⟩:=id j
  exact ⟨u,ϱ,vS (s:={s with heap:=h'}) e c d ζ ⟨x,H,Y,W,⟨ϱ,λys Z=>by rw [I.tuple_inj Z l];exact r⟩,j,λb hb=>(q b hb).1⟩⟩
 done:=by
  intro X F G J O i f s σ H E I q st L
  subst F G J
  obtain ⟨xs,l,r⟩:=L
  obtain ⟨g,t,p,Q⟩:=I.tuple l
  obtain ⟨y,f1,f2,f3,C,D⟩:=q it (by simp)
  have hl:=t.length
  exact wpAny_pyNext_tuple_end (I.ok.hd O) st (show s.heap.IsTuple a g.toArray from p) (by simp;lia) λh' eb=>⟨ϱ,I.turned (t':=s.toks) (λb o hb e=>eb b o hb e) y f1 f3 C D⟩
 self:=λ_ _ _ _ _ st h=>wpAny_pyIter_tupleiter st h
def tV{P:ù}{w:ö}{K:ò}{O:ï}(it:ø)(lo:Int)(n:Nat):zY P w K O (Itr lo n) [it] it (λi h=>IsRangeIter h it (lo+(i:Nat)*1) ((n:Int)-(i:Nat)) 1) where
 mem:=by simp
 obj:=λi h st b hb=>by
  have e:b=it:=by simpa using hb
  subst e
  exact ⟨_,st,λv z=>by
   have z':Data.fields _=Data.cell v:=z
   cases z'⟩
 keep:=λi h h' st k=>k it (by simp) _ st
 item:=by
  intro X r u x y i d s σ H E I g st C
  subst r u x
  obtain ⟨j,f1,f2,f3,l,q⟩:=g it (by simp)
  have W:=Walks.range (prog:=X.prog) (w:=X.w) (I.ok.hd y) it lo 1 n
  refine W.item i s _ _ C st λv h' D G f J=>?_
  obtain ⟨t,rfl⟩:=G
  have F:NM X d σ H {s with heap:=h',toks:=D}:=I.turned (λb o hb e=>J b o (by simpa using hb) e) j f1 f3 l q
  refine ⟨_,ϱ,vS (s:={s with heap:=h',toks:=D}) (n:="range_iterator") f rfl rfl ζ ⟨.int (lo+i),H,F,⟨t,?_⟩,⟨ϱ,ϱ⟩,f,λb hb=>(g b hb).1⟩⟩
  rw [Int.mul_one]
 done:=by
  intro X r u x y i d s σ H E I g st C
  subst r u x
  obtain ⟨j,f1,f2,f3,l,q⟩:=g it (by simp)
  exact wpAny_pyNext_range_end (I.ok.hd y) st (by have:n<=i:=C;lia) λh' L=>⟨ϱ,I.turned (t':=s.toks) (λb o hb e=>L b o hb e) j f1 f3 l q⟩
 self:=λ_ _ _ _ _ st h=>wpAny_pyIter_rangeiter st h
section
variable {X:Cx}{tg:ï}
inductive XIL (K:ò) (R:It->Hp->Prop) (x:V) (H:Hp):Prop|mk a:x=.ref a->(∃xs,NO K H a xs)->R (Itl K a) H->XIL K R x H
def BH(K:ò)(tl:TE):TI:=fun σ H R=>tl σ H λx H1=>XIL K R x H1
inductive XIT (K:ò) (R:It->Hp->Prop) (x:V) (H:Hp):Prop|mk a:x=.ref a->(∃xs,NN K H a xs)->R (Itt K a) H->XIT K R x H
def Fj(K:ò)(tl:TE):TI:=fun σ H R=>tl σ H λx H1=>XIT K R x H1
def cg{l:ï}{j:TE}(w:PE X l j):PI X tg l (BH X.K j):=by
 intro d s σ H R I h
 refine Zg (w d s σ H _ I h) λv f ⟨x,H1,g,t,q1⟩=>?_
 obtain ⟨a,e,⟨xs,k⟩,q⟩:=q1
 subst e
 cases t
 obtain ⟨r,y,p,z⟩:=g.list k
 refine wpAny_pyIter_list p.isList ?_
 refine ⟨f.heap.objs.size,[f.heap.objs.size],_,_,H1,ϱ,g.kept (t':=f.toks) λb o e=>ρ _ e,wk a _,⟨_,ψ _ rfl,ϱ,ϱ⟩,λb u=>?_,q⟩
 have e:b=f.heap.objs.size:=by simpa using u
 subst e
 exact g.fpOk (ι _) (g.hok.fresh (ι _))
def uq{l:ï}{k:TE}(w:PE X l k):PI X tg l (Fj X.K k):=by
 intro f s σ H R I h
 refine Zg (w f s σ H _ I h) λv d ⟨x,H1,g,t,q1⟩=>?_
 obtain ⟨a,e,⟨xs,r⟩,q⟩:=q1
 subst e
 cases t
 obtain ⟨j,y,p,z⟩:=g.tuple r
 refine wpAny_pyIter_tuple (show d.heap.IsTuple a j.toArray from p) ?_
 refine ⟨d.heap.objs.size,[d.heap.objs.size],_,_,H1,ϱ,g.kept (t':=d.toks) λb o e=>ρ _ e,tU a _,⟨_,ψ _ rfl,ϱ,ϱ⟩,λb u=>?_,q⟩
 have e:b=d.heap.objs.size:=by simpa using u
 subst e
 exact g.fpOk (ι _) (g.hok.fresh (ι _))
def sB{f:đ}{σ:St}{H:Hp}{s:ú}{R:It->Hp->Prop}{E:Đ}{lo d:Int}{t u v:Tok}{h:Nat}(I:NM X f σ H s)(h1:-(2 ^ 62)<=lo)(r:lo<2 ^ 62)(x:-(2 ^ 62)<=d)(y:d<2 ^ 62)
  (q:R (Itr lo (d-lo).toNat) H):wpAny (model X.prog X.w) X.A (pyIter (.ref s.heap.objs.size)) (PIE X f σ tg R) E {s with heap:=s.heap.push {cls:=.type "range",data:=.fields #[.int lo t,.int d u,.int 1 v]},toks:=h}:=by
 refine wpAny_pyIter_range (IsRange.new ..) (small_one h1 r x y) ?_
 have g:NM X f σ H {s with heap:=s.heap.push {cls:=.type "range",data:=.fields #[.int lo t,.int d u,.int 1 v]},toks:=h}:=I.kept λb o e=>ρ _ e
 refine ⟨(s.heap.push {cls:=.type "range",data:=.fields #[.int lo t,.int d u,.int 1 v]}).objs.size,[(s.heap.push {cls:=.type "range",data:=.fields #[.int lo t,.int d u,.int 1 v]}).objs.size],_,_,H,ϱ,
  g.kept (t':=h) λb o e=>ρ _ e,tV _ lo (d-lo).toNat,?_,λb l=>?_,q⟩
 .have j:lo+((0:Nat):Int)*1=lo:=by simp
  have k:(((d-lo).toNat:Nat):Int)-((0:Nat):Int)=Builtin.Range.rangeSize lo d 1:=by rw [rangeSize_one];split<;>lia
  show IsRangeIter _ _ (lo+((0:Nat):Int)*1) ((((d-lo).toNat:Nat):Int)-((0:Nat):Int)) 1
  rw [j,k]
  exact ψ _ rfl
 .have e:b=(s.heap.push {cls:=.type "range",data:=.fields #[.int lo t,.int d u,.int 1 v]}).objs.size:=by simpa using l
  subst e
  exact g.fpOk (ι _) (g.hok.fresh (ι _))
def EB(ta:TA):TI:=fun σ H R=>ta σ H λvs H1=>∃j:Int,vs=[.int j]/\-(2 ^ 62)<=j/\j<2 ^ 62/\R (Itr 0 j.toNat) H1
def EA(ta:TA):TI:=fun σ H R=>ta σ H λvs H1=>∃i j:Int,vs=[.int i,.int j]/\(-(2 ^ 62)<=i/\i<2 ^ 62/\-(2 ^ 62)<=j/\j<2 ^ 62)/\R (Itr i (j-i).toNat) H1
def bD{a:ï}{ta:TA}{p pos:Pos}(k:Gl X "range")(l:X.mg "range"=none)(o:PA X [a] ta)(u:starEach [a] X.env=[(false,eval a X.env)]:=by rfl):PI X tg (.Call (.Name "range" p) [a] [] pos) (EB ta):=by
 intro d s σ H R I h
 refine Call_ (oJ I k l boot_range (PyProof.Rows.callWith_type1 (Zg (o pos d s σ H _ I h) λw x ⟨vs,H1,f,g,q1⟩=>?_) u rfl))
 obtain ⟨j,e,q1,q2,q⟩:=q1
 subst e
 cases g with
 | cons r rr =>
  cases rr
  obtain ⟨t,rfl⟩:=r
  exact call_range_1 (sB f ω ω q1 q2 (by simpa using q))
def kO{a b:ï}{ta:TA}{p pos:Pos}(l:Gl X "range")(o:X.mg "range"=none)(u:PA X [a,b] ta)(w:starEach [a,b] X.env=[(false,eval a X.env),(false,eval b X.env)]:=by rfl)(f:starEach [b] X.env=[(false,eval b X.env)]:=by rfl) :
  PI X tg (.Call (.Name "range" p) [a,b] [] pos) (EA ta):=by
 intro d s σ H R I h
 refine Call_ (oJ I l o boot_range (PyProof.Rows.callWith_type1 (Zg (u pos d s σ H _ I h) λy z ⟨vs,H1,g,k,q1⟩=>?_) (by rw [w,f]) (by rw [f];rfl)))
 obtain ⟨i,j,e,⟨q1,q2,q3,q4⟩,q⟩:=q1
 subst e
 cases k with
 | cons r rr =>
  cases rr with
  | cons r' rr =>
   cases rr
   obtain ⟨t,rfl⟩:=r
   obtain ⟨x,rfl⟩:=r'
   exact call_range_2 (sB g q1 q2 q3 q4 q)
def E3(wi:TI)(g:TG)(tb:TS):TS:=λD σ H=>wi σ H λJ H1=>∃W:Nat->Nat->St->Hp->Prop,(∃m,W 0 m σ H1)/\∀i m σ H,W i m σ H ->
 (J.stop i H/\D.nx σ H)\/(J.go i H/\∃N:St->Hp->Prop,(∀σ' H',N σ' H'->∃m',m'<m/\W (i+1) m' σ' H')/\∀x H',J.yld i H x H'->g x σ H' fun σ2 H2=>tb {D with nx:=N,ct:=N,bk:=D.nx} σ2 H2)
def oq(fp:ĉ)(h:ñ):đ:=fp.filterMap λb=>(h.get? b).map λo=>(b,o)
def gI{fp:ĉ}{h:ñ}{b:ø}{o:Obj}(hb:b∈fp)(e:h.get? b=some o):(b,o)∈oq fp h:=ĭ.mpr ⟨b,hb,by rw [e];rfl⟩
def wH{d:ĉ}{h:ñ}{p:Addr×Obj}(j:p∈oq d h):p.1∈d/\h.get? p.1=some p.2:=by
 obtain ⟨b,f,e⟩:=ĭ.mp j
 cases q:h.get? b with
 | none=>cases q▸e
 | some o =>
  rw [q] at e
  have g:(b,o)=p:=Δ e
  subst g
  exact ⟨f,q⟩
def NM.pinned{pins:đ}{σ:St}{H:Hp}{s:ú}{fp:ĉ}(I:NM X pins σ H s)(hf:∀b∈fp,tR X pins H b)(ho:∀b∈fp,∃o,s.heap.get? b=some o/\∀v,o.data≠.cell v):NM X (pins++oq fp s.heap) σ H s :=
 I.pins_of λp hp=>(ź.mp hp).elim (λz=>I.pin p (Ψ _ z)) λz=>by
  obtain ⟨hb,e⟩:=wH z
  obtain ⟨f0,f1,f2,_⟩:=hf p.1 hb
  obtain ⟨o,e',d⟩:=ho p.1 hb
  rw [e] at e';cases e'
  exact ⟨e,f0,f1,f2,d⟩
def NM.unpinned{pins pl:đ}{σ:St}{H:Hp}{s:ú}(I:NM X (pins++pl) σ H s):NM X pins σ H s:=I.pins_of λp hp=>I.pin p (Ψ _ (Ō _ hp))
def eQ{C:ï}{F:î ð}{wi:TI}{g:TG}{tb:TS}{pos:Pos}(Y:PassesOwn (model X.prog X.w) X.A X.env X.xe)(hc:X.calm=true)(hi:PI X tg C wi)(hg:PG X tg g)(z:PSs X F tb)
  (hs:∀x,foldedSetIterable C X.env x=pure x:=by intro _;rfl):PS X (.For tg C F [] pos) (E3 wi g tb):=by
 intro j s σ H D I h
 refine wpAny_For (Zg (hi j s σ H _ I h) λv s1 h1=>Zg h1 λaZ s2 h2=>?_) hs
 obtain ⟨it,K,tn,J,H2,e,I2,T,a0,f2,W,⟨m0,w0⟩,L⟩:=h2
 subst e
 have t:∀{H':Hp},(∀b∈K,H' b=none)->∀b∈K,tR X j H' b:=λhn b z=>⟨hn b z,(f2 b z).2⟩
 refine codeAny_forLoop_any (λn s'=>∃i σ' H',NM X j σ' H' s'/\tn i s'.heap/\(∀b∈K,H' b=none)/\W i n σ' H') ?_ m0 ⟨0,σ,H2,I2,a0,λb z=>(f2 b z).1,w0⟩
 rintro n s3 ⟨i,P,Z,I3,Q,U,w3⟩
 rcases L i n P Z w3 with ⟨stop,qn⟩ | ⟨go,N,hN,step⟩
 .refine Ĵ Y (Zg (T.done X rfl rfl rfl hc i j s3 P Z X.xe I3 (t U) Q stop) λr s4 ⟨hr,I4⟩=>?_)
  subst hr
  exact Ŏ ⟨P,Z,I4,qn⟩
 .refine Ĵ Y (Zg (T.item X rfl rfl rfl hc i j s3 P Z X.xe I3 (t U) Q go) λr s4 ⟨u,hr,h4⟩=>?_)
  subst hr
  refine Ĵ Y (Zg h4 λ_ s5 ⟨x,H5,I5,r5,y5,G,a3⟩=>?_)
  have a1:=I5.pinned (t a3) (T.obj _ _ G)
  refine Ĵ Y (Zg (hg _ s5 P H5 x u _ a1 r5 (step x H5 y5)) λ_ s6 ⟨σ6,H6,I6,q6⟩=>?_)
  refine Ĵ Y (Zg (z _ s6 σ6 H6 _ I6 q6) λf s7 q7=>?_)
  have y:∀{k:St} {l:Hp},NM X (j++oq K s5.heap) k l s7->N k l->∃m,m<n/\∃i σ' H',NM X j σ' H' s7/\tn i s7.heap/\(∀b∈K,H' b=none)/\W i m σ' H':=λ{k l} q O=>by
   obtain ⟨m',hm,w7⟩:=hN k l O
   refine ⟨m',hm,i+1,k,l,q.unpinned,T.keep _ _ _ G λb z o e=>(q.pin (b,o) (Ψ _ (Ψ _ (gI z e)))).1,λb z=>?_,w7⟩
   obtain ⟨o,e,d⟩:=T.obj _ _ G b z
   exact (q.pin (b,o) (Ψ _ (Ψ _ (gI z e)))).2.1
  cases f with
  | next=>obtain ⟨k,l,q,O⟩:=q7;exact y q O
  | cont=>obtain ⟨k,l,q,O⟩:=q7;exact y q O
  | brk=>obtain ⟨k,l,q,q7⟩:=q7;exact ⟨k,l,q.unpinned,q7⟩
  | ret v=>obtain ⟨x7,k,l,q,r7,q7⟩:=q7;exact ⟨x7,k,l,q.unpinned,r7,q7⟩
end
def zx{K:ò}{a:ø}{xs:î V}{g:TG}{tb:TS}{D:Ends}{σ:St}{H:Hp}(d:Nat->St->Hp->Prop)(h0:d 0 σ H)(j:∀i σ H,i<=xs.length->d i σ H->NO K H a xs)
  (k:∀i x σ H,xs[i]?=some x->d i σ H->g x σ H fun σ2 H2=>tb {D with nx:=d (i+1),ct:=d (i+1),bk:=D.nx} σ2 H2)(l:∀σ H,d xs.length σ H->D.nx σ H) :
  ∃W:Nat->Nat->St->Hp->Prop,(∃m,W 0 m σ H)/\∀i m σ H,W i m σ H ->
   ((Itl K a).stop i H/\D.nx σ H)\/((Itl K a).go i H/\∃N:St->Hp->Prop,(∀σ' H',N σ' H'->∃m',m'<m/\W (i+1) m' σ' H')/\∀x H',(Itl K a).yld i H x H'->g x σ H' fun σ2 H2=>tb {D with nx:=N,ct:=N,bk:=D.nx} σ2 H2):=by
 refine ⟨λi m σ H=>m=xs.length-i/\i<=xs.length/\d i σ H,⟨xs.length,by simp,Nat.zero_le _,h0⟩,?_⟩
 rintro i m σ H ⟨rfl,h,p⟩
 have q:=j i σ H h p
 by_cases hlt:i<xs.length
 .refine .inr ⟨⟨xs,xs[i],q,by simp [hlt]⟩,d (i+1),fun σ' H' f=>⟨xs.length-(i+1),ω,ϱ,hlt,f⟩,λx H' y=>?_⟩
  obtain ⟨e,y⟩:=y
  subst e
  exact k i x σ _ (y xs q) p
 .have e:i=xs.length:=by lia
  subst e
  exact .inl ⟨⟨xs,q,ι _⟩,l σ H p⟩
def rN{K:ò}{a:ø}{xs:î V}{g:TG}{tb:TS}{D:Ends}{σ:St}{H:Hp}(d:Nat->St->Hp->Prop)(h0:d 0 σ H)(j:∀i σ H,i<=xs.length->d i σ H->NN K H a xs)
  (k:∀i x σ H,xs[i]?=some x->d i σ H->g x σ H fun σ2 H2=>tb {D with nx:=d (i+1),ct:=d (i+1),bk:=D.nx} σ2 H2)(l:∀σ H,d xs.length σ H->D.nx σ H) :
  ∃W:Nat->Nat->St->Hp->Prop,(∃m,W 0 m σ H)/\∀i m σ H,W i m σ H ->
   ((Itt K a).stop i H/\D.nx σ H)\/((Itt K a).go i H/\∃N:St->Hp->Prop,(∀σ' H',N σ' H'->∃m',m'<m/\W (i+1) m' σ' H')/\∀x H',(Itt K a).yld i H x H'->g x σ H' fun σ2 H2=>tb {D with nx:=N,ct:=N,bk:=D.nx} σ2 H2):=by
 refine ⟨λi m σ H=>m=xs.length-i/\i<=xs.length/\d i σ H,⟨xs.length,by simp,Nat.zero_le _,h0⟩,?_⟩
 rintro i m σ H ⟨rfl,h,p⟩
 have q:=j i σ H h p
 by_cases hlt:i<xs.length
 .refine .inr ⟨⟨xs,xs[i],q,by simp [hlt]⟩,d (i+1),fun σ' H' f=>⟨xs.length-(i+1),ω,ϱ,hlt,f⟩,λx H' y=>?_⟩
  obtain ⟨e,y⟩:=y
  subst e
  exact k i x σ _ (y xs q) p
 .have e:i=xs.length:=by lia
  subst e
  exact .inl ⟨⟨xs,q,ι _⟩,l σ H p⟩
def cH{lo:Int}{n:Nat}{g:TG}{tb:TS}{D:Ends}{σ:St}{H:Hp}(d:Nat->St->Hp->Prop)(h0:d 0 σ H)
  (h:∀i σ H,i<n->d i σ H->g (.int (lo+i)) σ H fun σ2 H2=>tb {D with nx:=d (i+1),ct:=d (i+1),bk:=D.nx} σ2 H2)(j:∀σ H,d n σ H->D.nx σ H) :
  ∃W:Nat->Nat->St->Hp->Prop,(∃m,W 0 m σ H)/\∀i m σ H,W i m σ H ->
   ((Itr lo n).stop i H/\D.nx σ H)\/((Itr lo n).go i H/\∃N:St->Hp->Prop,(∀σ' H',N σ' H'->∃m',m'<m/\W (i+1) m' σ' H')/\∀x H',(Itr lo n).yld i H x H'->g x σ H' fun σ2 H2=>tb {D with nx:=N,ct:=N,bk:=D.nx} σ2 H2):=by
 refine ⟨λi m σ H=>m=n-i/\i<=n/\d i σ H,⟨n,by simp,Nat.zero_le _,h0⟩,?_⟩
 rintro i m σ H ⟨rfl,k,p⟩
 by_cases hlt:i<n
 .refine .inr ⟨hlt,d (i+1),fun σ' H' f=>⟨n-(i+1),ω,ϱ,hlt,f⟩,λx H' y=>?_⟩
  obtain ⟨e,y⟩:=y
  subst e y
  exact h i σ _ hlt p
 .have e:i=n:=by lia
  subst e
  exact .inl ⟨ι _,j σ H p⟩
abbrev R2:=V->V->Hp->VK->Prop
def OpR(X:Cx)(f:ó->ó->Sem ó)(r:R2):Prop :=
 ∀(pins:đ) (s:ú) (σ:St) (H:Hp) (x y:V) (v u:ó) (Q:VK),NM X pins σ H s->NP x v->NP y u->r x y H Q ->
  wpAny (model X.prog X.w) X.A (f v u) (EP X pins σ Q) X.xe s
def UnR(X:Cx)(f:ó->Sem ó)(r:V->Hp->VK->Prop):Prop :=
 ∀(pins:đ) (s:ú) (σ:St) (H:Hp) (x:V) (v:ó) (Q:VK),NM X pins σ H s->NP x v->r x H Q ->
  wpAny (model X.prog X.w) X.A (f v) (EP X pins σ Q) X.xe s
def cV(X:Cx)(f:ó)(r:î V->Hp->VK->Prop):Prop :=
 ∀(pins:đ) (s:ú) (σ:St) (H:Hp) (xs:î V) (us:Ċ) (Q:VK),NM X pins σ H s->NQ xs us->r xs H Q ->
  wpAny (model X.prog X.w) X.A (call f us) (EP X pins σ Q) X.xe s
def Fv(X:Cx)(r:V->Hp->(Bool->Hp->Prop)->Prop):Prop :=
 ∀(pins:đ) (s:ú) (σ:St) (H:Hp) (x:V) (v:ó) (Q:Bool->Hp->Prop),NM X pins σ H s->NP x v->r x H Q ->
  wpAny (model X.prog X.w) X.A (truthy v) (TP X pins σ Q) X.xe s
def tOp(r:R2)(ta tb:TE):TE:=fun σ H Q=>ta σ H λx H1=>tb σ H1 λy H2=>r x y H2 Q
def tUn(r:V->Hp->VK->Prop)(ta:TE):TE:=fun σ H Q=>ta σ H λx H1=>r x H1 Q
inductive XI (C:Int->Int->Prop) (g:Int->Int->V) (x y:V) (H:Hp) (Q:VK):Prop|mk i j:x=.int i->y=.int j->C i j->Q (g i j) H->XI C g x y H Q
def rI(C:Int->Int->Prop)(g:Int->Int->V):R2:=λx y H Q=>XI C g x y H Q
inductive XI0 (g:Int->Int->V) (x y:V) (H:Hp) (Q:VK):Prop|mk i j:x=.int i->y=.int j->Q (g i j) H->XI0 g x y H Q
def rI0(g:Int->Int->V):R2:=λx y H Q=>XI0 g x y H Q
def rU(g:Int->V):V->Hp->VK->Prop:=λx H Q=>∃i,x=.int i/\Q (g i) H
section
variable {X:Cx}{a b c:ï}{ta tb tc:TE}{pos:Pos}
def Dp(o:PE X a ta)(q:PE X b tb){d:đ}{s:ú}{σ:St}{H:Hp}{R:V->V->Hp->Prop}(I:NM X d σ H s)
  (h:ta σ H λx H1=>tb σ H1 λy H2=>R x y H2){Q:Đ}{f:ó->ó->Sem ó}
  (r:∀v u s2 x y H2,NM X d σ H2 s2->NP x v->NP y u->R x y H2->wpAny (model X.prog X.w) X.A (f v u) Q X.xe s2) :
  wpAny (model X.prog X.w) X.A (eval a X.env) (λv s₁=>wpAny (model X.prog X.w) X.A (eval b X.env) (λu s₂=>wpAny (model X.prog X.w) X.A (f v u) Q X.xe s₂) X.xe s₁) X.xe s:=by
 refine Zg (o d s σ H _ I h) λv e ⟨x,H1,g,j,q1⟩=>?_
 refine Zg (q d e σ H1 _ g q1) λu s2 ⟨y,H2,k,l,q2⟩=>?_
 exact r v u s2 x y H2 k j l q2
def ai{e:Operator}{r:R2}(o:OpR X (binaryOp e) r)(t:PE X a ta)(w:PE X b tb):PE X (.BinOp a e b pos) (tOp r ta tb):=by
 intro d s σ H Q I h
 exact wpAny_BinOp (Dp t w I h λv u f x y g j k l q=>o d f σ g x y v u Q j k l q)
def eR{e:UnaryOp}{r:V->Hp->VK->Prop}(k:UnR X (unaryOp e) r)(l:PE X a ta):PE X (.UnaryOp e a pos) (tUn r ta):=by
 intro d s σ H Q I h
 exact UnaryOp_ (Zg (l d s σ H _ I h) λv f ⟨x,H1,g,j,q1⟩=>k d f σ H1 x v Q g j q1)
def opI{f:ó->ó->Sem ó}{C:Int->Int->Prop}{g:Int->Int->Int}
  (d:∀(i j:Int) (t u:Tok) (s:ú) (Q:Đ) (E:Đ),C i j->Q (.int (g i j) s.toks) {s with toks:=s.toks+1}->wpAny (model X.prog X.w) X.A (f (.int i t) (.int j u)) Q E s) :
  OpR X f (rI C λi j=>.int (g i j)):=by
 intro e s σ H x y v u Q I o r h
 obtain ⟨i,j,rfl,rfl,k,q⟩:=h
 obtain ⟨t,rfl⟩:=o
 obtain ⟨l,rfl⟩:=r
 exact d i j t l s _ _ k ⟨.int (g i j),H,I.tok _,⟨_,ϱ⟩,q⟩
def D7{f:ó->ó->Sem ó}{g:Int->Int->Int}
  (d:∀(i j:Int) (t u:Tok) (s:ú) (Q:Đ) (E:Đ),Q (.int (g i j) s.toks) {s with toks:=s.toks+1}->wpAny (model X.prog X.w) X.A (f (.int i t) (.int j u)) Q E s) :
  OpR X f (rI0 λi j=>.int (g i j)):=by
 intro e s σ H x y v u Q I l o h
 obtain ⟨i,j,rfl,rfl,q⟩:=h
 obtain ⟨t,rfl⟩:=l
 obtain ⟨k,rfl⟩:=o
 exact d i j t k s _ _ ⟨.int (g i j),H,I.tok _,⟨_,ϱ⟩,q⟩
def CI{f:ó->ó->Sem ó}{g:Int->Int->Bool}
  (d:∀(i j:Int) (t u:Tok) (s:ú) (Q:Đ) (E:Đ),Q (.bool (g i j)) s->wpAny (model X.prog X.w) X.A (f (.int i t) (.int j u)) Q E s) :
  OpR X f (rI0 λi j=>.bl (g i j)):=by
 intro e s σ H x y v u Q I l o h
 obtain ⟨i,j,rfl,rfl,q⟩:=h
 obtain ⟨t,rfl⟩:=l
 obtain ⟨k,rfl⟩:=o
 exact d i j t k s _ _ ⟨.bl (g i j),H,I,ϱ,q⟩
def EX(i j:Int):Prop:=0<j/\j<1073741824
def Fx(i j:Int):Prop:=0<=j/\j<=1000000/\i.natAbs<2 ^ 64
def CMul(i j:Int):Prop:=(-(2 ^ 64)<i/\i<2 ^ 64)\/(-(2 ^ 64)<j/\j<2 ^ 64)
def CMul.ok{i j:Int}(h:CMul i j):IntMulOk i j:=by
 rcases h with ⟨h1,h2⟩ | ⟨h1,h2⟩
 .exact .of_left (intBits_le_64 h1 h2)
 .exact .of_right (intBits_le_64 h1 h2)
def aU:OpR X (binaryOp .Add) (rI0 λi j=>.int (i+j)):=D7 λ_ _ _ _ _ _ _ q=>add_int q
def iz:OpR X (binaryOp .Sub) (rI0 λi j=>.int (i-j)):=D7 λ_ _ _ _ _ _ _ q=>sub_int q
def dD:OpR X (binaryOp .Mult) (rI CMul λi j=>.int (i*j)):=opI λ_ _ _ _ _ _ _ hc q=>mul_int q hc.ok
def cw:OpR X (binaryOp .FloorDiv) (rI EX λi j=>.int (i/j)):=opI λi j _ _ _ _ _ hc q=>by
 have h1:(0:Int)<j:=hc.1
 have h2:j<1073741824:=hc.2
 exact floordiv_int ω (by rw [Int.fdiv_eq_ediv_of_nonneg i ω];exact q) (.inl (PyProof.noPylong_small ω))
def aG:OpR X (binaryOp .Mod) (rI (λ_ j=>0<j) λi j=>.int (i%j)):=opI λi j _ _ _ _ _ hc q=>by
 have h1:(0:Int)<j:=hc
 exact mod_int' ω (by rw [Int.fmod_eq_emod_of_nonneg i ω];exact q)
def kU:OpR X (binaryOp .Pow) (rI Fx λi j=>.int (i ^ j.toNat)):=opI λ_ _ _ _ _ _ _ hc q=>pow_int_small hc.1 hc.2.1 hc.2.2 q
def unI{f:ó->Sem ó}{g:Int->Int}
  (d:∀(i:Int) (t:Tok) (s:ú) (Q:Đ) (E:Đ),Q (.int (g i) s.toks) {s with toks:=s.toks+1}->wpAny (model X.prog X.w) X.A (f (.int i t)) Q E s) :
  UnR X f (rU λi=>.int (g i)):=by
 intro e s σ H x v Q I j h
 obtain ⟨i,rfl,q⟩:=h
 obtain ⟨t,rfl⟩:=j
 exact d i t s _ _ ⟨.int (g i),H,I.tok _,⟨_,ϱ⟩,q⟩
def cA:UnR X (unaryOp .USub) (rU λi=>.int (-i)):=unI λ_ _ _ _ _ q=>neg_int q
end
def DT:V->V->Bool
 | .non,.non=>true | .non,.int _=>true | .int _,.non=>true | .non,.bl _=>true | .bl _,.non=>true | .non,.str _=>true | .str _,.non=>true
 | .int _,.int _=>true | .bl _,.bl _=>true | .str _,.str _=>true | .byt _,.byt _=>true
 | .int _,.str _=>true | .str _,.int _=>true | .bl _,.str _=>true | .str _,.bl _=>true
 | _,_=>false
def rEq:R2:=λx y H Q=>DT x y=true/\Q (.bl (decide (x=y))) H
def rNe:R2:=λx y H Q=>DT x y=true/\Q (.bl (!decide (x=y))) H
def rS{i j:Int}:decide (V.int i=V.int j)=(i==j):=by
 rw [ļ]
 simp
def zL{i j:Bool}:decide (V.bl i=V.bl j)=(i==j):=by
 rw [ļ]
 simp
def v5{i j:Str}:decide (V.str i=V.str j)=(i==j):=by
 rw [ļ]
 simp
def v6{i j:Array UInt8}:decide (V.byt i=V.byt j)=(i.toList==j.toList):=by
 rw [ļ]
 cases i
 cases j
 simp
section
variable {X:Cx}{a b c:ï}{ta tb tc:TE}{pos:Pos}
def aW{d:đ}{σ:St}{H:Hp}{s:ú}{Q:VK}{k k':Bool}(I:NM X d σ H s)(q:Q (.bl k) H)(e:k=k'):EP X d σ Q (.bool k') s:=by
 subst e
 exact ⟨.bl k,H,I,ϱ,q⟩
def lK:OpR X (compareOp .Eq) rEq:=by
 intro k s σ H x y v u Q I g d h
 obtain ⟨f,q⟩:=h
 cases x with
 | non =>
  cases g
  cases y with
  | non=>cases d;exact PySem.EqNone.eq_none_none (aW I q (by simp))
  | bl j=>cases d;exact PySem.EqNone.eq_none_bool (aW I q (by simp))
  | int j=>obtain ⟨e,rfl⟩:=d;exact PySem.EqNone.eq_none_int (aW I q (by simp))
  | str j=>obtain ⟨e,rfl⟩:=d;exact PySem.EqNone.eq_none_str (aW I q (by simp))
  | _=>exact absurd (show false=true from f) ű
 | bl i =>
  cases g
  cases y with
  | non=>cases d;exact PySem.EqNone.eq_bool_none (aW I q (by simp))
  | bl j=>cases d;exact eq_bool (aW I q zL)
  | str j=>obtain ⟨e,rfl⟩:=d;exact PySem.EqMixed.eq_bool_str (aW I q (by simp))
  | _=>exact absurd (show false=true from f) ű
 | int i =>
  obtain ⟨t,rfl⟩:=g
  cases y with
  | non=>cases d;exact PySem.EqNone.eq_int_none (aW I q (by simp))
  | int j=>obtain ⟨e,rfl⟩:=d;exact eq_int (aW I q rS)
  | str j=>obtain ⟨e,rfl⟩:=d;exact PySem.EqMixed.eq_int_str (aW I q (by simp))
  | _=>exact absurd (show false=true from f) ű
 | str i =>
  obtain ⟨t,rfl⟩:=g
  cases y with
  | non=>cases d;exact PySem.EqNone.eq_str_none (aW I q (by simp))
  | bl j=>cases d;exact PySem.EqMixed.eq_str_bool (aW I q (by simp))
  | int j=>obtain ⟨e,rfl⟩:=d;exact PySem.EqMixed.eq_str_int (aW I q (by simp))
  | str j=>obtain ⟨e,rfl⟩:=d;exact eq_str (aW I q v5)
  | _=>exact absurd (show false=true from f) ű
 | byt i =>
  obtain ⟨t,rfl⟩:=g
  cases y with
  | byt j=>obtain ⟨e,rfl⟩:=d;exact PySem.W.eq_bytes (aW I q v6)
  | _=>exact absurd (show false=true from f) ű
 | _=>cases y<;>exact absurd (show false=true from f) ű
def f8:OpR X (compareOp .NotEq) rNe:=by
 intro k s σ H x y v u Q I g d h
 obtain ⟨f,q⟩:=h
 cases x with
 | non =>
  cases g
  cases y with
  | non=>cases d;exact PySem.EqNone.ne_none_none (aW I q (by simp))
  | bl j=>cases d;exact PySem.EqNone.ne_none_bool (aW I q (by simp))
  | int j=>obtain ⟨e,rfl⟩:=d;exact PySem.EqNone.ne_none_int (aW I q (by simp))
  | str j=>obtain ⟨e,rfl⟩:=d;exact PySem.EqNone.ne_none_str (aW I q (by simp))
  | _=>exact absurd (show false=true from f) ű
 | bl i =>
  cases g
  cases y with
  | non=>cases d;exact PySem.EqNone.ne_bool_none (aW I q (by simp))
  | bl j=>cases d;exact ne_bool (aW I q (congrArg not zL))
  | str j=>obtain ⟨e,rfl⟩:=d;exact PySem.EqMixed.ne_bool_str (aW I q (by simp))
  | _=>exact absurd (show false=true from f) ű
 | int i =>
  obtain ⟨t,rfl⟩:=g
  cases y with
  | non=>cases d;exact PySem.EqNone.ne_int_none (aW I q (by simp))
  | int j=>obtain ⟨e,rfl⟩:=d;exact ne_int (aW I q (congrArg not rS))
  | str j=>obtain ⟨e,rfl⟩:=d;exact PySem.EqMixed.ne_int_str (aW I q (by simp))
  | _=>exact absurd (show false=true from f) ű
 | str i =>
  obtain ⟨t,rfl⟩:=g
  cases y with
  | non=>cases d;exact PySem.EqNone.ne_str_none (aW I q (by simp))
  | bl j=>cases d;exact PySem.EqMixed.ne_str_bool (aW I q (by simp))
  | int j=>obtain ⟨e,rfl⟩:=d;exact PySem.EqMixed.ne_str_int (aW I q (by simp))
  | str j=>obtain ⟨e,rfl⟩:=d;exact ne_str (aW I q (congrArg not v5))
  | _=>exact absurd (show false=true from f) ű
 | byt i =>
  obtain ⟨t,rfl⟩:=g
  cases y with
  | byt j=>obtain ⟨e,rfl⟩:=d;exact PySem.W.ne_bytes (aW I q (congrArg not v6))
  | _=>exact absurd (show false=true from f) ű
 | _=>cases y<;>exact absurd (show false=true from f) ű
def ja:OpR X (compareOp .Lt) (rI0 λi j=>.bl (decide (i<j))):=CI λ_ _ _ _ _ _ _ q=>lt_int q
def BD:OpR X (compareOp .LtE) (rI0 λi j=>.bl (decide (i<=j))):=CI λ_ _ _ _ _ _ _ q=>le_int q
def pQ:OpR X (compareOp .Gt) (rI0 λi j=>.bl (decide (j<i))):=CI λ_ _ _ _ _ _ _ q=>gt_int q
def uu:OpR X (compareOp .Is) (λx y H Q=>y=.non/\Q (.bl (decide (x=.non))) H):=by
 intro d s σ H x y v u Q I e f h
 obtain ⟨rfl,q⟩:=h
 cases f
 refine is_none_gen (aW I q ?_)
 cases x<;>first
  | (cases e;rfl)
  | (obtain ⟨t,rfl⟩:=e;rfl)
def vy:OpR X (compareOp .IsNot) (λx y H Q=>y=.non/\Q (.bl (!decide (x=.non))) H):=by
 intro d s σ H x y v u Q I e f h
 obtain ⟨rfl,q⟩:=h
 cases f
 refine isnot_none_gen (aW I q ?_)
 cases x<;>first
  | (cases e;rfl)
  | (obtain ⟨t,rfl⟩:=e;rfl)
def aF(b:ï){d:CmpOp}(h:d≠.In:=by decide)(g:d≠.NotIn:=by decide):behindInMarks d b=false:=by
 have e:(d==CmpOp.In)=false:=by cases d<;>first | rfl | exact absurd rfl h
 have f:(d==CmpOp.NotIn)=false:=by cases d<;>first | rfl | exact absurd rfl g
 cases b<;>simp [behindInMarks,e,f]
def bH{e:CmpOp}{r:R2}(o:OpR X (compareOp e) r)(t:PE X a ta)(w:PE X b tb)(z:behindInMarks e b=false):PE X (.Compare a [e] [b] pos) (tOp r ta tb):=by
 intro d s σ H Q I h
 exact wpAny_Compare1 (Dp t w I h λv u f x y g j k l q=>o d f σ g x y v u Q j k l q) z
def xt(t:TE):TT:=fun σ H Q=>t σ H λx H'=>XB Q x H'
def aJ{f:CmpOp}{r:R2}(G:OpR X (compareOp f) r)(J:PE X a ta)(K:PE X b tb)(L:behindInMarks f b=false):PT X (.Compare a [f] [b] pos) (xt (tOp r ta tb)):=by
 intro d s σ H Q I h
 refine wpAny_isTrue_Compare1 (Zg (J d s σ H _ I h) λv g ⟨x,H1,j,l,q1⟩=>Zg (K d g σ H1 _ j q1) λu o ⟨y,q,t,w,q2⟩ =>
  Zg (G d o σ q x y v u _ t l w q2) λc O ⟨z,C,D,F,k,e,q3⟩=>?_) L
 subst e
 cases F
 exact Œ ⟨C,D,q3⟩
def B4(r r':R2)(ta tb tc:TE):TE:=fun σ H Q=>ta σ H λx H1=>tb σ H1 λy H2=>r x y H2 λz H3=>∃k,z=.bl k /\
 (if k=true then tc σ H3 λw' H4=>r' y w' H4 Q else Q (.bl false) H3)
def yp{j g:CmpOp}{r w:R2}(ho:OpR X (compareOp j) r)(l:OpR X (compareOp g) w)(ha:PE X a ta)(hb:PE X b tb)(hc:PE X c tc)
  (hm:lastMarks [j,g] [b,c]=false:=by with_unfolding_all rfl):PE X (.Compare a [j,g] [b,c] pos) (B4 r w ta tb tc):=by
 intro f s σ H Q I h
 refine Compare_chain (Zg (ha f s σ H _ I h) λv C ⟨x,H1,D,F,q1⟩=>chain_link (Zg (hb f C σ H1 _ D q1) λu G ⟨y,J,K,o,q2⟩ =>
  Zg (ho f G σ J x y v u _ K F o q2) λd L ⟨z,q,t,O,k,e,q3⟩=>?_)) hm
 subst e
 cases O
 refine Œ ?_
 cases k with
 | false=>exact ite_ff ⟨.bl false,q,t,rfl,q3⟩
 | true=>exact ite_tt (chain_last (Zg (hc f L σ q _ t q3) λP U ⟨W,Y,Z,r4,q4⟩=>l f U σ Y y W u P Q Z o r4 q4))
def Ds(K:ò)(x:V)(H:Hp)(k:Bool):Prop :=
 match x with
 | .non=>k=false
 | .bl b=>k=b
 | .int i=>k=(i != 0)
 | .str y=>y.length<=sizeLine/\k=((y.length:Int) != 0)
 | .byt y=>y.size<=sizeLine/\k=((y.size:Int) != 0)
 | .ref p=>(∃xs,NO K H p xs/\k=!xs.isEmpty)\/(∃xs,NN K H p xs/\k=!xs.isEmpty)\/∃kvs,H p=some (.dK kvs)/\k=!kvs.isEmpty
 | _=>False
def uO{κ:Type}{d:î (κ×V)}{vs:î (κ×ó)}(r:KV d vs):(!vs.isEmpty)=!d.isEmpty:=by
 cases r<;>rfl
def oQ{xs:î V}{d:Ċ}(r:NQ xs d):(!d.toArray.isEmpty)=!xs.isEmpty:=by
 cases r<;>simp
def jq:(sizeLine:Nat)<2 ^ 63:=by rw [sizeLine_eq];decide
def xo:Fv X (λx H Q=>∃k,Ds X.K x H k/\Q k H):=by
 intro o s σ H x v Q I g h
 obtain ⟨k,e,q⟩:=h
 have C:=jq
 have D:sizeLine=16777216:=sizeLine_eq
 cases x with
 | non =>
  cases g
  have d:k=false:=e
  subst d
  exact truthy_none ⟨H,I,q⟩
 | bl b =>
  cases g
  have d:k=b:=e
  subst d
  exact Œ ⟨H,I,q⟩
 | int i =>
  obtain ⟨t,rfl⟩:=g
  have d:k=(i != 0):=e
  subst d
  exact PySem.P.truthy_int ⟨H,I,q⟩
 | str y =>
  obtain ⟨t,rfl⟩:=g
  obtain ⟨u,d⟩:y.length<=sizeLine/\k=((y.length:Int) != 0):=e
  subst d
  exact PySem.P.truthy_str ω ⟨H,I.tok _,q⟩
 | byt y =>
  obtain ⟨t,rfl⟩:=g
  obtain ⟨u,d⟩:y.size<=sizeLine/\k=((y.size:Int) != 0):=e
  subst d
  exact PySem.W.truthy_bytes ω ⟨H,I.tok _,q⟩
 | ref p =>
  cases g
  have d:(∃xs,NO X.K H p xs/\k=!xs.isEmpty)\/(∃xs,NN X.K H p xs/\k=!xs.isEmpty)\/∃kvs,H p=some (.dK kvs)/\k=!kvs.isEmpty:=e
  rcases d with ⟨xs,hx,d⟩ | ⟨xs,hx,d⟩ | ⟨kvs,hx,d⟩
  .subst d
   obtain ⟨j,r,pl,l⟩:=I.list hx
   have f:=r.length
   exact wpAny_truthy_list pl.isList (by simp only [List.size_toArray];lia) ⟨H,I.tok _,by rw [oQ r];exact q⟩
  .subst d
   obtain ⟨j,r,pl,l⟩:=I.tuple hx
   have f:=r.length
   exact truthy_tuple pl (by simp only [List.size_toArray];lia) ⟨H,I.tok _,by rw [oQ r];exact q⟩
  .subst d
   obtain ⟨l,z,vs,r,m⟩:kvs.length<=sizeLine/\(p==sysModules)=false/\∃vs,KV kvs vs/\s.heap.DictOf (ci X.prog X.w) p vs:=I.hok p _ hx
   have f:kvs.length=vs.length:=Paired.length r
   exact wpAny_truthy_dict z m ω ⟨H,I.tok _,by rw [uO r];exact q⟩
 | _=>exact (show False from e).elim
def eM(j:PE X a ta)(l:∀whole,isTrue a X.env whole=(do let v ← whole;standAt a.pos;holding [v] (truthy v))) :
  PT X a (fun σ H Q=>ta σ H λx H'=>∃k,Ds X.K x H' k/\Q k H'):=by
 intro d s σ H Q I h
 exact isTrue_plain (Zg (j d s σ H _ I h) λv e ⟨x,H1,f,g,q1⟩=>xo d e σ H1 x v Q f g q1) (l _)
def eT:OpR X (binaryOp .Add) (λx y H Q=>∃i j,x=.str i/\y=.str j/\i.length+j.length<=sizeLine/\Q (.str (i++j)) H):=by
 intro d s σ H x y v u Q I g k h
 obtain ⟨i,j,rfl,rfl,e,q⟩:=h
 obtain ⟨t,rfl⟩:=g
 obtain ⟨f,rfl⟩:=k
 exact add_str (λf l=>⟨.str (i++j),H,I.tok _,⟨_,ϱ⟩,q⟩) e
def cJ{x:V}{us:Ċ}(r:NQ [x] us):∃u,us=[u]/\NP x u:=by
 cases r with
 | cons r1 r2=>cases r2;exact ⟨_,rfl,r1⟩
def mY{x y:V}{us:Ċ}(r:NQ [x,y] us):∃u w',us=[u,w']/\NP x u/\NP y w':=by
 cases r with
 | cons r1 r2 =>
  cases r2 with
  | cons r3 r4=>cases r4;exact ⟨_,_,rfl,r1,r3⟩
def w8(hc:X.calm=true):cV X (.builtin "max") (λxs H Q=>∃i j,xs=[.int i,.int j]/\Q (.int (if j>i then j else i)) H):=by
 intro d s σ H xs o Q I r h
 obtain ⟨i,j,rfl,q⟩:=h
 obtain ⟨u,e,rfl,⟨t,rfl⟩,⟨f,rfl⟩⟩:=mY r
 refine max_two_ints (I.ok.hd hc) λg l k=>⟨_,H,I.kept k,?_,q⟩
 by_cases hj:j>i
 .rw [ů hj,ů hj];exact ⟨_,ϱ⟩
 .rw [ŵ hj,ŵ hj];exact ⟨_,ϱ⟩
def wZ(hc:X.calm=true):cV X (.builtin "min") (λxs H Q=>∃i j,xs=[.int i,.int j]/\Q (.int (if j<i then j else i)) H):=by
 intro d s σ H xs o Q I r h
 obtain ⟨i,j,rfl,q⟩:=h
 obtain ⟨u,e,rfl,⟨t,rfl⟩,⟨f,rfl⟩⟩:=mY r
 refine min_two_ints (I.ok.hd hc) λg l k=>⟨_,H,I.kept k,?_,q⟩
 by_cases hj:j<i
 .rw [ů hj,ů hj];exact ⟨_,ϱ⟩
 .rw [ŵ hj,ŵ hj];exact ⟨_,ϱ⟩
def w9:cV X (.type "int") (λxs H Q=>(∃i,xs=[.int i]/\Q (.int i) H)\/∃k,xs=[.bl k]/\Q (.int (if k then 1 else 0)) H):=by
 intro d s σ H xs f Q I r h
 rcases h with ⟨i,rfl,q⟩ | ⟨k,rfl,q⟩
 .obtain ⟨u,rfl,t,rfl⟩:=cJ r
  exact call_int_int ⟨.int i,H,I,⟨_,ϱ⟩,q⟩
 .obtain ⟨u,rfl,e⟩:=cJ r
  cases e
  exact call_int_bool ⟨.int (if k then 1 else 0),H,I.tok _,⟨_,ϱ⟩,q⟩
def rW:cV X (.type "str") (λxs H Q=>∃i,xs=[.int i]/\i.natAbs.log2<1920/\Q (.str (toString i)) H):=by
 intro d s σ H xs f Q I r h
 obtain ⟨i,rfl,e,q⟩:=h
 obtain ⟨u,rfl,t,rfl⟩:=cJ r
 exact PySem.P.str_of_int e ⟨.str _,H,I.tok _,⟨_,ϱ⟩,q⟩
def zQ:cV X (.builtin "ord") (λxs H Q=>∃x,xs=[.str x]/\x.length=1/\Q (.int (x.cps.getD 0 0:Nat)) H):=by
 intro d s σ H xs f Q I r h
 obtain ⟨x,rfl,e,q⟩:=h
 obtain ⟨u,rfl,t,rfl⟩:=cJ r
 exact ord_of_one e ⟨.int _,H,I.tok _,⟨_,ϱ⟩,q⟩
end
structure ObjM(h:ñ)(x dx C:ø)(mA:ď):Prop where
 obj:h.get? x=some (PySem.W.instObj C dx)
 ns:h.Ns1 dx mA
 ne:dx≠x
def pS{h:ñ}{g:ø}{j:ď}(n:h.Ns1 g j):∃od,h.get? g=some od/\∀name,PySem.W.lookIn name od=some (j name):=by
 obtain ⟨o,f,C,k,l,r,_,u⟩:=n
 refine ⟨o,k,λname=>?_⟩
 have e:=u name
 unfold nsFind findBy at e
 rw [← Array.find?_toList] at e
 unfold PySem.W.lookIn
 rw [l]
 dsimp only
 split
 .rename_i y q
  rw [q] at e
  exact congrArg some e
 .rename_i q
  rw [q] at e
  have a:f.toList.any (·.refKey)=false:=by
   rw [List.any_eq_false]
   intro y x
   obtain ⟨z,t,d⟩:=r y (Array.mem_toList_iff.mp x)
   simp [DictEntry.refKey,d]
  have w:¬f.toList.any (·.refKey)=true:=by rw [a];exact ű
  exact ŵ w▸congrArg some e
def ObjM.look{h:ñ}{x dx C:ø}{mA:ď}(I:ObjM h x dx C mA):∃od,PySem.W.InstAt h x (PySem.W.instObj C dx) C (some od)/\∀name,PySem.W.lookIn name od=some (mA name) :=
 let ⟨od,ho,hl⟩:=pS I.ns
 ⟨od,⟨I.obj,ϱ,ϱ,ho⟩,hl⟩
section
variable {prog:ù}{w:ö}{A:ô}{E:Đ}{s:ú}{K:ò}{x dx C f:ø}{mA:ď}{name:Str}{v:ó}
def Bf{d:Bool}{Q:Đ}(X:K.In s.heap)(I:ObjM s.heap x dx C mA)(g:PySem.W.plainGet K C name=true)(j:PySem.W.hasDictIn K C=true)
  (k:PySem.W.findIn K (.ref C) name=some none)(l:mA name=some v)(e:PySem.W.handedIn v=true)(h:Q v {s with toks:=s.toks+1}) :
  wpAny (model prog w) A (getAttr (.ref x) name d) Q E s:=by
 obtain ⟨o,J,f⟩:=I.look
 exact PySem.W.get_value X J (PySem.W.plainGet_of g).1 (PySem.W.findObj_own j k rfl (by rw [f,l])) e h
def zv{pl:Sem Bool}{Q:Value×Ċ->ú->Prop}(X:K.In s.heap)(I:ObjM s.heap x dx C mA)(d:PySem.W.plainGet K C name=true)
  (j:PySem.W.findIn K (.ref C) name=some (some (.ref f)))(k:PySem.W.isFn K (.ref f)=true)(l:mA name=none)(h:Q (.ref f,[.ref x]) s) :
  wpAny (model prog w) A (getMethod (.ref x) name pl) Q E s:=by
 obtain ⟨e,J,g⟩:=I.look
 exact PySem.W.method_fn X J (PySem.W.plainGet_of d).1 (PySem.W.plainGet_of d).2 j (Ĭ.mp k) (by show (PySem.W.lookIn name e).map (·.isSome)=some false;rw [g,l];rfl) h
def Ax{ns:Ĉ}{Q:Unit->ú->Prop}(X:K.In s.heap)(I:ObjM s.heap x dx C mA)
  (u:PySem.W.findIn K (.ref C) "__setattr__"=some (some (.builtin "object.__setattr__")))(z:PySem.W.plainOver K C=true)(D:PySem.W.takerIn K C name=some none)(F:PySem.W.hasDictIn K C=true)
  (hw:PySem.Within mA ns)(hsz:ns.length<=sizeLine)
  (h:∀h',ObjM h' x dx C (λy=>if y=name then some v else mA y)->Heap.SameBut dx s.heap h'->Q () {s with heap:=h',toks:=s.toks+2}) :
  wpAny (model prog w) A (setAttr (.ref x) name v) Q E s:=by
 obtain ⟨G,J,H⟩:=I.look
 refine PySem.W.set_plain X J u (PySem.W.osa_open (s:={s with toks:=s.toks+1}) (r:=none) X J z D λb=>?_)
 obtain ⟨L,l,f⟩:=PySem.W.any_some F
 have t:s.heap.get? x=some ⟨.ref C,some dx,.plain,#[]⟩:=I.obj
 refine ε (π (ε (ε (wpAny_loadPart t (ε (PySem.W.Looks.here (s:={s with toks:=s.toks+1}) (PySem.W.looks_clsIn X l) ?_))))))
 rw [f]
 refine π (a:=some dx) (ε (π (ε ?_)))
 refine wpAny_nsSet1 (s:={s with toks:=s.toks+1}) I.ns λh' d e=>?_
 obtain ⟨O,o,q,g,j,k⟩:=d.count (PySem.Within.cons name v hw)
 refine ε (wpAny_lookBehind g (by rw [j];exact pastItsLine_dict (Λ k (by rw [Ŷ];lia))) ?_)
 exact π (h _ ⟨(e.2 _ (Ne.symm I.ne)).trans I.obj,d,I.ne⟩ e)
def za{R:Result->ú->Prop}{vs:Ċ}{j:î (Str×ó)}(X:K.In s.heap)(k:PySem.W.makesIn K C=true)
  (l:PySem.W.findIn K (.ref C) "__init__"=some (some (.ref f)))(o:PySem.W.typeIn K (.ref f)=some (.type "function"))
  (h:codeAny (model prog w) (A.under (.builtin "type.__call__" ⟨.ref C::vs,j⟩)) (.call (.ref f) ⟨.ref (s.heap.objs.size+1)::vs,j⟩) (PySem.W.InitBack (s.heap.objs.size+1) R)
   {s with heap:=(s.heap.push PySem.W.emptyDict).push (PySem.W.instObj C s.heap.objs.size)}) :
  codeAny (model prog w) A (.call (.ref C) ⟨vs,j⟩) R s:=by
 obtain ⟨q,g,d,t,r⟩:=s
 exact PySem.W.make_core (PySem.W.makes_of X k) (Ŋ X l) (λe=>PySem.W.bind_fn X e o) (.inl rfl) h
end
def aK(f:Str)(v:V):List (Str×V)->List (Str×V)
 | []=>[(f,v)]
 | (g,x)::r=>if g=f then (g,v)::r else (g,x)::aK f v r
theorem aV(f g:Str)(v:V):∀fs:List (Str×V),(aK f v fs).lookup g=if g=f then some v else fs.lookup g
 | []=>by
  show List.lookup g [(f,v)]=_
  by_cases h:g=f
  .have hb:(g==f)=true:=Ĭ.mpr h
   simp only [List.lookup,hb,if_pos h]
  .have hb:(g==f)=false:=Ň.mpr h
   simp only [List.lookup,hb,if_neg h]
 | (k,x)::r=>by
  have ih:=aV f g v r
  rw [show aK f v ((k,x)::r)=(if k=f then (k,v)::r else (k,x)::aK f v r) from rfl]
  by_cases hk:k=f
  .rw [ů hk]
   by_cases h:g=k
   .have hb:(g==k)=true:=Ĭ.mpr h
    simp only [List.lookup,hb,if_pos (h.trans hk)]
   .have hb:(g==k)=false:=Ň.mpr h
    simp only [List.lookup,hb,if_neg (λe:g=f=>h (e.trans hk.symm))]
  .rw [ŵ hk]
   by_cases h:g=k
   .have hb:(g==k)=true:=Ĭ.mpr h
    simp only [List.lookup,hb,if_neg (λe:g=f=>hk (h.symm.trans e))]
   .have hb:(g==k)=false:=Ň.mpr h
    simp only [List.lookup,hb]
    exact ih
theorem kX(f:Str)(v:V):∀fs:List (Str×V),f∈(aK f v fs).map (·.1)/\∀g,g∈fs.map (·.1)->g∈(aK f v fs).map (·.1)
 | []=>⟨by simp [aK],λg h=>by simp at h⟩
 | (k,x)::r=>by
  obtain ⟨i1,i2⟩:=kX f v r
  rw [show aK f v ((k,x)::r)=(if k=f then (k,v)::r else (k,x)::aK f v r) from rfl]
  by_cases hk:k=f
  .rw [ů hk]
   subst hk
   exact ⟨by simp,λg h=>by simpa using h⟩
  .rw [ŵ hk]
   refine ⟨?_,λg h=>?_⟩
   .exact Ŗ▸Θ _ i1
   .rw [Ŗ] at h ⊢
    rcases ϕ.mp h with e | e
    .exact ϕ.mpr (.inl e)
    .exact Θ _ (i2 g e)
theorem dm(f:Str)(v:V):∀fs:List (Str×V),(aK f v fs).length<=fs.length+1
 | []=>by simp [aK]
 | (k,x)::r=>by
  have ih:=dm f v r
  rw [show aK f v ((k,x)::r)=(if k=f then (k,v)::r else (k,x)::aK f v r) from rfl]
  by_cases hk:k=f
  .rw [ů hk,Ŷ,Ŷ];lia
  .rw [ŵ hk,Ŷ,Ŷ];lia
def RelO.some_of{v:V}{o:ý}(r:RelO (some v) o):∃u,o=some u/\NP v u:=by
 cases o with
 | none=>exact (show False from r).elim
 | some u=>exact ⟨u,rfl,r⟩
def RelO.none_of{o:ý}(r:RelO none o):o=none:=by
 cases o with
 | none=>rfl
 | some u=>exact (show False from r).elim
def ql{v:V}{u:ó}(r:NP v u):PySem.W.handedIn u=true:=by
 cases v with
 | non=>cases (show u=Value.none from r);rfl
 | bl b=>cases (show u=Value.bool b from r);rfl
 | int i=>obtain ⟨t,e⟩:=(show ∃t,u=Value.int i t from r);cases e;rfl
 | str x=>obtain ⟨t,e⟩:=(show ∃t,u=Value.str x t from r);cases e;rfl
 | byt b=>obtain ⟨t,e⟩:=(show ∃t,u=Value.bytes b t from r);cases e;rfl
 | flt b=>obtain ⟨t,e⟩:=(show ∃t,u=Value.float b t from r);cases e;rfl
 | ref a=>cases (show u=Value.ref a from r);rfl
 | ty n=>cases (show u=Value.type n from r);rfl
section
variable {P:ù}{w:ö}{H H':Hp}{h h':ñ}{a C dx:ø}{fs fs':List (Str×V)}
def mR(g:NS P w H h)(e:H a=some (.ins C dx fs)):∃mA,ObjM h a dx C mA/\(∀f,RelO (fs.lookup f) (mA f))/\PySem.Within mA (fs.map (·.1))/\fs.length<=1000/\H dx=some (.own a):=by
 obtain ⟨d,z,j,k,mA,n,r,q⟩:=(show NR P w H h a (.ins C dx fs) from g a _ e)
 exact ⟨mA,⟨k,n,j⟩,r,q,z,d⟩
end
structure Cls(K:ò)(C:ø):Prop where
 pg:PySem.W.plainGet K C Str.empty=true
 hd:PySem.W.hasDictIn K C=true
 po:PySem.W.plainOver K C=true
 sa:PySem.W.findIn K (.ref C) "__setattr__"=some (some (.builtin "object.__setattr__"))
def Cls.get{K:ò}{C:ø}(c:Cls K C)(f:Str):PySem.W.plainGet K C f=true:=c.pg
def Zo(K:ò)(C:ø)(f:Str):Prop:=PySem.W.findIn K (.ref C) f=some none
def Zo.taker{K:ò}{C:ø}{f:Str}(n:Zo K C f):PySem.W.takerIn K C f=some none:=by
 unfold PySem.W.takerIn
 rw [show PySem.W.findIn K (.ref C) f=some none from n]
 rfl
structure gX(K:ò)(C:ø)(m:Str)(f:ø):Prop where
 at_:PySem.W.findIn K (.ref C) m=some (some (.ref f))
 fn:PySem.W.isFn K (.ref f)=true
 kp:PySem.W.keepIn K (.ref f)=true
section
variable {X:Cx}{pins:đ}{σ:St}{H:Hp}{s:ú}{a C dx:ø}{fs:List (Str×V)}{f:Str}{v:V}{A:ô}{E:Đ}
def oR{b:Bool}{Q:Đ}(I:NM X pins σ H s)(e:H a=some (.ins C dx fs))(c:Cls X.K C)(n:Zo X.K C f)(l:fs.lookup f=some v)
  (h:∀u s',NM X pins σ H s'->NP v u->Q u s'):wpAny (model X.prog X.w) A (getAttr (.ref a) f b) Q E s:=by
 obtain ⟨g,O,r,_,_,_⟩:=mR I.hok e
 obtain ⟨u,j,d⟩:=RelO.some_of (v:=v) (o:=g f) (l▸r f)
 exact Bf I.kIn O (c.get f) c.hd n j (ql d) (h u _ (I.tok _) d)
def ju{m:Str}{g:ø}{pl:Sem Bool}{Q:Value×Ċ->ú->Prop}(I:NM X pins σ H s)(e:H a=some (.ins C dx fs))(c:Cls X.K C)(k:gX X.K C m g)(l:fs.lookup m=none)
  (h:Q (.ref g,[.ref a]) s):wpAny (model X.prog X.w) A (getMethod (.ref a) m pl) Q E s:=by
 obtain ⟨d,O,r,_,_,_⟩:=mR I.hok e
 have f:d m=none:=RelO.none_of (l▸r m)
 exact zv I.kIn O (c.get m) k.at_ k.fn f h
def nU{y:V}{u:ó}{Q:Unit->ú->Prop}(I:NM X pins σ H s)(e:H a=some (.ins C dx fs))(c:Cls X.K C)(n:Zo X.K C f)(P:fs.length<1000)(L:NP y u)
  (h:∀s',NM X pins σ (upd H a (.ins C dx (aK f y fs))) s'->Q () s'):wpAny (model X.prog X.w) A (setAttr (.ref a) f u) Q E s:=by
 obtain ⟨j,O,r,k,_,l⟩:=mR I.hok e
 have t:(fs.map (·.1)).length<=sizeLine:=by rw [ν,sizeLine_eq];lia
 refine Ax I.kIn O c.sa c.po n.taker c.hd k t λF d sb=>h _ ?_
 have D:∃o,F.get? dx=some o:=let ⟨o,_,_,e',_⟩:=d.ns;⟨o,e'⟩
 refine I.write (x:=a) (e:=dx) (e▸ϰ) (.inr l) (λb q G z=>(sb.2 b G).trans z) D ?_
 refine ⟨by rw [am O.ne];exact l,?_,O.ne,d.obj,_,d.ns,λg=>?_,λg J=>?_⟩
 .have:=dm f y fs;lia
 .show RelO ((aK f y fs).lookup g) (if g=f then some u else j g)
  rw [aV]
  by_cases q:g=f
  .rw [ů q,ů q];exact L
  .rw [ŵ q,ŵ q];exact r g
 .by_cases q:g=f
  .rw [q];exact (kX f y fs).1
  .refine (kX f y fs).2 g (k g λz=>J ?_)
   show (if g=f then some u else j g)=none
   rw [ŵ q];exact z
def NM.made(I:NM X pins σ H s):NM X pins σ (upd (upd H s.heap.objs.size (.own (s.heap.objs.size+1))) (s.heap.objs.size+1) (.ins C s.heap.objs.size []))
  {s with heap:=(s.heap.push PySem.W.emptyDict).push (PySem.W.instObj C s.heap.objs.size)}:=by
 have d:(s.heap.push PySem.W.emptyDict).get? s.heap.objs.size=some PySem.W.emptyDict:=ψ s.heap rfl
 have g:((s.heap.push PySem.W.emptyDict).push (PySem.W.instObj C s.heap.objs.size)).get? (s.heap.objs.size+1)=some (PySem.W.instObj C s.heap.objs.size):=by
  have:=ψ (s.heap.push PySem.W.emptyDict) (o:=PySem.W.instObj C s.heap.objs.size) rfl
  rwa [Heap.size_push] at this
 have h:(s.heap.push PySem.W.emptyDict).Ns s.heap.objs.size (λ_=>none):=⟨PySem.W.emptyDict,#[],_,d,ϱ,(λe k=>absurd k (by simp)),λ_=>rfl⟩
 have j:=I.laid (a:=s.heap.objs.size) (o:=.own (s.heap.objs.size+1)) (h':=s.heap.push PySem.W.emptyDict) (t':=s.toks) (λb u q=>ρ _ q) (ι _) ⟨_,d⟩
 refine j.laid (a:=s.heap.objs.size+1) (o:=.ins C s.heap.objs.size []) (t':=s.toks) (λb u q=>ρ _ q) (Nat.le_of_eq (Heap.size_push _ _)) ?_
 have f:s.heap.objs.size≠s.heap.objs.size+1:=Φ (ė _)
 refine ⟨by rw [am f,Ny],ϖ _,f,g,λ_=>none,(Heap.Ns1.of_empty h).at λo q=>ρ _ q,λ_=>ϰ,λy l=>absurd rfl l⟩
def v8{prog:ù}{w:ö}{env:Env}{e:ï}{f:Str}{pos:Pos}{s:ú}{Q:Đ}(hb:attributeBase e f env (eval e env)=eval e env)
  (h:wpAny (model prog w) A (eval e env) (λo s₁=>wpAny (model prog w) A (getAttr o f true) Q E s₁) E s):wpAny (model prog w) A (eval (.Attribute e f pos) env) Q E s :=
 Attribute_any_ h (by rw [arm_eval_Attribute,hb])
end
inductive XF (K:ò) (f:Str) (Q:VK) (x:V) (H:Hp):Prop|mk a C dx fs v:x=.ref a->H a=some (.ins C dx fs)->Cls K C->Zo K C f->fs.lookup f=some v->Q v H->XF K f Q x H
def wm(K:ò)(ta:TE)(f:Str):TE:=fun σ H Q=>ta σ H λx H1=>XF K f Q x H1
def E7(K:ò)(ta tv:TE)(f:Str):TS:=λD σ H=>tv σ H λy H1=>ta σ H1 λx H2=>∃a C dx fs,x=.ref a/\H2 a=some (.ins C dx fs)/\Cls K C/\Zo K C f/\fs.length<1000 /\
 D.nx σ (upd H2 a (.ins C dx (aK f y fs)))
def EW(X:Cx)(op:Operator)(rd:V->V->Hp->VK->Prop):Prop :=
 ∀(pins:đ) (s:ú) (σ:St) (H:Hp) (x y:V) (u v:ó) (Q:VK),NM X pins σ H s->NP x u->NP y v->rd x y H Q->wpAny (model X.prog X.w) X.A (inplaceOp op u v) (EP X pins σ Q) X.xe s
def Az(K:ò)(ta tv:TE)(rd:V->V->Hp->VK->Prop)(f:Str):TS:=λD σ H=>ta σ H λx H1=>∃a C dx fs v,x=.ref a/\H1 a=some (.ins C dx fs)/\Cls K C/\Zo K C f/\fs.lookup f=some v /\
 tv σ H1 λy H2=>rd v y H2 λz H3=>∃dx' fs',H3 a=some (.ins C dx' fs')/\fs'.length<1000/\D.nx σ (upd H3 a (.ins C dx' (aK f z fs')))
section
variable {X:Cx}{o e value:ï}{f:Str}{pos pos' tpos:Pos}{ta tv:TE}
def aE(t:PE X e ta)(w:attributeBase e f X.env (eval e X.env)=eval e X.env):PE X (.Attribute e f pos) (wm X.K ta f):=by
 intro d s σ H Q I h
 refine v8 w (Zg (t d s σ H _ I h) λu y ⟨x,H1,g,j,a,C,z,fs,v,ex,k,c,n,l,q⟩=>?_)
 subst ex
 obtain rfl:u=Value.ref a:=j
 exact oR g k c n l λD F o r=>⟨v,H1,o,r,q⟩
def cC(F:PE X o ta)(G:PE X value tv)(J:swapsWith value (some (.Attribute o f pos')) pos.line X.env=pure false):PS X (.Assign [.Attribute o f pos'] value pos) (E7 X.K ta tv f):=by
 intro d s σ H D I h
 refine plainObj_wpAny_Assign_Attribute (Zg (G d s σ H _ I h) λu e ⟨y,H1,g,j,q⟩=>Zg (F d e σ H1 _ g q) λk L ⟨x,O,r,t,a,C,P,fs,ex,w,c,n,l,q2⟩=>?_) J
 subst ex
 obtain rfl:k=Value.ref a:=t
 exact nU r w c n l j λQ z=>⟨σ,_,z,q2⟩
def pO{j:Operator}{k:V->V->Hp->VK->Prop}(ha:PE X o ta)(hv:PE X value tv)(g:EW X j k):PS X (.AugAssign (.Attribute o f tpos) j value pos) (Az X.K ta tv k f):=by
 intro d s σ H D I h
 refine wpAny_AugAssign_AttributeAny (Zg (ha d s σ H _ I h) λr s1 ⟨x,H1,t,w,a,C,dx,fs,v,ex,F,c,n,l,q⟩=>?_)
 subst ex
 obtain rfl:r=Value.ref a:=w
 refine oR t F c n l λu G J L=>Zg (hv d G σ H1 _ J q) λO P ⟨y,Q,U,W,q3⟩=>Zg (g d P σ Q v y u O _ U L W q3) λw4 s4 ⟨z,H3,Y,Z,a0,a1,e,l',q4⟩=>?_
 exact nU Y e c n l' Z λs5 I5=>⟨σ,_,I5,q4⟩
def Fe:V->V->Hp->VK->Prop:=λx y H Q=>∃i j,x=.int i/\y=.int j/\Q (.int (i+j)) H
def zo:EW X .Add Fe:=by
 rintro e s σ H x y u v Q I f g ⟨i,j,rfl,rfl,q⟩
 obtain ⟨t,rfl⟩:=(show ∃t,u=Value.int i t from f)
 obtain ⟨d,rfl⟩:=(show ∃d,v=Value.int j d from g)
 exact PyProof.Rows.iadd_int ⟨.int (i+j),H,I.tok _,⟨_,ϱ⟩,q⟩
end
section
variable {X:Cx}{pins:đ}{σ:St}{H:Hp}{s:ú}{A:ô}{E:Đ}{Q:Đ}{c:ó}{b:Bool}
inductive TyOf (K:ò) (H:Hp):V->ó->Prop where
 | non:TyOf K H .non (.type "NoneType")
 | bl (x:Bool):TyOf K H (.bl x) (.type "bool")
 | int (i:Int):TyOf K H (.int i) (.type "int")
 | str (x:Str):TyOf K H (.str x) (.type "str")
 | flt (x:UInt64):TyOf K H (.flt x) (.type "float")
 | lst {a:ø} {xs:î V} (e:H a=some (.lst xs)):TyOf K H (.ref a) (.type "list")
 | frz {a:ø} {o:Obj} {xs:î V} (e:H a=some (.frz o (.lst xs))):TyOf K H (.ref a) (.type "list")
 | tup {a:ø} {xs:î V} (e:H a=some (.tup xs)):TyOf K H (.ref a) (.type "tuple")
 | dK {a:ø} {kvs:List (Key×V)} (e:H a=some (.dK kvs)):TyOf K H (.ref a) (.type "dict")
 | dT {a:ø} {kvs:List (List Key×V)} (e:H a=some (.dT kvs)):TyOf K H (.ref a) (.type "dict")
 | ins {a C dx:ø} {fs:List (Str×V)} (e:H a=some (.ins C dx fs)) (cl:Cls K C) (ha:PySem.W.findIn K (.ref C) "__class__"=some (some (.builtin "object.__class__")))
   (hn:PySem.W.specialIn K (.builtin "object.__class__") "__get__"=some (some (.builtin "getset_descriptor.__get__"))) (htk:PySem.W.takesIn K (.builtin "object.__class__")=some true)
   (hm:PySem.W.mroIn K C (.type "object")=some true):TyOf K H (.ref a) (.ref C)
def qk{x:V}{u t:ó}(I:NM X pins σ H s)(d:NP x u)(k:TyOf X.K H x t)(e:PySem.W.kitOne X.K t c=some b)(h:∀tk,Q (.bool b) {s with toks:=tk}) :
  wpAny (model X.prog X.w) A (call (.builtin "isinstance") [u,c]) Q E s:=by
 cases k with
 | non=>cases (show u=Value.none from d);exact ś PySem.W.kitx_none I.kIn ϰ e (λz=>nomatch z) h
 | bl y=>cases (show u=Value.bool y from d);exact ś PySem.W.kitx_bool I.kIn ϰ e (λz=>nomatch z) h
 | int i=>obtain ⟨t,q⟩:=(show ∃t,u=Value.int i t from d);cases q;exact ś PySem.W.kitx_int I.kIn ϰ e (λz=>nomatch z) h
 | str y=>obtain ⟨t,q⟩:=(show ∃t,u=Value.str y t from d);cases q;exact ś PySem.W.kitx_str I.kIn ϰ e (λz=>nomatch z) h
 | flt y=>obtain ⟨t,q⟩:=(show ∃t,u=Value.float y t from d);cases q;exact ś PySem.W.kitx_float I.kIn ϰ e (λz=>nomatch z) h
 | @lst a xs ea =>
  cases (show u=Value.ref a from d)
  obtain ⟨_,_,n,_,h1⟩:=(show NR X.prog X.w H s.heap a (.lst xs) from I.hok a _ ea)
  exact ś PySem.W.kitx_list I.kIn ⟨_,h1,ϱ⟩ e (λz=>nomatch z) h
 | @frz a ob xs ea =>
  cases (show u=Value.ref a from d)
  obtain ⟨_,_,_,n,_,h1⟩:=(show NR X.prog X.w H s.heap a (.frz ob (.lst xs)) from I.hok a _ ea)
  exact ś PySem.W.kitx_list I.kIn ⟨_,h1,ϱ⟩ e (λz=>nomatch z) h
 | @tup a xs ea =>
  cases (show u=Value.ref a from d)
  obtain ⟨_,_,_,p⟩:=(show NR X.prog X.w H s.heap a (.tup xs) from I.hok a _ ea)
  obtain ⟨o,h1,f,_⟩:=p
  exact ś PySem.W.kitx_tuple I.kIn ⟨o,h1,f⟩ e (λz=>nomatch z) h
 | @dK a kvs ea =>
  cases (show u=Value.ref a from d)
  obtain ⟨_,_,vs,_,p⟩:=(show NR X.prog X.w H s.heap a (.dK kvs) from I.hok a _ ea)
  obtain ⟨o,g,j,h1,f,_⟩:=p
  exact ś PySem.W.kitx_dict I.kIn ⟨o,h1,f.1⟩ e (λz=>nomatch z) h
 | @dT a kvs ea =>
  cases (show u=Value.ref a from d)
  obtain ⟨_,_,xs,_,o,g,j,h1,f,_⟩:=(show NR X.prog X.w H s.heap a (.dT kvs) from I.hok a _ ea)
  exact ś PySem.W.kitx_dict I.kIn ⟨o,h1,f.1⟩ e (λz=>nomatch z) h
 | @ins a C dx fs ea cl ha hn htk hm =>
  cases (show u=Value.ref a from d)
  obtain ⟨l,O,_⟩:=mR I.hok ea
  obtain ⟨r,J,_⟩:=O.look
  exact ś (PySem.W.kitx_own (cl.get _) cl.hd ha hn htk hm) I.kIn J e (λz=>nomatch z) h
end
structure NU(k:Nat)(A:ô):Prop where
 hd:A.handled=none
 dp:A.depth+3*k+5<recursionLimit
 un:A.units+16*k+200<cLine
def NU.mono{j k:Nat}{A:ô}(r:NU k A)(h:j<=k):NU j A:=⟨r.hd,by have:=r.dp;lia,by have:=r.un;lia⟩
def NU.deeper{k:Nat}{A:ô}(r:NU (k+1) A)(env:Env):NU k (A.deeper env) :=
 ⟨r.hd,by have:=r.dp;show A.depth+1+3*k+5<_;lia,by have:=r.un;show A.units+3+16*k+200<_;lia⟩
def uF{A:ô}{C:ø}{us:Ċ}{d:î (Str×ó)}:(A.under (.builtin "type.__call__" ⟨.ref C::us,d⟩)).depth=A.depth+1:=by
 first | rfl | simp [Around.under,Code.weight,Code.isCreation,Code.isGuard,Code.isCaller,Code.frames,Code.isFrame,guardIds]
def uE{A:ô}{C:ø}{us:Ċ}{d:î (Str×ó)}:(A.under (.builtin "type.__call__" ⟨.ref C::us,d⟩)).units=A.units+1:=by
 first | rfl | simp [Around.under,Code.cUnits,Code.frames,Code.isFrame]
def NU.make{k:Nat}{A:ô}(r:NU (k+1) A)(C:ø)(us:Ċ)(kw:î (Str×ó)):NU k (A.under (.builtin "type.__call__" ⟨.ref C::us,kw⟩)) :=
 ⟨r.hd,by have:=r.dp;rw [uF];lia,by have:=r.un;rw [uE];lia⟩
def NU.depth{k:Nat}{A:ô}(r:NU k A):A.depth<recursionLimit:=by have:=r.dp;lia
def NU.units{k:Nat}{A:ô}(r:NU k A):A.units+64<cLine:=by have:=r.un;lia
def jg:TA:=λ_ H Q=>Q [] H
def jy(ta:TE)(tr:TA):TA:=fun σ H Q=>ta σ H λx H1=>tr σ H1 λxs H2=>Q (x::xs) H2
section
variable {X:Cx}{e:ï}{es:Ą}{te:TE}{t:TA}{pos:Pos}
def aO:PA X [] jg:=λ_ _ _ _ H Q I h=>Calls.spliced_nil ⟨[],H,I,.nil,h⟩
def aj(q:PE X e te)(r:PA X es t)(w:starEach (e::es) X.env=(false,eval e X.env)::starEach es X.env:=by rfl):PA X (e::es) (jy te t):=by
 intro pos d s σ H Q I h
 rw [w]
 show wpAny _ _ (spliced ((false,eval e X.env)::backTo pos (starEach es X.env))) _ _ s
 refine ō (Zg (q d s σ H _ I h) λu f ⟨x,H1,g,j,q1⟩=>?_)
 exact Zg (r pos d f σ H1 _ g q1) λy z ⟨xs,k,l,o,q2⟩=>⟨x::xs,k,l,.cons j o,q2⟩
def BW(t:TA):TE:=fun σ H Q=>t σ H λxs H1=>xs.length<=sizeLine/\∀p,H1 p=none->Q (.ref p) (upd H1 p (.tup xs))
def E2(t:TA):TE:=fun σ H Q=>t σ H λxs H1=>xs.length<=sizeLine/\∀p,H1 p=none->Q (.ref p) (upd H1 p (.lst xs))
def aA{x1}(h:PA X es t):PE X (.Tuple es x1 pos) (BW t):=by
 intro d s σ H Q I l
 refine wpAny_Tuple_spliced (Zg (h pos d s σ H _ I l) λk f ⟨xs,H1,g,r,z,q⟩=>⟨by rw [← r.length];exact z,?_⟩)
 have j:H1 f.heap.objs.size=none:=g.hok.fresh (ι _)
 refine ⟨.ref f.heap.objs.size,upd H1 f.heap.objs.size (.tup xs),g.laid (t':=f.toks) (λb u e=>ρ _ e) (ι _) ?_,ϱ,q _ j⟩
 exact ⟨z,k,r,⟨_,ψ _ rfl,ϱ,_,ϱ⟩⟩
def bF(h:PA X es t):PE X (.List es pos) (E2 t):=by
 intro d s σ H Q I l
 refine wpAny_List_spliced (Zg (h pos d s σ H _ I l) λk f ⟨xs,H1,g,r,z,q⟩=>⟨by rw [← r.length];exact z,?_⟩)
 have j:H1 f.heap.objs.size=none:=g.hok.fresh (ι _)
 refine ⟨.ref f.heap.objs.size,upd H1 f.heap.objs.size (.lst xs),g.laid (t':=f.toks) (λb u e=>ρ _ e) (ι _) ?_,ϱ,q _ j⟩
 exact ⟨z,k,0,r,ψ _ rfl⟩
end
abbrev Sp:=î V->Hp->VK->XK->Prop
abbrev CXT:=ą->Hp->ú->XK->ó->ú->Prop
structure Env0(P:ù)(w:ö)(K:ò)(mg:ď)(base:ñ)(A:ô)(outer:ą)(s:ú)(H:Hp):Prop where
 frames:A.frames=some outer
 mod:Mod K mg base
 bs:∀b o,base.get? b=some o->s.heap.get? b=some o/\H b=none
 bsz:base.objs.size<=s.heap.objs.size
 funs:s.heap.FunFrames base outer
 frf:∀b∈frs outer,H b=none
 hok:NS P w H s.heap
 bare:AllBare s.gens
def CE(outer:ą)(P:ù)(w:ö)(H:Hp)(s:ú)(Q:VK)(u:ó)(s':ú):Prop :=
 ∃v H',s'.os=s.os/\AllBare s'.gens/\Un (frs outer) [] H H' s.heap s'.heap/\NS P w H' s'.heap/\NP v u/\Q v H'
def CR(CX:CXT)(outer:ą)(P:ù)(w:ö)(H:Hp)(s:ú)(Q:VK)(E:XK)(r:Result)(s':ú):Prop :=
 match r with
 | .ok (.ret u)=>CE outer P w H s Q u s'
 | .ok _=>False
 | .error e=>CX outer H s E e s'
structure NH(P:ù)(w:ö)(K:ò)(mg:ď)(base:ñ)(CX:CXT)(k:Nat)(f:ø)(fd:õ)(ps:Ĉ)(sp:Sp):Prop where
 len:∀vs H Q E,sp vs H Q E->vs.length=ps.length
 run:∀(A:ô) (outer:ą) (s:ú) (H:Hp) (args:Args) (us:Ċ) (vs:î V) (Q:VK) (E:XK),NU k A->Env0 P w K mg base A outer s H->BindsTo s fd args (ps.zip us)->NQ vs us->sp vs H Q E ->
  codeAny (model P w) A (.call (.ref f) args) (CR CX outer P w H s Q E) s
def NH.mono{P:ù}{w:ö}{K:ò}{mg:ď}{base:ñ}{CX:CXT}{j k:Nat}{f:ø}{fd:õ}{ps:Ĉ}{sp:Sp}(F:NH P w K mg base CX j f fd ps sp)(h:j<=k) :
  NH P w K mg base CX k f fd ps sp:=⟨F.len,λA outer s H args us vs Q E hr=>F.run A outer s H args us vs Q E (hr.mono h)⟩
def NH.imp{P:ù}{w:ö}{K:ò}{mg:ď}{base:ñ}{CX:CXT}{k:Nat}{f:ø}{fd:õ}{ps:Ĉ}{sp sp':Sp}(F:NH P w K mg base CX k f fd ps sp)
  (h:∀vs H Q E,sp' vs H Q E->sp vs H Q E):NH P w K mg base CX k f fd ps sp' :=
 ⟨λvs H Q E q=>F.len vs H Q E (h _ _ _ _ q),λA outer s H args us vs Q E hr he hb hv hs=>F.run A outer s H args us vs Q E hr he hb hv (h _ _ _ _ hs)⟩
def Env0.make{P:ù}{w:ö}{K:ò}{mg:ď}{base:ñ}{A:ô}{outer:ą}{s:ú}{H:Hp}(e:Env0 P w K mg base A outer s H)(C:ø)(us:Ċ)(kw:î (Str×ó)) :
  Env0 P w K mg base (A.under (.builtin "type.__call__" ⟨.ref C::us,kw⟩)) outer s H:=⟨by first | exact e.frames | (simpa [Around.under,Code.envs,Code.isFrame,pushEnvs] using e.frames),e.mod,e.bs,e.bsz,e.funs,e.frf,e.hok,e.bare⟩
section
variable {X:Cx}{pins:đ}{σ:St}{H:Hp}{s s':ú}
def NM.env0(I:NM X pins σ H s):Env0 X.prog X.w X.K X.mg X.base X.A X.stack s H :=
 ⟨I.ok.frames,I.ok.mod,I.bs,Λ I.ok.bsz I.sz,I.stack,I.stkFree,I.hok,I.bare⟩
def NM.after{Q:VK}{u:ó}(I:NM X pins σ H s)(h:CE X.stack X.prog X.w H s Q u s'):EP X pins σ Q u s':=by
 obtain ⟨v,k,l,e,un,f,r,q⟩:=h
 obtain ⟨o,g,d,t,j⟩:=s'
 obtain rfl:j=s.os:=l
 exact ⟨v,k,I.call (h':=o) (g':=g) (d':=d) (t':=t) (ch:=[]) un f e (λb z=>absurd z (by simp)),r,q⟩
end
def xx(sp:Sp)(dvs:î V)(E:XK)(t:TA):TE:=fun σ H Q=>t σ H λvs H1=>sp (vs++dvs) H1 Q E
inductive XM (C:ø) (m:Str) (x:V) (H:Hp) (P:Prop):Prop|mk a dx fs:x=.ref a->H a=some (.ins C dx fs)->fs.lookup m=none->P->XM C m x H P
def xw(C:ø)(m:Str)(sp:Sp)(dvs:î V)(E:XK)(ta:TE)(t:TA):TE:=fun σ H Q=>ta σ H λx H1=>XM C m x H1 (t σ H1 λvs H2=>sp (x::(vs++dvs)) H2 Q E)
def DK(C:ø)(sp:Sp)(dvs:î V)(E:XK)(t:TA):TE:=fun σ H Q=>t σ H λvs H1=>∀x dx,H1 x=none->H1 dx=none->dx≠x ->
 sp (.ref x::(vs++dvs)) (upd (upd H1 dx (.own x)) x (.ins C dx [])) (λv H2=>v=.non/\Q (.ref x) H2) E
def NT(K:ò)(fd:õ)(ps:Ĉ)(ds:Ċ):Prop :=
 ∀(s:ú) (us:Ċ),K.In s.heap->(us++ds).length=ps.length->BindsTo s fd ⟨us,[]⟩ (ps.zip (us++ds))
def NT.all{K:ò}{fd:õ}{ps:Ĉ}(h:∀us:Ċ,us.length=ps.length->bindArgs fd ⟨us,[]⟩=pure (ps.zip us)):NT K fd ps []:=λs us _ hl=>by
 rw [ų] at hl ⊢
 exact .of_eq (h us hl)
def b8(CX:CXT)(X:Cx)(E:XK):Prop:=∀(pins:đ) (σ:St) (H:Hp) (s:ú) (e:ó) (s':ú),NM X pins σ H s->CX X.stack H s E e s'->X.xe e s'
section
variable {X:Cx}{CX:CXT}{k:Nat}{f C:ø}{fd:õ}{ps:Ĉ}{sp:Sp}{dvs:î V}{ds:Ċ}{E:XK}{x m:Str}{p pos apos:Pos}{e o:ï}{es:Ą}{ta:TE}{t:TA}
def rk{d:đ}{σ:St}{H:Hp}{s:ú}{Q:VK}{us:Ċ}{vs:î V}(F:NH X.prog X.w X.K X.mg X.base CX k f fd ps sp)(q:NU k X.A)(t:NT X.K fd ps ds)(x:NQ dvs ds)(hx:b8 CX X E)
  (I:NM X d σ H s)(r:NQ vs us)(h:sp (vs++dvs) H Q E):wpAny (model X.prog X.w) X.A (call (.ref f) us) (EP X d σ Q) X.xe s:=by
 have j:NQ (vs++dvs) (us++ds):=r.append x
 have l:(us++ds).length=ps.length:=by rw [← j.length];exact F.len _ _ _ _ h
 refine ī (Ł (F.run X.A X.stack s H ⟨us,[]⟩ (us++ds) (vs++dvs) Q E q I.env0 (t s us I.kIn l) j h) λr o g=>?_)
 cases r with
 | error e=>exact hx d σ H s e o I g
 | ok fl =>
  cases fl with
  | ret u=>exact I.after g
  | next=>exact False.elim g
  | brk=>exact False.elim g
  | cont=>exact False.elim g
def vx(F:NH X.prog X.w X.K X.mg X.base CX k f fd ps sp)(o:NU k X.A)(u:Gl X x)(y:X.mg x=some (.ref f))(z:PySem.W.keepIn X.K (.ref f)=true)(C:NT X.K fd ps ds)(D:NQ dvs ds)(hx:b8 CX X E)
  (G:PA X (e::es) t)(g:(x==("__debug__":Str))=false:=by decide)(J:starEach (e::es) X.env=(false,eval e X.env)::starEach es X.env:=by rfl)(j:(backTo pos (starEach es X.env)).any (·.1)=false:=by rfl) :
  PE X (.Call (.Name x p) (e::es) [] pos) (xx sp dvs E t):=by
 intro d s σ H Q I h
 refine ń (cy I u y ?_ g)
 refine Ń (h₀:=X.base) I.ok.mod.kin z (Zg (G pos d s σ H _ I h) λL O ⟨vs,H1,l,r,q⟩=>⟨l.kIn,?_⟩) J j
 exact rk F o C D hx l r q
def mK{pl:Sem Bool}(O:PE X o ta)(c:Cls X.K C)(D:gX X.K C m f)(F:NH X.prog X.w X.K X.mg X.base CX k f fd ps sp)(P:NU k X.A)(U:NT X.K fd ps ds)(Y:NQ dvs ds)(hx:b8 CX X E)(Z:PA X (e::es) t)
  (g:starEach (e::es) X.env=(false,eval e X.env)::starEach es X.env:=by rfl)(j:(backTo pos (starEach es X.env)).any (·.1)=false:=by rfl)
  (ht:eval (.Call (.Attribute o m apos) (e::es) [] pos) X.env=(do
   let ov ← eval o X.env
   standAt apos.atName
   let (f,first) ← holding [ov] (getMethod ov m pl)
   callWith pos f first (backTo pos (starEach (e::es) X.env)) (backToKw pos (keywordEach [] X.env))):=by rfl) :
  PE X (.Call (.Attribute o m apos) (e::es) [] pos) (xw C m sp dvs E ta t):=by
 intro d s σ H Q I h
 refine Ģ (pl:=pl) (Zg (O d s σ H _ I h) λu G ⟨x,H1,y,J,a,dx,fs,ex,L,l,q⟩=>?_) ht
 subst ex
 obtain rfl:u=Value.ref a:=J
 refine ju y L c D l ?_
 refine Ń (first:=[.ref a]) (h₀:=X.base) I.ok.mod.kin D.kp (Zg (Z pos d G σ H1 _ y q) λus s2 ⟨vs,H2,z,r,q2⟩=>⟨z.kIn,?_⟩) g j
 exact rk (us:=.ref a::us) (vs:=.ref a::vs) F P U Y hx z (.cons rfl r) q2
def jH{pl:Sem Bool}(t:PE X o ta)(c:Cls X.K C)(g:gX X.K C m f)(F:NH X.prog X.w X.K X.mg X.base CX k f fd ps sp)(y:NU k X.A)(z:NT X.K fd ps ds)(D:NQ dvs ds)(hx:b8 CX X E)
  (G:eval (.Call (.Attribute o m apos) [] [] pos) X.env=(do
   let ov ← eval o X.env
   standAt apos.atName
   let (f,first) ← holding [ov] (getMethod ov m pl)
   callWith pos f first (backTo pos (starEach [] X.env)) (backToKw pos (keywordEach [] X.env))):=by rfl) :
  PE X (.Call (.Attribute o m apos) [] [] pos) (xw C m sp dvs E ta jg):=by
 intro d s σ H Q I h
 refine Ģ (pl:=pl) (Zg (t d s σ H _ I h) λu J ⟨x,H1,e,j,a,L,fs,ex,r,l,q⟩=>?_) G
 subst ex
 obtain rfl:u=Value.ref a:=j
 refine ju e r c g l ?_
 exact PySem.W.callWith_K0 (first:=[.ref a]) e.kIn g.kp (rk (us:=[.ref a]) (vs:=[.ref a]) F y z D hx e (.cons rfl .nil) q)
structure Mk(K:ò)(C f:ø):Prop where
 makes:PySem.W.makesIn K C=true
 init:PySem.W.findIn K (.ref C) "__init__"=some (some (.ref f))
 fn:PySem.W.isFn K (.ref f)=true
 kp:PySem.W.keepIn K (.ref C)=true
def xZ{g:đ}{σ:St}{H:Hp}{s:ú}{Q:VK}{us:Ċ}{vs:î V}(M:Mk X.K C f)(F:NH X.prog X.w X.K X.mg X.base CX k f fd ps sp)(J:NU (k+1) X.A)(L:NT X.K fd ps ds)(O:NQ dvs ds)
  (hx:b8 CX X E)(I:NM X g σ H s)(r:NQ vs us)
  (h:∀x dx,H x=none->H dx=none->dx≠x->sp (.ref x::(vs++dvs)) (upd (upd H dx (.own x)) x (.ins C dx [])) (λv H2=>v=.non/\Q (.ref x) H2) E) :
  wpAny (model X.prog X.w) X.A (call (.ref C) us) (EP X g σ Q) X.xe s:=by
 have l:=h (s.heap.objs.size+1) s.heap.objs.size (I.hok.fresh (Nat.le_succ _)) (I.hok.fresh (ι _)) (Φ (ė _))
 have j:=NM.made (C:=C) I
 have o:NQ (V.ref (s.heap.objs.size+1)::(vs++dvs)) (Value.ref (s.heap.objs.size+1)::(us++ds)):=.cons rfl (r.append O)
 have D:(Value.ref (s.heap.objs.size+1)::us++ds).length=ps.length:=by
  have e:=o.length
  rw [F.len _ _ _ _ l] at e
  exact e.symm
 refine ī (za (f:=f) I.kIn M.makes M.init (Ĭ.mp M.fn) (Ł (F.run _ X.stack _ _ ⟨Value.ref (s.heap.objs.size+1)::us,[]⟩ (Value.ref (s.heap.objs.size+1)::(us++ds)) _ _ E (J.make C us [])
  (j.env0.make C us []) (L _ (Value.ref (s.heap.objs.size+1)::us) j.kIn D) o l) λr G d=>?_))
 cases r with
 | error e=>exact hx g σ _ _ e G j d
 | ok fl =>
  cases fl with
  | ret u =>
   obtain ⟨v,q,t,y,z,q3⟩:=j.after d
   subst z
   exact ⟨y,⟨V.ref (s.heap.objs.size+1),q,t,ϱ,q3⟩⟩
  | next=>exact False.elim d
  | brk=>exact False.elim d
  | cont=>exact False.elim d
def bR(M:Mk X.K C f)(F:NH X.prog X.w X.K X.mg X.base CX k f fd ps sp)(o:NU (k+1) X.A)(u:Gl X x)(y:X.mg x=some (.ref C))(z:NT X.K fd ps ds)(D:NQ dvs ds)(hx:b8 CX X E)
  (G:PA X (e::es) t)(g:(x==("__debug__":Str))=false:=by decide)(J:starEach (e::es) X.env=(false,eval e X.env)::starEach es X.env:=by rfl)(j:(backTo pos (starEach es X.env)).any (·.1)=false:=by rfl) :
  PE X (.Call (.Name x p) (e::es) [] pos) (DK C sp dvs E t):=by
 intro d s σ H Q I h
 refine ń (cy I u y ?_ g)
 refine Ń (h₀:=X.base) I.ok.mod.kin M.kp (Zg (G pos d s σ H _ I h) λL O ⟨vs,H1,l,r,q⟩=>⟨l.kIn,?_⟩) J j
 exact xZ M F o z D hx l r q
end
structure ag(N P:Ĉ)(sc:Scope):Prop where
 kind:sc.kind=.function
 co:sc.isCoroutine=false
 gen:sc.isGenerator=false
 nd:N.Nodup
 pre:N.take P.length=P
 par:∀x∈P,sc.names.lookup x=some .local\/sc.names.lookup x=some .cell
 nofree:∀y∈sc.names,y.2≠.free
def í{N P sc}(a:sc.kind=.function:=by rfl)(b:sc.isCoroutine=false:=by rfl)(c:sc.isGenerator=false:=by rfl)(d:N.Nodup:=by decide +kernel)(e:N.take P.length=P:=by rfl)(f:∀x∈P,sc.names.lookup x=some .local\/sc.names.lookup x=some .cell:=by decide +kernel)(g:∀y∈sc.names,y.2≠.free:=by decide +kernel):ag N P sc:=⟨a,b,c,d,e,f,g⟩
theorem qy{kindOf:Str->Option NameKind}{x:Str}:∀{binds:î (Str×ó)} {m:ď},(∀v,(x,v)∉binds)->bindL kindOf binds m x=m x
 | [],_,_=>rfl
 | (n,v)::r,m,h=>by
  unfold bindL
  rw [qy λw hw=>h w (Θ _ hw)]
  split
  .have:x≠n:=by rintro rfl;exact h v Ω
   simp [this]
  .rfl
theorem qA{kindOf:Str->Option NameKind}{x:Str}:∀{binds:î (Str×ó)} {m:ď},(∀v,(x,v)∉binds)->bindC kindOf binds m x=m x
 | [],_,_=>rfl
 | (n,v)::r,m,h=>by
  unfold bindC
  rw [qA λw hw=>h w (Θ _ hw)]
  split
  .rfl
  .have:x≠n:=by rintro rfl;exact h v Ω
   simp [this]
theorem qz{kindOf:Str->Option NameKind}{x:Str}{v:ó}:∀{P:Ĉ} {vs:Ċ} {i:Nat} {m:ď},P.Nodup->P[i]?=some x->vs[i]?=some v->kindOf x=some .local ->
  bindL kindOf (P.zip vs) m x=some v
 | [],_,_,_,_,h,_,_=>by simp at h
 | _::_,[],_,_,_,_,h,_=>by simp at h
 | p::P,w::vs,0,m,nd,h1,h2,hk=>by
  simp at h1 h2;subst h1;subst h2
  show bindL kindOf ((p,w)::P.zip vs) m p=_
  unfold bindL
  rw [qy λv hv=>(ĥ.mp nd).1 (List.of_mem_zip hv).1,ů hk]
  simp
 | p::P,w::vs,i+1,m,nd,h1,h2,hk=>by
  show bindL kindOf ((p,w)::P.zip vs) m x=_
  unfold bindL
  exact qz (i:=i) (List.nodup_cons.mp nd).2 (by simpa using h1) (by simpa using h2) hk
theorem qC{kindOf:Str->Option NameKind}{x:Str}{v:ó}:∀{P:Ĉ} {vs:Ċ} {i:Nat} {m:ď},P.Nodup->P[i]?=some x->vs[i]?=some v->kindOf x≠some .local ->
  bindC kindOf (P.zip vs) m x=some v
 | [],_,_,_,_,h,_,_=>by simp at h
 | _::_,[],_,_,_,_,h,_=>by simp at h
 | p::P,w::vs,0,m,nd,h1,h2,hk=>by
  simp at h1 h2;subst h1;subst h2
  show bindC kindOf ((p,w)::P.zip vs) m p=_
  unfold bindC
  rw [qA λv hv=>(ĥ.mp nd).1 (List.of_mem_zip hv).1,ŵ hk]
  simp
 | p::P,w::vs,i+1,m,nd,h1,h2,hk=>by
  show bindC kindOf ((p,w)::P.zip vs) m x=_
  unfold bindC
  exact qC (i:=i) (List.nodup_cons.mp nd).2 (by simpa using h1) (by simpa using h2) hk
def start(N:Ĉ)(vs:î V):St:=vs.map some++List.replicate (N.length-vs.length) none
def gW(CX:CXT)(P:ù)(w:ö)(K:ò)(mg:ď)(base:ñ)(N:Ĉ)(qual:Str)(scope:Scope)(f:ø)(cd:ó)(A:ô)(outer:ą)(s:ú)(H:Hp)(E:XK):Cx where
 prog:=P
 w:=w
 K:=K
 mg:=mg
 base:=base
 A:=A.deeper (envOfC qual scope s.heap.objs.size f cd)
 N:=N
 s₀:=s
 H₀:=H
 env:=envOfC qual scope s.heap.objs.size f cd
 outer:=outer
 stack:=envOfC qual scope s.heap.objs.size f cd::outer
 ex:=[]
 calm:=true
 fn:=λ_=>true
 pn:=[]
 xe:=λe s'=>wpAny (model P w) (A.deeper (envOfC qual scope s.heap.objs.size f cd)) (leaving (envOfC qual scope s.heap.objs.size f cd) e) (λ_ s''=>CX outer H s E e s'') (λe' s''=>CX outer H s E e' s'') s'
def tE{d:Scope}{n:Nat}{x:Str}(h:d.names.lookup x=some .cell):∃c,(cellsFrom n d.names []).lookup x=some c:=by
 have q:=PySem.W.cellsFrom_some d.names n [] (.inl h)
 exact Option.isSome_iff_exists.mp q
def wM{I:CXT}{P:ù}{w:ö}{K:ò}{mg:ď}{base:ñ}{N ps:Ĉ}{g:Str}{scope:Scope}{f:ø}{D:ó}{A:ô}{d:ą}{s J:ú}{H:Hp}{E:XK}{us:Ċ}{vs:î V}
  (S:ag N ps scope)(U:A.handled=none)(e0:Env0 P w K mg base A d s H)(Y:vs.length=ps.length)(r:NQ vs us)
  (x:InCallC s s.heap.objs.size (bindL (envOfC g scope s.heap.objs.size f D).kindOf (ps.zip us) λ_=>none) (cellsFrom (s.heap.objs.size+1) scope.names []) (bindC (envOfC g scope s.heap.objs.size f D).kindOf (ps.zip us) λ_=>none) J) :
  NM (gW I P w K mg base N g scope f D A d s H E) [] (start N vs) H J:=by
 have O:ps.length<=N.length:=by have:=congrArg List.length S.pre;rw [ŷ] at this;lia
 obtain ⟨h1,W,rfl,F⟩:=x.done
 have l:∀b:ø,b∉(gW I P w K mg base N g scope f D A d s H E).ex:=λb z=>absurd (show b∈([]:ĉ) from z) (by simp)
 refine ⟨⟨e0.mod,S.kind,ϱ,ϱ,ι _,λy z c h1 j=>?_,λy hy=>?_,λy c _ h=>?_,λ_=>U,Around.frames_deeper e0.frames,.inr ⟨ϱ,ϱ⟩,λb z=>absurd z (l b),e0.bs,e0.bsz,λb _ _=>l b,λb z=>absurd z (l b),e0.funs,e0.frf⟩,
  rfl,e0.bare,Un.kept F,⟨_,x.toInCall.ns,λi y v h1 j X=>?_⟩,λy c h=>⟨_,x.cell y c h⟩,e0.hok.fresh (Nat.le_refl _),λy c h=>?_,λp o=>absurd (show p∈([]:đ) from o) (by simp),e0.hok.kept F,?_⟩
 .exact name_of_addr x.apart (Ũ h1) (Ũ j)
 .have hy:scope.names.lookup y=some .cell\/scope.names.lookup y=some .free:=hy
  rcases hy with hy | hy
  .exact tE hy
  .exact absurd rfl (S.nofree _ (Ũ hy))
 .exact Į (x.above y c (Ũ h))
 .have C:i<vs.length:=by
   unfold start at j
   by_cases C:i<vs.length
   .exact C
   .rw [List.getElem?_append_right (by simpa using C)] at j
    rw [List.getElem?_replicate] at j
    split at j<;>cases j
  have Q:vs[i]?=some v:=by
   unfold start at j
   rw [List.getElem?_append_left (by simpa using C),List.getElem?_map] at j
   cases e:vs[i]? with
   | none=>cases e▸j
   | some a=>cases e▸j;rfl
  obtain ⟨u,G,L⟩:=r.get Q
  have o:ps[i]?=some y:=by
   rw [← S.pre,Ĳ ω];exact h1
  have t:ps.Nodup:=by rw [← S.pre];exact S.nd.sublist (List.take_sublist _ _)
  refine ⟨u,L,?_⟩
  rcases S.par y (ž o) with k | k
  .exact .inl ⟨k,qz t o G k⟩
  .obtain ⟨c,e⟩:=tE (n:=s.heap.objs.size+1) k
   refine .inr ⟨.inl k,c,e,?_⟩
   have q:=x.cell y c e
   rw [qC t o G (by show scope.names.lookup y≠_;rw [k];decide)] at q
   exact q
 .exact e0.hok.fresh (Į (x.above y c (Ũ h)))
 .unfold start
  show _=N.length
  rw [Ž,ν,List.length_replicate]
  lia
def vU{U:CXT}{P:ù}{w:ö}{K:ò}{mg:ď}{base:ñ}{k:Nat}{f:ø}{name g:Str}{j:Arguments}{l:î ð}{scope:Scope}{dV kV L pm h ct oc:ó}{an od:Option ø}
  {a1:Array (ý)}{N ps:Ĉ}{sp:Sp}(lk:K.lookup f=some ⟨oc,od,.func (PySem.W.fnOf name g j l scope dV kV L pm an h ct),a1⟩)(a2:PySem.W.codeIn K h g=true)(S:ag N ps scope)
  (len:∀vs H Q E,sp vs H Q E->vs.length=ps.length)
  (C:∀(A:ô) (d:ą) (s:ú) (H:Hp) (vs:î V) (Q:VK) (E:XK),NU k (A.deeper (envOfC g scope s.heap.objs.size f h))->sp vs H Q E ->
   ∃t,PSs (gW U P w K mg base N g scope f h A d s H E) l t/\t {nx:=λ_ H'=>Q .non H',rt:=Q} (start N vs) H) :
  NH P w K mg base U (k+1) f (PySem.W.fnOf name g j l scope dV kV L pm an h ct) ps sp:=by
 refine ⟨len,λA d s H a4 us vs Q E Z e0 hb r G=>?_⟩
 have hl:=len _ _ _ _ G
 have KX:K.In s.heap:=e0.mod.kin.keeps λb o e=>(e0.bs b o e).1
 have Y:s.heap.NoLimit:=e0.mod.nolimit.keeps λb o e=>(e0.bs b o e).1
 have z:∀y∈ps.zip us,scope.names.lookup y.1=some .local\/(scope.names.lookup y.1=some .cell/\((cellsFrom (s.heap.objs.size+1) scope.names []).lookup y.1).isSome=true):=λ⟨n,v⟩ hy=>by
  rcases S.par n (List.of_mem_zip hy).1 with q | q
  .exact .inl q
  .exact .inr ⟨q,PySem.W.cellsFrom_some _ _ _ (.inl q)⟩
 refine codeAny_call_function Z.depth (KX _ _ lk) rfl S.co S.gen rfl (PySem.W.codeRec_of KX a2) (hb _ _ _ _ ?_)
 refine wpAny_newFunctionEnv_cells S.kind z λax he s1 x=>?_
 subst he
 refine ⟨Y.keeps x.toInCall.keep,codeAny_func ?_⟩
 obtain ⟨t,ht,hq⟩:=C A d s H vs Q E (Z.deeper _) G
 have I:NM (gW U P w K mg base N g scope f h A d s H E) [] (start N vs) H s1:=wM S Z.hd e0 hl r x
 refine Ŭ (ht [] s1 (start N vs) H _ I hq) (λfl s' D=>?_) λe s' D=>D
 have F:∀{O:St} {H':Hp} {v:V} {u:ó},NM (gW U P w K mg base N g scope f h A d s H E) [] O H' s'->NP v u->Q v H'->CE d P w H s Q u s' :=
  λ{O H' v u} J X q=>⟨v,H',J.os,J.bare,J.base,J.hok,X,q⟩
 cases fl with
 | ret u =>
  obtain ⟨v,O,H',J,X,q⟩:=D
  exact F J X q
 | next =>
  obtain ⟨O,H',J,q⟩:=D
  exact F (v:=V.non) (u:=Value.none) J rfl q
 | brk =>
  obtain ⟨_,_,_,q⟩:=D
  exact False.elim q
 | cont =>
  obtain ⟨_,_,_,q⟩:=D
  exact False.elim q
section
variable {X:Cx}{x:Str}{p pos:Pos}{e:ï}{es:Ą}{t:TA}{id T:String}{r:î V->Hp->VK->Prop}
def tCB(r:î V->Hp->VK->Prop)(t:TA):TE:=fun σ H Q=>t σ H λvs H1=>r vs H1 Q
def aq(hc:cV X (.builtin id) r)(q:Gl X x)(u:X.mg x=none)(w:bootBuiltins x=some (.builtin id))(y:PA X (e::es) t)(z:x≠"__name__":=by decide)(f:(x==("__debug__":Str))=false:=by decide)
  (C:starEach (e::es) X.env=(false,eval e X.env)::starEach es X.env:=by rfl)(g:(backTo pos (starEach es X.env)).any (·.1)=false:=by rfl):PE X (.Call (.Name x p) (e::es) [] pos) (tCB r t):=by
 intro d s σ H Q I h
 refine ń (oJ I q u w ?_ z f)
 exact PyProof.Rows.callWith_builtin1 (Zg (y pos d s σ H _ I h) λj k ⟨vs,H1,l,o,q1⟩=>hc d k σ H1 vs j Q l o q1) C g
def bM(hc:cV X (.type T) r)(q:Gl X x)(u:X.mg x=none)(w:bootBuiltins x=some (.type T))(y:PA X (e::es) t)(z:x≠"__name__":=by decide)(f:(x==("__debug__":Str))=false:=by decide)
  (C:starEach (e::es) X.env=(false,eval e X.env)::starEach es X.env:=by rfl)(g:(backTo pos (starEach es X.env)).any (·.1)=false:=by rfl):PE X (.Call (.Name x p) (e::es) [] pos) (tCB r t):=by
 intro d s σ H Q I h
 refine ń (oJ I q u w ?_ z f)
 exact PyProof.Rows.callWith_type1 (Zg (y pos d s σ H _ I h) λj k ⟨vs,H1,l,o,q1⟩=>hc d k σ H1 vs j Q l o q1) C g
end
end L2
namespace HT
open PySem PyProof.Rows
section
open PySem.SeqAt
open PySem.AutoSeq1 (wpAny_loadPart')
open PySem.MeetsSeq PySem.MeetsSeq2 PySem.MeetsSeq3
end
section
variable {prog:ù}{w:ö}{A:ô}{E:Đ}{s:ú}
def Bo{t b:ø}{vs d:Ċ}{Q:Đ}(D:IsTup s.heap t vs.toArray)(G:IsTup s.heap b d.toArray)(C:vs≠[])
  (h1:d=[]->Q (.ref t) s)(H:d≠[]->Q (.ref s.heap.objs.size) {s with heap:=s.heap.push {cls:=.type "tuple",data:=.seq (vs++d).toArray}})
  (hsz:vs.length+d.length<=sizeLine):wpAny (model prog w) A (binaryOp .Add (.ref t) (.ref b)) Q E s:=by
 obtain ⟨⟨cls,q,data,r⟩,l,u,n,x⟩:=id D
 obtain ⟨⟨y,g,o,h⟩,f,j,z,k⟩:=id G
 simp only at u x j k
 subst u x j k
 have e:vs.toArray++d.toArray=(vs++d).toArray:=by simp
 by_cases hw:d=[]
 .exact concat_meets ⟨_,l,ϱ⟩ ⟨_,f,ϱ⟩ noFill_tuple_add seq_tuple_add PySem.F.slot_tuple_add PySem.F.entry_tuple_add (PySem.F.args_tuple_add_2 _ _)
   (tuple_addW1 t b vs.toArray d.toArray n z q g r h (by simpa using C) (by simp [hw])) ⟨l,f,h1 hw⟩
 .refine concat_meets ⟨_,l,ϱ⟩ ⟨_,f,ϱ⟩ noFill_tuple_add seq_tuple_add PySem.F.slot_tuple_add PySem.F.entry_tuple_add (PySem.F.args_tuple_add_2 _ _)
   (tuple_addW2 t b vs.toArray d.toArray n z q g r h (by simpa using C) (by simpa using hw) (by rw [List.size_toArray,List.size_toArray];exact hsz)) ⟨l,f,?_⟩
  exact e▸H hw
def sIx(n d:Nat):Option Int->Nat
 | none=>d
 | some v=>if v<0 then (v+(n:Int)).toNat else min v.toNat n
def on(n d:Nat):sIx n d none=d:=rfl
def cP(n d k:Nat):sIx n d (some (k:Int))=min k n:=by
 show (if (k:Int)<0 then ((k:Int)+(n:Int)).toNat else min (k:Int).toNat n)=min k n
 rw [ŵ ω,ğ]
def Ci(n d:Nat)(e:d<=n)(o:Option Int):sIx n d o<=n:=by
 cases o with
 | none=>exact e
 | some v =>
  show (if v<0 then (v+(n:Int)).toNat else min v.toNat n)<=n
  by_cases hv:v<0
  .rw [ů hv];lia
  .rw [ŵ hv];exact Nat.min_le_right _ _
def v7(v:Int)(n d:Nat):(if v<0 then max (v+(n:Int)) 0 else min v (n:Int))=((sIx n d (some v):Nat):Int):=by
 show (if v<0 then max (v+(n:Int)) 0 else min v (n:Int))=(((if v<0 then (v+(n:Int)).toNat else min v.toNat n):Nat):Int)
 by_cases hv:v<0
 .simp only [if_pos hv];lia
 .simp only [if_neg hv];lia
def uS(lo d:Option Int)(n:Nat):Builtin.Slice.sliceAdjust lo d 1 (n:Int)=(((sIx n 0 lo:Nat):Int),((sIx n n d:Nat):Int)):=by
 have h1:¬((1:Int)<0):=by lia
 unfold Builtin.Slice.sliceAdjust
 simp only [h1,if_false]
 refine Prod.ext ?_ ?_
 .cases lo with
  | none=>rfl
  | some v=>exact v7 v n 0
 .cases d with
  | none=>rfl
  | some v=>exact v7 v n n
def uo(i j:Nat):Builtin.Slice.slicePlaces (i:Int) (j:Int) 1=j-i:=by
 unfold Builtin.Slice.slicePlaces
 have h1:(1:Int)>0:=by lia
 simp only [h1,if_true,Int.ediv_one]
 split<;>lia
def nQ{v:ó}{o:Option Int}{Q:Option Int->ú->Prop}(p:IsPart v o)(h:Q o s):wpAny (model prog w) A (Builtin.Slice.slicePartIndex v) Q E s:=by
 cases p with
 | none=>exact slicePart_none h
 | int i t=>exact slicePart_int h
def fX{j:ø}{vl g:ó}{lo f:Option Int}{n:Nat}{Q:Int×Int×Nat->ú->Prop}(l:s.heap.IsSliceOf j vl g .none)(pl:IsPart vl lo)(o:IsPart g f)
  (h:Q (((sIx n 0 lo:Nat):Int),1,sIx n n f-sIx n 0 lo) s):wpAny (model prog w) A (Builtin.Slice.sliceApplied (.ref j) (pure (n:Int))) Q E s:=by
 obtain ⟨q,d,k,e⟩:=id l
 unfold Builtin.Slice.sliceApplied Builtin.Slice.sliceFields
 refine ε (ε (Ē d e (x:=vl) rfl (ε (Ē d e (x:=g) rfl (ε (Ē d e (x:=.none) rfl (π ?_)))))))
 refine ε (slicePart_none ?_)
 show wpAny _ _ (if ((1:Int)==0)=true then _ else _) _ _ s
 rw [ŵ ζ]
 refine ε (nQ pl (ε (nQ o (ε (π ?_)))))
 show wpAny _ _ (match Builtin.Slice.sliceAdjust lo f 1 (n:Int) with | (lo,f)=>pure (lo,(1:Int),Builtin.Slice.slicePlaces lo f 1)) _ _ s
 rw [uS lo f n]
 show wpAny _ _ (pure (((sIx n 0 lo:Nat):Int),(1:Int),Builtin.Slice.slicePlaces ((sIx n 0 lo:Nat):Int) ((sIx n n f:Nat):Int) 1)) _ _ s
 rw [uo]
 exact π h
def yk(xs:û)(i k:Nat):((List.range k).filterMap λ(m:Nat)=>xs[((i:Int)+(m:Int)*1).toNat]?).toArray=((xs.toList.drop i).take k).toArray:=by
 have e:(λ(m:Nat)=>xs[((i:Int)+(m:Int)*1).toNat]?)=λm=>xs[i+m]?:=by
  funext m
  have:((i:Int)+(m:Int)*1).toNat=i+m:=by lia
  rw [this]
 rw [e]
 have:=pick_run xs i k
 rw [List.filterMap_map] at this
 have d:((λx=>xs[x]?)∘λx=>i+x)=λm=>xs[i+m]?:=rfl
 rw [d] at this
 rw [this]
def jU{t r:ø}{d:û}{vl u:ó}{lo f:Option Int}{Q:Đ}(g:IsTup s.heap t d)(x:s.heap.IsSliceOf r vl u .none)(pl:IsPart vl lo)(C:IsPart u f)
  (hw:¬(sIx d.size 0 lo=0/\sIx d.size d.size f=d.size))
  (h:Q (.ref s.heap.objs.size) {s with heap:=s.heap.push {cls:=.type "tuple",data:=.seq ((d.toList.drop (sIx d.size 0 lo)).take (sIx d.size d.size f-sIx d.size 0 lo)).toArray}})
  (hsz:d.size<=sizeLine):wpAny (model prog w) A (getItem (.ref t) (.ref r)) Q E s:=by
 have e:sizeOk (.seq ((d.toList.drop (sIx d.size 0 lo)).take (sIx d.size d.size f-sIx d.size 0 lo)).toArray):=by
  show ((d.toList.drop (sIx d.size 0 lo)).take (sIx d.size d.size f-sIx d.size 0 lo)).toArray.size<=sizeLine
  rw [Ű,ŷ,Ś,Array.length_toList]
  lia
 have D:sIx d.size d.size f<=d.size:=Ci _ _ (ι _) f
 obtain ⟨y,j,k,z⟩:=id x
 have l:s.TypeIs (.ref r) "slice":=⟨y,j,k⟩
 unfold getItem
 try with_reducible refine ŗ ?_
 first | refine ε (π ?_) | skip
 refine ε (wpAny_sequenceKey g.typeIs ζ ?_)
 refine ε (wpAny_callSpecial?_slot (name:=("__getitem__":Str)) g.typeIs ŝ
  (wpAny_call_entry ŝ g.typeIs entry_tuple_getitem ?_ (args_tuple_getitem _ _)))
 show wpAny _ _ (Builtin.Tuple.tupleItemsOf (.ref t) >>= _) _ _ s
 refine ε (tupleItemsOf_ g ?_)
 refine ε (wpAny_typeOf l ?_)
 rw [ů ζ]
 refine ε (fX x pl C ?_)
 have o:¬((((sIx d.size 0 lo:Nat):Int)==0&&(1:Int)==1&&(sIx d.size d.size f-sIx d.size 0 lo)==d.size)=true):=by
  intro q
  rw [ł,ł] at q
  have q1:((sIx d.size 0 lo:Nat):Int)=0:=eq_of_beq q.1.1
  have q2:sIx d.size d.size f-sIx d.size 0 lo=d.size:=eq_of_beq q.2
  exact hw ⟨ω,ω⟩
 show wpAny _ _ (if (((sIx d.size 0 lo:Nat):Int)==0&&(1:Int)==1&&(sIx d.size d.size f-sIx d.size 0 lo)==d.size)=true then _ else _) _ _ s
 rw [ŵ o,yk]
 first
  | exact ε (m:=Builtin.Tuple.tupleExact _) (Ğ (π ⟨_,rfl,π h⟩) e)
  | exact ε (m:=Builtin.Tuple.tupleExact _) (Ğ (ε (π (π ⟨_,rfl,π h⟩))) e)
  | exact ε (ε (m:=Builtin.Tuple.tupleExact _) (Ğ (π (π ⟨_,rfl,π h⟩)) e))
  | exact ε (ε (m:=Builtin.Tuple.tupleExact _) (Ğ (π ⟨_,rfl,π h⟩) e))
end
end HT
namespace L2
open PySem PySem.Spec PyProof.Rows
abbrev TO:=St->Hp->(Option Int->Hp->Prop)->Prop
def PO(X:Cx)(e:Option ï)(t:TO):Prop :=
 ∀(pins:đ) (s:ú) (σ:St) (H:Hp) (Q:Option Int->Hp->Prop),NM X pins σ H s->t σ H Q ->
  wpAny (model X.prog X.w) X.A (evalPart e X.env) (λu s'=>∃o H',NM X pins σ H' s'/\IsPart u o/\Q o H') X.xe s
def Am:TO:=λ_ H Q=>Q none H
def DI(t:TE):TO:=fun σ H Q=>t σ H λx H1=>∃i,x=.int i/\Q (some i) H1
def uP{ns:ć}:∀{us:Ċ},NQ (ns.map V.int) us->IntsAre us ns:=by
 induction ns with
 | nil=>intro us r;cases List.map_nil▸r;exact .nil
 | cons n ns ih =>
  intro us r
  rw [Ŗ] at r
  cases r with
  | cons r1 r2 =>
   obtain ⟨t,e⟩:=r1
   subst e
   exact .cons n t (ih r2)
section
variable {X:Cx}{e:ï}{te:TE}{lo hi:Option ï}{tl th:TO}{pos p2:Pos}
def ba:PO X none Am:=by
 intro d s σ H Q I h
 rw [evalPart_none]
 exact π ⟨none,H,I,.none,h⟩
def aN(h:PE X e te):PO X (some e) (DI te):=by
 intro d s σ H Q I j
 rw [evalPart_some]
 refine Zg (h d s σ H _ I j) λu k ⟨x,H1,f,g,q1⟩=>?_
 obtain ⟨i,rfl,q⟩:=q1
 obtain ⟨t,rfl⟩:=g
 exact ⟨some i,H1,f,.int i t,q⟩
def SlR(X:Cx)(r:V->Option Int->Option Int->Hp->VK->Prop):Prop :=
 ∀(pins:đ) (s:ú) (σ:St) (H:Hp) (x:V) (v vl vu:ó) (lo hi:Option Int) (sl:ø) (Q:VK),NM X pins σ H s->NP x v->s.heap.IsSliceOf sl vl vu .none->IsPart vl lo->IsPart vu hi->r x lo hi H Q ->
  ∃T id,typeLookup (.type T) "__getitem__"=pure (some (.builtin id))/\s.TypeIs v T/\wpAny (model X.prog X.w) X.A (getItem v (.ref sl)) (EP X pins σ Q) X.xe s
def tSl(r:V->Option Int->Option Int->Hp->VK->Prop)(te:TE)(tl th:TO):TE:=fun σ H Q=>te σ H λx H1=>tl σ H1 λl H2=>th σ H2 λu H3=>r x l u H3 Q
def aL{r:V->Option Int->Option Int->Hp->VK->Prop}(O:SlR X r)(P:PE X e te)(U:PO X lo tl)(W:PO X hi th):PE X (.Subscript e (.Slice lo hi none p2) pos) (tSl r te tl th):=by
 intro d s σ H Q I h
 refine Subscript_ (Zg (P d s σ H _ I h) λv z ⟨x,H1,C,D,q1⟩=>?_)
 refine wpAny_Slice (Zg (U d z σ H1 _ C q1) λvl F ⟨l,G,J,pl,q2⟩=>Zg (W d F σ G _ J q2) λg f ⟨u,j,K,L,q3⟩=>?_)
 rw [evalPart_none]
 refine π ?_
 have y:NM X d σ j {f with heap:=f.heap.push {cls:=.type "slice",data:=.fields #[vl,g,.none]}}:=K.kept (t':=f.toks) λb Y q=>ρ _ q
 obtain ⟨T,id,k,o,t⟩:=O d {f with heap:=f.heap.push {cls:=.type "slice",data:=.fields #[vl,g,.none]}} σ j x v vl g l u f.heap.objs.size Q y D (Heap.IsSliceOf.new ..) pl L q3
 show wpAny (model X.prog X.w) X.A (subscriptTail e (.Slice lo hi none p2) v (.ref f.heap.objs.size)) (EP X d σ Q) X.xe {f with heap:=f.heap.push {cls:=.type "slice",data:=.fields #[vl,g,.none]}}
 exact tail_any (ops:=[.ref f.heap.objs.size,v]) o k t (by with_unfolding_all rfl)
def bn(xs:î V)(lo hi:Option Int):î V:=(xs.drop (HT.sIx xs.length 0 lo)).take (HT.sIx xs.length xs.length hi-HT.sIx xs.length 0 lo)
def lQ(xs:î V)(lo hi:Option Int):(bn xs lo hi).length<=xs.length:=by
 unfold bn
 rw [ŷ,Ś]
 lia
def E9(K:ò):V->Option Int->Option Int->Hp->VK->Prop:=λx lo hi H Q=>∃a xs,x=.ref a/\NN K H a xs /\
 ¬(HT.sIx xs.length 0 lo=0/\HT.sIx xs.length xs.length hi=xs.length)/\∀p,H p=none->Q (.ref p) (upd H p (.tup (bn xs lo hi)))
def uh:SlR X (E9 X.K):=by
 intro j s σ H x v vl z lo hi C Q I t u pl w h
 obtain ⟨a,xs,rfl,k,l,q⟩:=h
 cases t
 obtain ⟨e,r,f,g⟩:=I.tuple k
 have d:e.toArray.size=xs.length:=by rw [Ű];exact r.length.symm
 refine ⟨"tuple",_,PyProof.Rows.slot_tuple_getitem.lookup,f.typeIs,?_⟩
 refine HT.jU f u pl w (d▸l) ?_ (d▸g)
 rw [d]
 refine ⟨.ref s.heap.objs.size,_,I.laid (t':=s.toks) (o:=.tup (bn xs lo hi)) (λb y q=>ρ _ q) (ι _) ?_,ϱ,q _ (I.hok.fresh (ι _))⟩
 exact ⟨Λ (lQ xs lo hi) g,_,(r.drop (HT.sIx xs.length 0 lo)).take (HT.sIx xs.length xs.length hi-HT.sIx xs.length 0 lo),IsTup.new _ _⟩
def D1(K:ò):R2:=λx y H Q=>∃a b xs ys,x=.ref a/\y=.ref b/\NN K H a xs/\NN K H b ys/\xs≠[]/\xs.length+ys.length<=sizeLine /\
 (ys=[]->Q (.ref a) H)/\(ys≠[]->∀p,H p=none->Q (.ref p) (upd H p (.tup (xs++ys))))
def NQ.nil_iff{xs:î V}{us:Ċ}(r:NQ xs us):us=[]↔xs=[]:=by
 cases r with
 | nil=>simp
 | cons _ _=>simp
def rF:OpR X (binaryOp .Add) (D1 X.K):=by
 intro j s σ H x y v u Q I F G h
 obtain ⟨a,b,xs,k,rfl,rfl,l,r,t,f,q1,q2⟩:=h
 cases F
 cases G
 obtain ⟨C,e,D,_⟩:=I.tuple l
 obtain ⟨g,d,p2,_⟩:=I.tuple r
 refine HT.Bo D p2 (λz=>t (e.nil_iff.mp z)) (λz=>⟨.ref a,H,I,ϱ,q1 (d.nil_iff.mp z)⟩) (λz=>?_) (by rw [← e.length,← d.length];exact f)
 refine ⟨.ref s.heap.objs.size,_,I.laid (t':=s.toks) (o:=.tup (xs++k)) (λb J q=>ρ _ q) (ι _) ?_,ϱ,q2 (λw=>z (d.nil_iff.mpr w)) _ (I.hok.fresh (ι _))⟩
 exact ⟨by rw [Ž];exact f,_,e.append d,IsTup.new _ _⟩
end
def ixN(n:Nat)(i:Int):Option Nat:=if 0<=i then (if i<n then some i.toNat else none) else if -(n:Int)<=i then some (i+n).toNat else none
def atI{α:Type}(xs:î α)(i:Int):Option α:=(ixN xs.length i).bind λj=>xs[j]?
def vP{n:Nat}{i:Int}{j:Nat}(h:ixN n i=some j):seqIndex? i n=some j/\j<n/\-(n:Int)<=i/\i<n:=by
 unfold ixN at h
 by_cases h0:0<=i
 .rw [ů h0] at h
  by_cases h1:i<n
  .rw [ů h1] at h
   have e:i.toNat=j:=Δ h
   exact ⟨by rw [seqIndex_of h0 h1,e],ω,ω,h1⟩
  .cases ŵ h1▸h
 .rw [ŵ h0] at h
  by_cases h1:-(n:Int)<=i
  .rw [ů h1] at h
   have e:(i+n).toNat=j:=Δ h
   exact ⟨by rw [seqIndex_neg ω h1,e],ω,h1,ω⟩
  .cases ŵ h1▸h
def rY{α:Type}{xs:î α}{i:Int}{v:α}(h:atI xs i=some v):∃j,seqIndex? i xs.length=some j/\xs[j]?=some v/\j<xs.length/\-(xs.length:Int)<=i/\i<xs.length:=by
 unfold atI at h
 cases e:ixN xs.length i with
 | none=>cases e▸h
 | some j =>
  rw [e] at h
  obtain ⟨h1,d,f,g⟩:=vP e
  exact ⟨j,h1,h,d,f,g⟩
def ay{α:Type}{xs:î α}{j:Nat}{v:α}(h:xs[j]?=some v):atI xs (j:Int)=some v:=by
 have d:j<xs.length:=(ſ.mp h).1
 have e:ixN xs.length (j:Int)=some j:=by
  unfold ixN
  rw [if_pos ω,if_pos ω];simp
 unfold atI;rw [e];exact h
def dw{α:Type}(xs:î α)(v:α):atI (xs++[v]) (-1)=some v:=by
 have d:(xs++[v]).length=xs.length+1:=by simp
 have e:ixN (xs++[v]).length (-1)=some xs.length:=by
  unfold ixN
  rw [d,ŵ ζ,ů ω]
  congr 1
  lia
 unfold atI
 rw [e]
 show (xs++[v])[xs.length]?=some v
 simp
def mW(b:ï):Prop:=∀o i,subscripted b false o i=operate [o,i] (getItem o i)
def IxR(X:Cx)(r:R2):Prop :=
 ∀(value slice:ï) (pins:đ) (s:ú) (σ:St) (H:Hp) (x y:V) (v u:ó) (Q:VK),NM X pins σ H s->NP x v->NP y u->r x y H Q ->
  subscripted slice false v u=operate [v,u] (getItem v u)->wpAny (model X.prog X.w) X.A (subscriptTail value slice v u) (EP X pins σ Q) X.xe s
def MtR(X:Cx)(id:String)(r:V->î V->Hp->VK->Prop):Prop :=
 ∀(pins:đ) (s:ú) (σ:St) (H:Hp) (x:V) (xs:î V) (v:ó) (us:Ċ) (Q:VK),NM X pins σ H s->NP x v->NQ xs us->r x xs H Q ->
  wpAny (model X.prog X.w) X.A (call (.builtin id) (v::us)) (EP X pins σ Q) X.xe s
section
variable {X:Cx}{a b:ï}{ta tb:TE}{pos:Pos}
def jI{r:R2}(l:IxR X r)(o:PE X a ta)(t:PE X b tb)(w:mW b):PE X (.Subscript a b pos) (tOp r ta tb):=by
 intro d s σ H Q I h
 exact Subscript_ (Dp o t I h λv u e x y f g j k q=>l a b d e σ f x y v u Q g j k q (w _ _))
inductive XXL (K:ò) (x y:V) (H:Hp) (Q:VK):Prop|mk p xs i v:x=.ref p->y=.int i->NO K H p xs->atI xs i=some v->Q v H->XXL K x y H Q
def yh(K:ò):R2:=λx y H Q=>XXL K x y H Q
inductive XXT (K:ò) (x y:V) (H:Hp) (Q:VK):Prop|mk p xs i v:x=.ref p->y=.int i->NN K H p xs->atI xs i=some v->Q v H->XXT K x y H Q
def yg(K:ò):R2:=λx y H Q=>XXT K x y H Q
def D0:R2:=λx y H Q=>∃z i c,x=.str z/\y=.int i/\z.length<=sizeLine/\atI z.cps.toList i=some c/\Q (.str ⟨#[c]⟩) H
def mQ:IxR X (yh X.K):=by
 intro l o d s σ H x y v u Q I W Y h D
 obtain ⟨p,xs,i,z,rfl,rfl,F,G,q⟩:=h
 cases W
 obtain ⟨t,rfl⟩:=Y
 obtain ⟨f,r,pl,Z⟩:=I.list F
 obtain ⟨j,h1,J,h3,L,O⟩:=rY G
 obtain ⟨w,C,g⟩:=r.get J
 have P:=r.length
 have hn:=jq
 have e:EP X d σ Q w s:=⟨z,H,I,g,q⟩
 by_cases h0:0<=i
 .have k:i.toNat=j:=by
   rw [seqIndex_of h0 O] at h1
   exact Δ h1
  exact item_listR pl.isList h0 ω (by rw [k];simpa using C) e D
 .have k:(i+(f.toArray.size:Int)).toNat=j:=by
   rw [seqIndex_neg ω L] at h1
   rw [Ű,← P]
   exact Δ h1
  exact subscriptTail_builtinR (x:=w) pl.isList.typeIs slot_list_getitem.lookup
   (wpAny_getItem_list_neg (Q:=λr U=>r=w/\EP X d σ Q r U) pl.isList ω (by rw [List.size_toArray]<;>lia) ω (by rw [k];simpa using C) ⟨ϱ,e⟩) D
def uN:IxR X (yg X.K):=by
 intro g k d s σ H x y v u Q I L O h P
 obtain ⟨p,xs,i,z,rfl,rfl,l,o,q⟩:=h
 cases L
 obtain ⟨t,rfl⟩:=O
 obtain ⟨C,r,pl,U⟩:=I.tuple l
 obtain ⟨j,h1,D,W,Y,Z⟩:=rY o
 obtain ⟨w,F,e⟩:=r.get D
 have G:=r.length
 have hn:=jq
 have f:EP X d σ Q w s:=⟨z,H,I,e,q⟩
 exact subscriptTail_builtinR (x:=w) pl.typeIs slot_tuple_getitem.lookup
  (getItem_tuple (j:=j) (Q:=λr J=>r=w/\EP X d σ Q r J) pl ω ω (by rw [List.size_toArray,← G];exact h1) (by simpa using F) ⟨ϱ,f⟩) P
def zn:IxR X D0:=by
 intro d e f s σ H x y v u Q I D F h G
 obtain ⟨z,i,c,rfl,rfl,J,g,q⟩:=h
 obtain ⟨t,rfl⟩:=D
 obtain ⟨K,rfl⟩:=F
 obtain ⟨j,h1,k,L,l,o⟩:=rY g
 have r:z.cps.toList.length=z.length:=by simp [Str.length]
 rw [r] at h1 l o
 have O:=jq
 exact tail_any (Ī s z t) slot_str_getitem.lookup (getItem_str (c:=c) (by
  have w:decide (i < -(2 ^ 63:Int))=false:=Γ ω
  have C:decide (i≥2 ^ 63)=false:=Γ ω
  rw [w,C,Bool.or_false]) (by rw [h1];simpa using k) ⟨.str ⟨#[c]⟩,H,I.tok _,⟨_,ϱ⟩,q⟩) G
def uD(d:Ċ)(n j:Nat)(u:ó):Obj.mapSeq (·.setIfInBounds j u) {cls:=.type "list",data:=.seq d.toArray n}={cls:=.type "list",data:=.seq (d.set j u).toArray n}:=by
 simp [Obj.mapSeq]
def NM.lst{f:đ}{σ:St}{H:Hp}{s:ú}{p:ø}{xs:î V}(I:NM X f σ H s)(h:H p=some (.lst xs)) :
  ∃(d:Ċ) (n:Nat),NQ xs d/\s.heap.get? p=some {cls:=.type "list",data:=.seq d.toArray n}/\xs.length<=sizeLine:=by
 obtain ⟨z,d,n,r,e⟩:=I.hok p _ h
 exact ⟨d,n,r,e,z⟩
def NM.lstUpd{d:đ}{σ:St}{H:Hp}{s:ú}{p:ø}{xs ys:î V}{g its':Ċ}{n j:Nat}{f:Obj->Obj}(I:NM X d σ H s)(h:H p=some (.lst xs))
  (o:s.heap.get? p=some {cls:=.type "list",data:=.seq g.toArray n})(k:f {cls:=.type "list",data:=.seq g.toArray n}={cls:=.type "list",data:=.seq its'.toArray j})(r:NQ ys its')(hz:ys.length<=sizeLine)(t:Nat) :
  NM X d σ (upd H p (.lst ys)) {s with heap:=s.heap.update p f,toks:=t}:=by
 have e:(s.heap.update p f).get? p=some {cls:=.type "list",data:=.seq its'.toArray j}:=by
  rw [Ķ f o (by rw [k]<;>rfl),k]
 refine I.write (x:=p) (e:=p) (by rw [h];trivial) (.inl rfl) (λb u l q=>(Š _ _ (Ne.symm l)).trans q) ⟨_,e⟩ ?_
 exact ⟨hz,its',j,r,e⟩
def DY:V->V->V->Hp->(Hp->Prop)->Prop:=λo i v H Q=>∃p xs k j,o=.ref p/\i=.int k/\H p=some (.lst xs)/\ixN xs.length k=some j/\Q (upd H p (.lst (xs.set j v)))
def cL:ET X DY:=by
 intro e s σ H o i v O iv u Q I F G J h
 obtain ⟨p,xs,k,j,rfl,rfl,w,C,q⟩:=h
 cases F
 obtain ⟨t,rfl⟩:=G
 obtain ⟨d,n,r,f,D⟩:=I.lst w
 obtain ⟨h1,K,x,y⟩:=vP C
 have g:=r.length
 have L:=jq
 have z:NM X e σ (upd H p (.lst (xs.set j v))) {s with heap:=s.heap.update p (Obj.mapSeq (·.setIfInBounds j u))} :=
  I.lstUpd w f (uD d n j u) (r.set J j) (by rw [ŕ];exact D) s.toks
 by_cases h0:0<=k
 .have l:k.toNat=j:=by
   rw [seqIndex_of h0 y] at h1
   exact Δ h1
  exact PySem.W.ki_setAt f h0 ω (by rw [Ű,← g];exact y) (by rw [l];exact ⟨_,z,q⟩)
 .have l:(k+(d.toArray.size:Int)).toNat=j:=by
   rw [seqIndex_neg ω x] at h1
   rw [Ű,← g]
   exact Δ h1
  exact PySem.W.ki_setBack f ω (by rw [Ű,← g];exact x) ω (by rw [l];exact ⟨_,z,q⟩)
def qQ(lo d:Option Int)(n:Nat):(sliceBounds lo d none n).1=((HT.sIx n 0 lo:Nat):Int)/\(sliceBounds lo d none n).2.1=((HT.sIx n n d:Nat):Int)/\(sliceBounds lo d none n).2.2=1:=by
 refine ⟨?_,?_,ϱ⟩
 .cases lo with
  | none=>simp [sliceBounds,HT.sIx]
  | some i =>
   simp only [sliceBounds,HT.sIx,Option.getD_none,show (1:Int)>0 by decide,if_true]
   by_cases h:i<0
   .simp only [h,if_true]<;>lia
   .simp only [h,if_false]<;>lia
 .cases d with
  | none=>simp [sliceBounds,HT.sIx]
  | some i =>
   simp only [sliceBounds,HT.sIx,Option.getD_none,show (1:Int)>0 by decide,if_true]
   by_cases h:i<0
   .simp only [h,if_true]<;>lia
   .simp only [h,if_false]<;>lia
def pj(d:Ċ)(lo e:Option Int):slicePick d.toArray lo e none=((d.drop (HT.sIx d.length 0 lo)).take (HT.sIx d.length d.length e-HT.sIx d.length 0 lo)).toArray:=by
 obtain ⟨h1,f,g⟩:=qQ lo e d.toArray.size
 unfold slicePick
 rw [h1,f,g]
 simp only [sliceRange_one,pick_run,List.size_toArray]<;>rfl
def DX(K:ò):V->Option Int->Option Int->Hp->VK->Prop:=λx lo hi H Q=>∃a xs,x=.ref a/\NO K H a xs/\∀p,H p=none->Q (.ref p) (upd H p (.lst (bn xs lo hi)))
def dY:SlR X (DX X.K):=by
 intro g s σ H x v vl z lo e C Q I t u pl w h
 obtain ⟨a,xs,rfl,j,q⟩:=h
 cases t
 obtain ⟨k,r,f,l⟩:=I.list j
 have d:=r.length
 refine ⟨"list",_,slot_list_getitem.lookup,f.isList.typeIs,?_⟩
 refine wpAny_getItem_list_slice f.isList u pl w .none (by simp) ?_ (by rw [List.size_toArray]<;>lia)
 rw [pj,← d]
 refine ⟨.ref s.heap.objs.size,_,I.laid (t':=s.toks) (o:=.lst (bn xs lo e)) (λb y q=>ρ _ q) (ι _) ?_,ϱ,q _ (I.hok.fresh (ι _))⟩
 exact ⟨Λ (lQ xs lo e) l,_,0,(r.drop (HT.sIx xs.length 0 lo)).take (HT.sIx xs.length xs.length e-HT.sIx xs.length 0 lo),ψ _ rfl⟩
def az:cV X (.builtin "len") (λxs H Q=>∃p ys,xs=[.ref p]/\(NO X.K H p ys\/NN X.K H p ys)/\Q (.int ys.length) H):=by
 intro g s σ H xs o Q I r h
 obtain ⟨p,ys,rfl,hq,q⟩:=h
 obtain ⟨u,rfl,j⟩:=cJ r
 cases j
 have l:=jq
 rcases hq with hq | hq
 .obtain ⟨e,f,pl,k⟩:=I.list hq
  have d:=f.length
  exact Calls.call_len_list pl.isList (by simp only [List.size_toArray]<;>lia) ⟨.int ys.length,H,I.tok _,⟨s.toks+1,by rw [List.size_toArray,d]⟩,q⟩
 .obtain ⟨e,f,pl,k⟩:=I.tuple hq
  have d:=f.length
  exact len_tuple pl (by simp only [List.size_toArray]<;>lia) ⟨.int ys.length,H,I.tok _,⟨s.toks+1,by rw [List.size_toArray,d]⟩,q⟩
def bJ:cV X (.builtin "len") (λxs H Q=>∃z,xs=[.str z]/\z.length<=sizeLine/\Q (.int z.length) H):=by
 intro d s σ H xs g Q I r h
 obtain ⟨z,rfl,e,q⟩:=h
 obtain ⟨u,rfl,t,rfl⟩:=cJ r
 have f:=jq
 exact len_str ω ⟨.int z.length,H,I.tok _,⟨_,ϱ⟩,q⟩
def eh:cV X (.type "list") (λxs H Q=>∃p ys,xs=[.ref p]/\(NO X.K H p ys\/NN X.K H p ys)/\∀l,H l=none->Q (.ref l) (upd H l (.lst ys))):=by
 intro z s σ H xs J Q I r h
 obtain ⟨p,ys,rfl,hq,q⟩:=h
 obtain ⟨u,rfl,G⟩:=cJ r
 cases G
 have t:∀(d:Ċ),NQ ys d->ys.length<=sizeLine->∀(f:ñ) (j:Nat),(∀b o',s.heap.get? b=some o'->f.get? b=some o') ->
   f.get? s.heap.objs.size=some {cls:=.type "list",dict:=none,data:=.seq d.toArray j,slots:=#[]}->EP X z σ Q (.ref s.heap.objs.size) {s with heap:=f}:=λd g k f j y e =>
  ⟨.ref s.heap.objs.size,_,I.laid (t':=s.toks) y (ι _) (show NR X.prog X.w _ f _ (.lst ys) from ⟨k,d,j,g,e⟩),ϱ,q _ (I.hok.fresh (ι _))⟩
 rcases hq with hq | hq
 .obtain ⟨d,g,pl,k⟩:=I.list hq
  have x:=g.length
  obtain ⟨o,C,D,n,F⟩:=pl.isList
  exact call_list_seq p (.inl rfl) C D F (λf j y e=>t d g k f j y e) (by simp only [List.size_toArray]<;>lia)
 .obtain ⟨d,g,pl,k⟩:=I.tuple hq
  have x:=g.length
  obtain ⟨o,C,D,n,F⟩:=pl
  exact call_list_seq p (.inr rfl) C D F (λf j y e=>t d g k f j y e) (by simp only [List.size_toArray]<;>lia)
def fU:cV X (.type "tuple") (λxs H Q=>∃p ys,xs=[.ref p]/\((NO X.K H p ys/\∀l,H l=none->Q (.ref l) (upd H l (.tup ys)))\/(NN X.K H p ys/\Q (.ref p) H))):=by
 intro d s σ H xs D Q I r h
 obtain ⟨p,ys,rfl,h⟩:=h
 obtain ⟨u,rfl,y⟩:=cJ r
 cases y
 rcases h with ⟨hq,q⟩ | ⟨hq,q⟩
 .obtain ⟨f,j,pl,k⟩:=I.list hq
  have t:=j.length
  refine call_tuple_list pl.isList (λg C=>?_) (by simp only [List.size_toArray]<;>lia)
  have x:NM X d σ H {s with heap:=g}:=I.kept (t':=s.toks) C
  have z:NM X d σ (upd H g.objs.size (.tup ys)) {s with heap:=g.push {cls:=.type "tuple",data:=.seq f.toArray}} :=
   x.laid (t':=s.toks) (λb o e=>ρ _ e) (ι _) (show NR X.prog X.w _ _ _ (.tup ys) from ⟨k,f,j,IsTup.new _ _⟩)
  exact ⟨.ref g.objs.size,_,z,ϱ,q _ (x.hok.fresh (ι _))⟩
 .obtain ⟨f,j,pl,k⟩:=I.tuple hq
  exact call_tuple_same pl ⟨.ref p,H,I,ϱ,q⟩
def tyV(K:ò)(T:String)(x:V)(H:Hp):Prop:=match x with
 | .str _=>T="str"
 | .int _=>T="int"
 | .ref p=>(T="list"/\∃xs,NO K H p xs)\/(T="tuple"/\∃o,K.lookup p=some o/\o.cls=.type "tuple"/\o.dict=none) \/
   (T="dict"/\((∃kvs,H p=some (.dK kvs))\/∃kvs,H p=some (.dT kvs)))\/(T="set"/\∃S n,H p=some (.set S n))
 | _=>False
def xm{d:đ}{σ:St}{H:Hp}{s:ú}{T:String}{x:V}{v:ó}(I:NM X d σ H s)(r:NP x v)(f:tyV X.K T x H) :
  s.TypeIs v T/\∀a,v=.ref a->∃ob,s.heap.get? a=some ob/\ob.dict=none:=by
 cases x with
 | str z =>
  obtain ⟨t,rfl⟩:=r
  cases (show T="str" from f)
  exact ⟨Ī s z t,λ_ e=>nomatch e⟩
 | int i =>
  obtain ⟨t,rfl⟩:=r
  cases (show T="int" from f)
  exact ⟨typeIs_int s i t,λ_ e=>nomatch e⟩
 | ref p =>
  cases r
  rcases f with ⟨rfl,xs,hq⟩ | ⟨rfl,o,hk,hc,g⟩ | ⟨rfl,hk⟩ | ⟨rfl,S,n,hk⟩
  .obtain ⟨j,_,pl,_⟩:=I.list hq
   refine ⟨pl.isList.typeIs,λa e=>?_⟩
   cases e
   obtain ⟨o,n,e,c,g,_⟩:=pl
   exact ⟨o,e,g⟩
  .refine ⟨⟨o,I.kIn p o hk,hc⟩,λa e=>?_⟩
   cases e
   exact ⟨o,I.kIn _ o hk,g⟩
  .have z:∃o,s.heap.get? p=some o/\o.ExactDict:=by
    rcases hk with ⟨kvs,hk⟩ | ⟨kvs,hk⟩
    .obtain ⟨_,_,_,_,o,_,_,e,ex,_⟩:=I.hok p _ hk
     exact ⟨o,e,ex⟩
    .obtain ⟨_,_,_,_,o,_,_,e,ex,_⟩:=I.hok p _ hk
     exact ⟨o,e,ex⟩
   obtain ⟨o,e,ex⟩:=z
   refine ⟨⟨o,e,ex.1⟩,λa h=>?_⟩
   cases h
   exact ⟨o,e,ex.2.1⟩
  .obtain ⟨o,_,_,_,e,ex,_⟩:=I.hok p _ hk
   refine ⟨⟨o,e,ex.1⟩,λa h=>?_⟩
   cases h
   exact ⟨o,e,ex.2.1⟩
 | _=>exact False.elim f
def DP(K:ò)(T:String)(r:V->î V->Hp->VK->Prop)(to:TE):TE:=fun σ H Q=>to σ H λx H1=>tyV K T x H1/\r x [] H1 Q
def tBM(K:ò)(T:String)(r:V->î V->Hp->VK->Prop)(to:TE)(t:TA):TE:=fun σ H Q=>to σ H λx H1=>tyV K T x H1/\t σ H1 λxs H2=>r x xs H2 Q
variable {o e:ï}{es:Ą}{to:TE}{t:TA}{name:Str}{apos cpos:Pos}{T id:String}{r:V->î V->Hp->VK->Prop}
def yq(w:PlainAttrs T)(g:Slot T name id)(j:typeOf (.builtin id)=pure (.type "method_descriptor"))(y:MtR X id r)(z:PE X o to)
  (e:attributeBase o name X.env (eval o X.env)=eval o X.env:=by rfl)(f:(apos.endLine==cpos.line)=true:=by rfl):PE X (.Call (.Attribute o name apos) [] [] cpos) (DP X.K T r to):=by
 intro d s σ H Q I h
 refine wpAny_Call_method0_late e f (Zg (z d s σ H _ I h) λv t ⟨x,H1,k,l,u,q1⟩=>?_)
 obtain ⟨h1,q⟩:=xm k l u
 exact ⟨T,id,w,g,j,h1,q,ĩ rfl (PySem.evalArgs_none (y d t σ H1 x [] v [] Q k l .nil q1))⟩
def dg(P:PlainAttrs T)(k:Slot T name id)(q:typeOf (.builtin id)=pure (.type "method_descriptor"))(U:MtR X id r)(W:PE X o to)(Y:PA X (e::es) t)
  (g:attributeBase o name X.env (eval o X.env)=eval o X.env:=by rfl)
  (l:((backTo cpos (starEach (e::es) X.env)).all (λx=>!x.1)&&(backToKw cpos (keywordEach [] X.env)).all (λx=>x.1.isSome)
   && decide ((e::es).length+([]:î Keyword).length+(if ([]:î Keyword).isEmpty then 0 else 1)<30))=true:=by rfl)
  (j:(apos.endLine==cpos.line)=true:=by rfl) (Z:starEach (e::es) X.env=(false,eval e X.env)::starEach es X.env:=by rfl) (f:(backTo cpos (starEach es X.env)).any (·.1)=false:=by rfl) :
  PE X (.Call (.Attribute o name apos) (e::es) [] cpos) (tBM X.K T r to t):=by
 intro d s σ H Q I h
 refine wpAny_Call_method_late g l j rfl (Zg (W d s σ H _ I h) λv C ⟨x,H1,w,y,D,q1⟩=>?_)
 obtain ⟨h1,z⟩:=xm w y D
 refine ⟨T,id,P,k,q,h1,z,?_⟩
 have u:=Y cpos d C σ H1 _ w q1
 rw [Z] at u ⊢
 refine ĩ (by show (false||(backTo cpos (starEach es X.env)).any (·.1))=false;rw [f]<;>rfl) (Ě ?_)
 exact Zg u λF G ⟨vs,J,L,O,q2⟩=>U d G σ J x vs v F Q L y O q2
end
def MtM(X:Cx)(id:String)(r:V->î V->Hp->VK->Prop):Prop :=
 ∀(pins:đ) (s:ú) (σ:St) (H:Hp) (x:V) (xs:î V) (v:ó) (us:Ċ) (Q:VK),NM X pins σ H s->NP x v->NQ xs us->r x xs H Q ->
  wpAny (model X.prog X.w) X.A (call (.builtin id) (v::us)) (EP X pins σ Q) X.xe s
theorem NQ.one:∀{x:V} {us:Ċ},NQ [x] us->∃u,us=[u]/\NP x u
 | _,_,.cons r .nil=>⟨_,rfl,r⟩
theorem NQ.zero:∀{us:Ċ},NQ [] us->us=[]
 | _,.nil=>rfl
def NQ.dropLast{xs:î V}{us:Ċ}(h:NQ xs us):NQ xs.dropLast us.dropLast:=by
 induction h with
 | nil=>exact .nil
 | cons r t ih =>
  cases t with
  | nil=>exact .nil
  | cons q t'=>exact .cons r ih
def uQ{α:Type}(l:î α):l.eraseIdx (l.length-1)=l.dropLast:=by
 induction l with
 | nil=>rfl
 | cons a r ih =>
  cases r with
  | nil=>rfl
  | cons b r =>
   have e:(a::b::r).length-1=((b::r).length-1)+1:=by
    have h1:(a::b::r).length=r.length+2:=rfl
    have d:(b::r).length=r.length+1:=rfl
    lia
   rw [e,List.eraseIdx_cons_succ,ih]
   all_goals rfl
section
variable {X:Cx}{pins:đ}{σ:St}{H:Hp}{s:ú}{l b:ø}{xs ys zs:î V}
def NM.lset{d its':Ċ}{n:Nat}{f:û->û}{t':Nat}(I:NM X pins σ H s)(j:H l=some (.lst xs))
  (e:s.heap.get? l=some {cls:=.type "list",data:=.seq d.toArray n})(k:f d.toArray=its'.toArray)(o:NQ ys its')(hz:ys.length<=sizeLine) :
  NM X pins σ (upd H l (.lst ys)) {s with heap:=s.heap.update l (Obj.mapSeq f),toks:=t'}:=by
 have q:=PySem.IsL.update e f
 rw [k] at q
 refine I.write (x:=l) (e:=l) (j▸trivial) (.inl rfl) (λr u g h=>(Š s.heap (Obj.mapSeq f) (Ne.symm g)).trans h) ⟨_,q⟩ ?_
 exact ⟨hz,its',_,o,q⟩
def NM.lnew{its:Ċ}{t':Nat}(I:NM X pins σ H s)(hv:NQ ys its)(hz:ys.length<=sizeLine) :
  NM X pins σ (upd H s.heap.objs.size (.lst ys)) {s with heap:=s.heap.push {cls:=.type "list",data:=.seq its.toArray},toks:=t'} :=
 I.laid (λ_ _ q=>ρ _ q) (ι _) ⟨hz,its,0,hv,ψ _ rfl⟩
def NM.fresh(I:NM X pins σ H s):H s.heap.objs.size=none:=I.hok.fresh (ι _)
def NM.lstM(I:NM X pins σ H s)(f:H l=some (.lst xs)):xs.length<=sizeLine/\∃(d:Ċ) (n:Nat),NQ xs d/\xs.length=d.length/\s.heap.get? l=some {cls:=.type "list",data:=.seq d.toArray n}:=by
 obtain ⟨z,d,n,r,e⟩:=I.hok l _ f
 exact ⟨z,d,n,r,r.length,e⟩
end
section
variable {X:Cx}
def AA:V->î V->Hp->VK->Prop:=λx vs H Q=>∃l xs y,x=.ref l/\vs=[y]/\H l=some (.lst xs)/\xs.length<sizeLine/\Q .non (upd H l (.lst (xs++[y])))
def cE:MtM X "list.append" AA:=by
 intro g s σ H x vs v C Q I k o h
 obtain ⟨l,xs,y,rfl,rfl,f,t,q⟩:=h
 cases k
 obtain ⟨u,rfl,j⟩:=o.one
 obtain ⟨z,d,n,r,w,e⟩:=I.lstM f
 refine ę F.slot_list_append ⟨_,e,ϱ⟩ F.entry_list_append (F.args_list_append_2 _ _) (PySem.list_append l d.toArray n u (by rw [Ű];lia)) ⟨e,?_⟩
 refine ⟨.non,_,I.lset (its':=d++[u]) f e (by simp) (r.append (.cons j .nil)) ?_,ϱ,q⟩
 rw [Ž,Ŝ]
 lia
def Fb:V->î V->Hp->VK->Prop:=λx vs H Q=>∃l xs y,x=.ref l/\vs=[]/\H l=some (.lst xs)/\xs[xs.length-1]?=some y/\Q y (upd H l (.lst xs.dropLast))
def C9:MtM X "list.pop" Fb:=by
 intro k s σ H x vs v J Q I D G h
 obtain ⟨l,xs,y,rfl,rfl,j,o,q⟩:=h
 cases D
 have f:=G.zero
 subst f
 obtain ⟨z,d,n,r,t,e⟩:=I.lstM j
 obtain ⟨u,w,C⟩:=r.get o
 have g:d.toArray[d.toArray.size-1]?=some u:=by
  show d.toArray[d.length-1]?=some u
  rw [← ġ,← t]
  exact w
 refine ę F.slot_list_pop ⟨_,e,ϱ⟩ F.entry_list_pop (F.args_list_pop_1 _) (MeetsSeq.list_pop_last l d.toArray n u g (by rw [Ű];lia)) ⟨e,?_⟩
 refine ⟨y,_,I.lset (its':=d.dropLast) j e ?_ r.dropLast ?_,C,q⟩
 .show d.toArray.eraseIdxIfInBounds (d.toArray.size-1)=d.dropLast.toArray
  rw [Ű,List.eraseIdxIfInBounds_toArray,uQ]
 .rw [List.length_dropLast]
  lia
def Fd:R2:=λx y H Q=>∃l b xs zs,x=.ref l/\y=.ref b/\H l=some (.lst xs)/\H b=some (.lst zs)/\xs.length+zs.length<=sizeLine/\∀p,H p=none->Q (.ref p) (upd H p (.lst (xs++zs)))
def uv:OpR X (binaryOp .Add) Fd:=by
 intro g s σ H x y v u Q I D F h
 obtain ⟨l,b,xs,G,rfl,rfl,j,k,J,q⟩:=h
 cases D
 cases F
 obtain ⟨z,f,n,r,K,e⟩:=I.lstM j
 obtain ⟨L,d,O,o,t,w⟩:=I.lstM k
 refine PySem.P.add_list e w ?_ (by rw [Ű,Ű];lia)
 have C:f.toArray++d.toArray=(f++d).toArray:=by simp
 rw [C]
 exact ⟨.ref _,_,I.lnew (t':=s.toks) (r.append o) (by rw [Ž];lia),ϱ,q _ I.fresh⟩
end
end L2
namespace Att
open PySem PySem.W PySem.Calls PyProof.Rows
def mh{P:Params}{h:ñ}:∀(ns:ć) (vs:Ċ),WellAll P h vs (ns.map WData.int)->IntsAre vs ns:=by
 intro ns
 induction ns with
 | nil =>
  intro vs w
  rw [List.map_nil] at w
  cases w
  exact .nil
 | cons n ns ih =>
  intro vs w
  rw [Ŗ] at w
  cases w with
  | cons a b =>
   cases a
   exact .cons _ _ (ih _ b)
def wv{l:OpenLaw}{n:Nat}(z:l.most=some n){P:Params}{h:ñ}{args:î WData}{e:Ċ}
  (f:l.row.toRowW.claim.pre args=true)(t:WellAll P h e args) :
  ∃a vs ns,e=[Value.ref a]/\args=[WData.list (ns.map WData.int)]/\h.get? a=some {cls:=.type "list",data:=.seq vs.toArray}/\IntsAre vs ns/\ns.length<=n:=by
 have o:WShape.hasAll [] args [.list .int]=true:=(pre_splitW f).1
 have u:l.pre.holds [] {args:=args}=true:=(pre_splitW f).2
 obtain ⟨d,r,rfl,h1,w⟩:=hasAllW_cons o
 obtain rfl:=hasAllW_nil w
 obtain ⟨xs,rfl,x⟩:=hasW_list h1
 obtain ⟨ns,rfl⟩:=items_int x
 have g:ns.length<=n:=by
  unfold OpenLaw.pre at u
  have j:(WTm.not (.lt (.lit (.int (n:Int))) (.len (.arg 0)))).holds [] {args:=[.list (ns.map .int)]}=true:=by
   have j:=(holds_andW u).1
   rw [z] at j
   exact j
  have k:=condW_of j (w_not (w_lt w_lit (w_len_list (w_arg rfl))))
  rw [ν] at k
  refine Nat.le_of_not_lt λq=>?_
  have y:(n:Int)<((ns.length:Nat):Int):=by lia
  first
   | (rw [τ y] at k;exact absurd k ζ)
   | (simp at k;lia)
 cases t with
 | cons w1 w2 =>
  cases w2
  cases w1 with
  | list ho hall=>exact ⟨_,_,ns,rfl,rfl,ho,mh ns _ hall,g⟩
def wz(l:OpenLaw)(args:î WData):l.row.toRowW.claim.post args (.bool true) args=true :=
 postW_of (r:=l.row.toRowW) (X:=(true==true))
  (show WShape.has [] (.bool true) .bool=true by first | rfl | decide | simp [WShape.has,WShape.arms,WShape.armsAll])
  (show (WTm.eq .res (.lit (.bool true))).value [] {args:=args,res:=some (.bool true),after:=args}=some (.bool (true==true)) from w_eq_bool (w_res rfl) w_lit) rfl
def tJ{l:OpenLaw}{n:Nat}{q:ù}{loose:Ĉ}{XP:(ď)->ñ->Prop}{YP:ö->ñ->Prop}{d:DefRec}
  (hn:l.most=some n)(I:d.params.defaults=[])
  (call:∀(w:ö) (y e:ú) (mg z:ď) (t:ø) (o:Obj) (C x h:ó) (a:ø) (vs:Ċ) (ns:ć),
   Ground q loose [] XP w y mg z e.heap->YP w e.heap ->
   e.heap.get? t=some o->o.data=.func (docDef d.name d.params d.body d.scope C x h)->e.heap.CodeRec x d.name->mg d.name=some (.ref t) ->
   e.heap.get? a=some {cls:=.type "list",data:=.seq vs.toArray}->IntsAre vs ns->ns.length<=n->e.gens=#[] ->
   codeAny (model l.prog w) callerA (.call (.ref t) ⟨[.ref a],[]⟩) (λr s'=>r=.ok (.ret (.bool true))/\OldK e.heap s'.heap/\s'.os=e.os/\AllBare s'.gens) e) :
  WalkO q loose XP YP l.row.toRowW d [] (λf vs=>PySem.call f vs):=by
 intro w y e mg z G Y t o C x h Z kV ho hd D J F hg K L as u O a3 H a4
 obtain rfl:Z=.none:=Dflts.none J I
 obtain rfl:kV=.none:=Dflts.noKw J
 obtain ⟨a,vs,ns,rfl,rfl,j,g,k⟩:=wv hn u H
 refine enter_call (Ł (call w y e mg z t o C x h a vs ns G Y ho (fd_plain hd) D F j g k hg) λr s' W=>?_)
 obtain ⟨rfl,P,Q,U⟩:=W
 exact ⟨.inl ⟨.bool true,.bool true,[],ϱ,λ_=>rfl,.bool true,wz l _,λ_=>⟨List.Pairwise.nil,λ_ X=>(nomatch X)⟩⟩,P,Q,U⟩
section
variable {prog:ù}{w:ö}{A:ô}{E:Đ}{s:ú}{K:ò}
end
end Att
namespace L2
open PySem PySem.Spec PyProof.Rows
theorem pH:∀{vs:Ċ} {ns:ć},IntsAre vs ns->NQ (ns.map V.int) vs
 | _,_,.nil=>.nil
 | _,_,.cons n t h=>.cons ⟨t,rfl⟩ (pH h)
def inClass(s:ð)(j:Nat):ð:=match s with
 | .ClassDef _ _ _ body _ _ _ _ _ _ _=>body.getD j (.Pass ⟨0,0,0,0⟩)
 | _=>.Pass ⟨0,0,0,0⟩
def NG(s:ð):Arguments:=match s with
 | .FunctionDef _ a _ _ _ _ _ _ _ _=>a
 | _=>{posonlyargs:=[],args:=[],vararg:=none,kwonlyargs:=[],kw_defaults:=[],kwarg:=none,defaults:=[]}
def NF(s:ð):î ð:=match s with
 | .FunctionDef _ _ b _ _ _ _ _ _ _=>b
 | _=>[]
def NE(s:ð):Scope:=match s with
 | .FunctionDef _ _ _ _ _ _ sc _ _ _=>sc
 | _=>{kind:=.function,names:=[],isGenerator:=false,isCoroutine:=false}
abbrev Za:CXT:=λ_ _ _ _ _ _=>False
abbrev E0:XK:=λ_ _ _=>False
def bE{X:Cx}:b8 Za X E0:=λ_ _ _ _ _ _ _ h=>h.elim
structure Fun(K:ò)(x qual:Str)(st:ð)(f:ø)(fd:õ):Prop where
 ex:∃(oc:ó) (od:Option ø) (kV doc pm:ó) (an:Option ø) (cdv ct:ó) (osl:Array (ý)),
  fd=PySem.W.fnOf x qual (NG st) (NF st) (NE st) .none kV doc pm an cdv ct/\K.lookup f=some ⟨oc,od,.func fd,osl⟩/\PySem.W.codeIn K cdv qual=true
 kp:PySem.W.keepIn K (.ref f)=true
section
variable {P:ù}{w:ö}{K:ò}{mg:ď}{base:ñ}
def Fun.ok{x e:Str}{st:ð}{f:ø}{r:õ}{N ps:Ĉ}{k:Nat}{sp:Sp}(F:Fun K x e st f r)(S:ag N ps (NE st))(len:∀vs H Q E,sp vs H Q E->vs.length=ps.length)
  (j:∀(g:ó) (A:ô) (d:ą) (s:ú) (H:Hp) (vs:î V) (Q:VK) (E:XK),NU k (A.deeper (envOfC e (NE st) s.heap.objs.size f g))->sp vs H Q E ->
   ∃t,PSs (gW Za P w K mg base N e (NE st) f g A d s H E).nox (NF st) t/\t {nx:=λ_ H'=>Q .non H',rt:=Q} (start N vs) H):NH P w K mg base Za (k+1) f r ps sp:=by
 obtain ⟨D,G,kV,u,I,J,g,L,y,rfl,z,l⟩:=F.ex
 refine vU z l S len λA d s H vs Q E C o=>?_
 obtain ⟨t,h,q⟩:=j g A d s H vs Q E C o
 exact ⟨t,h.nox,q⟩
def Fun.oj{x qual:Str}{st:ð}{f:ø}{fd:õ}{N ps:Ĉ}{k:Nat}{sp:Sp}(F:Fun K x qual st f fd)(S:ag N ps (NE st))
  (hbody:∀(cdv:ó) (A:ô) (outer:ą) (s:ú) (H:Hp) (vs:î V) (Q:VK) (E:XK),NU k (A.deeper (envOfC qual (NE st) s.heap.objs.size f cdv))->sp vs H Q E ->
   ∃t,PSs (gW Za P w K mg base N qual (NE st) f cdv A outer s H E).nox (NF st) t/\t {nx:=λ_ H'=>Q .non H',rt:=Q} (start N vs) H) (len:∀vs H Q E,sp vs H Q E->vs.length=ps.length:=by intros;rename_i h;cases h;subst_vars;rfl):NH P w K mg base Za (k+1) f fd ps sp:=F.ok S len hbody
def Fun.binds{x d:Str}{st:ð}{f:ø}{o:õ}{ps:Ĉ}(F:Fun K x d st f o)
  (h:∀(kV e j:ó) (k:Option ø) (g l:ó) (us:Ċ),us.length=ps.length->bindArgs (PySem.W.fnOf x d (NG st) (NF st) (NE st) .none kV e j k g l) ⟨us,[]⟩=pure (ps.zip us)):NT K o ps []:=by
 obtain ⟨t,u,kV,e,j,k,g,l,q,rfl,w,r⟩:=F.ex
 exact .all (h kV e j k g l)
def oS{x qual:Str}{st:ð}{f:ø}{oc:ó}{od an:Option ø}{osl:Array (ý)}{kV doc pm cdv ct:ó}(l:K.lookup f=some ⟨oc,od,.func (PySem.W.fnOf x qual (NG st) (NF st) (NE st) .none kV doc pm an cdv ct),osl⟩)
  (c:PySem.W.codeIn K cdv qual=true)(k:PySem.W.keepIn K (.ref f)=true):Fun K x qual st f (PySem.W.fnOf x qual (NG st) (NF st) (NE st) .none kV doc pm an cdv ct):=⟨⟨oc,od,kV,doc,pm,an,cdv,ct,osl,ϱ,l,c⟩,k⟩
end
section
variable {X:Cx}
def pv(i:Nat){x:Str}{pos:Pos}(hN:X.N[i]?=some x:=by rfl)(hv:Vis X.env.scope x:=by first | exact Or.inl rfl | exact Or.inr (Or.inl rfl) | exact Or.inr (Or.inr rfl))(hd:(x==("__debug__":Str))=false:=by decide)
  (hcd:(x==("__classdict__":Str))=false:=by decide):PE X (.Name x pos) (jx i):=ym hN hv hd hcd
end
def a8{A B:Prop}(h:B):if false=true then A else B:=by
 exact ŵ ű▸h
def bx{A B:Prop}(h:A):if true=true then A else B:=by
 exact ů rfl▸h
def aP{c A B:Prop} [Decidable c](h1:c->A)(d:¬c->B):if c then A else B:=by
 by_cases h:c
 .exact ů h▸h1 h
 .exact ŵ h▸d h
def vQ{c A B:Prop} [Decidable c](hc:c)(h:B):if (!decide c)=true then A else B:=by
 rw [τ hc]
 exact a8 h
def NI(H H':Hp):Prop:=∀b o,H b=some o->H' b=some o
def NI.refl(H:Hp):NI H H:=λ_ _ h=>h
abbrev NC:=@NI.refl
def NI.trans{H H1 H2:Hp}(a:NI H H1)(b:NI H1 H2):NI H H2:=λc o h=>b c o (a c o h)
def NI.seq{K:ò}{H H':Hp}{a:ø}{xs:î V}(e:NI H H')(h:NO K H a xs):NO K H' a xs:=by
 rcases h with (h | ⟨o,h⟩) | h
 .exact .inl (.inl (e _ _ h))
 .exact .inl (.inr ⟨o,e _ _ h⟩)
 .exact .inr h
end L2
section
set_option maxHeartbeats 0
open PySem PySem.W PyProof.Rows
open PySem.Challenge
local macro_rules | `(tactic|trivial)=>`(tactic|(delta pw_pactroom_k82_papers_that_lie;dsimp only [List.take,List.drop];exact rfl))
noncomputable def zqa:List Stmt:=by
 refine (?g:∀s,pw_pactroom_k82_papers_that_lie.main.body.take 22=s->_) ?s ?h
 case h=>trivial
 exact λs _=>s
noncomputable def zqb:List Stmt:=by
 refine (?g:∀s,(pw_pactroom_k82_papers_that_lie.main.body.drop 22).take 22=s->_) ?s ?h
 case h=>trivial
 exact λs _=>s
noncomputable def zqc:List Stmt:=by
 refine (?g:∀s,(pw_pactroom_k82_papers_that_lie.main.body.drop 44).take 22=s->_) ?s ?h
 case h=>trivial
 exact λs _=>s
noncomputable def zqd:List Stmt:=by
 refine (?g:∀s,(pw_pactroom_k82_papers_that_lie.main.body.drop 66)=s->_) ?s ?h
 case h=>trivial
 exact λs _=>s
noncomputable def zqz:Scope:=by
 refine (?g:∀s,pw_pactroom_k82_papers_that_lie.main.scope=s->_) ?s ?h
 case h=>trivial
 exact λs _=>s
lay_quick zqa zqb zqc zqd zqz
noncomputable abbrev zqy (b:List Stmt)(s:Scope):Program:={pw_pactroom_k82_papers_that_lie with main:={pw_pactroom_k82_papers_that_lie.main with body:=b,scope:=s}}
noncomputable def PySem.W.Fast.tw16156563086036750675:Program:=zqy (Fast.tw2638327541891906425++(Fast.tw17094292761834972293++(Fast.tw5260758567243370705++(Fast.tw7061010904765207459)))) Fast.tw7673597021947572858
theorem PySem.W.Fast.te16156563086036750675:pw_pactroom_k82_papers_that_lie=Fast.tw16156563086036750675:=by
 show zqy (zqa++(zqb++(zqc++(zqd)))) zqz=_
 rw [Fast.te2638327541891906425,Fast.te17094292761834972293,Fast.te5260758567243370705,Fast.te7061010904765207459,Fast.te7673597021947572858]
 rfl
lay_quick PySem.Challenge.pw_pactroom_k82_papers_that_lie
namespace Q
noncomputable section
noncomputable abbrev ad:Value:=Value.bool true
noncomputable abbrev ms:Value:=Value.bool false
noncomputable abbrev H{α:Type}(l:List α):Array α:=Array.mk l
noncomputable abbrev I{α:Type}:Array α:=Array.mk []
noncomputable abbrev L:Value:=Value.none
noncomputable abbrev r(n:Nat):Value:=Value.ref n
noncomputable abbrev V(n:Nat):Option Value:=some (Value.ref n)
noncomputable abbrev u(a:Int)(n:Nat):Value:=Value.int a n
noncomputable abbrev y(q:Str)(n:Nat):Value:=Value.str q n
noncomputable abbrev t(P:Params)(q:Str)(n:Nat)(v:Value):DictEntry:=DictEntry.mk (PyData.keyHash P q) (Value.str q n) v
noncomputable abbrev e(o:Obj)(a b:BT):BT:=.node o a b
noncomputable abbrev g(o:Obj):BT:=.node o .nil .nil
noncomputable abbrev q5(l:List Nat):Str:=@Str.mk (Array.mk l)
noncomputable def mq:Nat->Nat->List Nat:=fun k=>Nat.rec (fun _=>[]) (fun _ f n=>bif n.beq 0 then [] else n%128::f (n/128)) k
noncomputable abbrev x(n:Nat):Str:=@Str.mk (Array.mk (mq 999 n))
abbrev mo:=x 35350842279982780
abbrev aS:=x 2357460733860917196365705647
abbrev gl:=x 53901867955744735
abbrev gp:=x 53901559791857631
abbrev J:=x 286908004805551803757820965104
abbrev aw:=x 421105403244511
abbrev gv:=x 113039760542812094607327
abbrev gr:=x 883130438894441148383
abbrev gs:=x 53901488956436447
abbrev gw:=x 30344151541145318921183520387039
abbrev gG:=x 14469218985635115783729119
abbrev gy:=x 53901559540068319
abbrev gI:=x 883122557733039566815
abbrev a0:=x 29219126239
abbrev bb:=x 8277558478232940752
abbrev a7:=x 456806767081422
abbrev a2:=x 3463298922446
abbrev aW:=x 4018155108302
abbrev aY:=x 447630577776590
abbrev bd:=x 7766323518386862030
abbrev ba:=x 31359875022
abbrev a9:=x 226031564
abbrev aZ:=x 211317458
abbrev a4:=x 232288973
abbrev a5:=x 3498214716483
abbrev gL:=x 9852148735968327477039162336552523458509
abbrev gO:=x 771200664775530178509
abbrev gP:=x 771639167501794076621
abbrev gM:=x 5803756897170679757
abbrev gD:=x 372306437449676
abbrev gx:=x 20297311810
abbrev gC:=x 372134630433488
abbrev gR:=x 18665907412
abbrev a1:=x 57336776418130409
abbrev be:=x 957993226293602710258
abbrev aV:=x 487352597740009
abbrev a8:=x 3944333472466
abbrev gF:=x 77016281100972308752576328605828966349
abbrev gN:=x 2870549177427
abbrev aC:=x 236550739
abbrev aU:=x 63498605718876867
abbrev a3:=x 63498605704179924
abbrev aT:=x 63498605722890957
abbrev bf:=x 496082857196243
abbrev a6:=x 63498605704361159
abbrev bc:=x 496082857046593
abbrev ce:=x 107
abbrev ah:=x 883123151916293124063
abbrev am:=x 36729369500489608925993064001776
abbrev aE:=x 14469089781839015725264863
abbrev af:=x 30344074158132277796980072755167
abbrev ai:=x 133454983862861831018029446609853876543483871
abbrev b7:=x 113039831549272488013791
abbrev K:=x 53902074141372383
abbrev N:=x 215692019
abbrev aX:=x 14945
abbrev cN:=x 30344170127197689232326175045582
abbrev cI:=x 3884053776281304221671057129748430
abbrev cO:=x 63636337070592888368290944145893488590
abbrev cR:=x 237063829118731947127516280782
abbrev aq:=x 286677238029438057227736379632
abbrev ap:=x 211530987
abbrev cg:=x 3497399218914
abbrev cm:=x 3982185314275
abbrev b6:=x 211498996
abbrev gJ:=x 31381566694
abbrev gB:=x 245166316
abbrev cY:=x 1852061164990093336914753484
abbrev cM:=x 7268149382618871756
abbrev gH:=x 30815173231
abbrev cU:=x 120169722130345171154892
abbrev cW:=x 136826845531393429665740
abbrev c0:=x 7267050180228741068
abbrev cf:=x 53902072520191967
abbrev cL:=x 7268149382604157650
abbrev cT:=x 7268149382625129165
abbrev cG:=x 119081359484622508422211
abbrev mD:=x 27881272436
abbrev az:=x 36702114105103104032799375028464
abbrev gK:=x 232387827
abbrev ci:=x 3944329476846
abbrev cj:=x 3978724962544
abbrev ch:=x 68604088087507698
abbrev cl:=x 1069111071925903848178
abbrev ck:=x 1105640911514562491122
abbrev aB:=x 135526128861644586513138
abbrev cd:=x 1068672569199639950066
abbrev cK:=x 245248756
abbrev cF:=x 30344170127197689232252353409746
abbrev cP:=x 2239823032340562386324320978
abbrev gE:=x 236548836
abbrev cS:=x 38620668193374044242816710243026
abbrev gA:=x 31115227376
abbrev cQ:=x 601856028142896514749776892190552786
abbrev cH:=x 622420499637819896904922423998575314
abbrev gz:=x 31379192435
abbrev mC:=x 509276531061990
abbrev cX:=x 76294427930033547883232881270010180306
abbrev mB:=x 255570157
abbrev mA:=x 3465723654882
abbrev oC:=x 31102465267
abbrev dw:=x 601609173053571134981422008013189842
abbrev ng:=x 27321202288
abbrev m9:=x 213577972
abbrev da:=x 8648
abbrev nS:=x 232289005
abbrev ns:=x 1800947
abbrev nG:=x 1089736
abbrev nE:=x 213759207
abbrev oa:=x 1651297
abbrev ob:=x 1417672
abbrev oS:=x 243103344
abbrev g1:=x 86
abbrev mQ:=x 211383022
abbrev av:=x 27355084776
abbrev X:=x 226031596
abbrev U:=x 7340233137581554291
abbrev aH:=x 226029794
abbrev aI:=x 213695219
abbrev R:=x 443304203876467
abbrev dM:=x 939913555950404467283
abbrev dp:=x 7766386514046057043
abbrev aM:=x 211529960
abbrev aO:=x 57912369945981174
abbrev dE:=x 252208490167425953714132318803
abbrev dH:=x 7766324597797517907
abbrev c7:=x 7342511827917044307
abbrev dJ:=x 15231816462629950096767571
abbrev b9:=x 27352724599
abbrev dC:=x 228274915
abbrev c1:=x 497158883364006940380097204371272387
abbrev dA:=x 252306123992128336559777460931
abbrev c9:=x 2084773505370203727553294548
abbrev du:=x 67701701065164502231488002642434257108
abbrev c2:=x 4088759597854377613483047260975316
abbrev dL:=x 2084773505370203727572005581
abbrev dm:=x 67701701065164502231488002642452968141
abbrev dG:=x 4088759597854377613483047279686349
abbrev dy:=x 1964012
abbrev dl:=x 219804904
abbrev dt:=x 3884053776281304221719509409168083
abbrev c4:=x 1971141593688502629373278931
abbrev dc:=x 16287293010704716621642451
abbrev de:=x 528919539571597673683500020644149971
abbrev c5:=x 31943434358237325105336306858707
abbrev dB:=x 2084773505370203727553475783
abbrev dh:=x 67701701065164502231488002642434438343
abbrev dk:=x 1970990510712305318935508167
abbrev dr:=x 4088759597854377613483047261156551
abbrev ca:=x 4015504750305
abbrev dz:=x 3884053776281304221719509409018433
abbrev df:=x 16287293010704716621492801
abbrev dD:=x 528919539571597673683500020644000321
abbrev dx:=x 16287163162920260275352129
abbrev dd:=x 31943434358237325105336306709057
abbrev aj:=x 21447258922849763627313742040286792876497636956187911031055399645420
abbrev b1:=x 63498605733705296
abbrev bK:=x 63498605701984974
abbrev bt:=x 8127822628021367538
abbrev bN:=x 8127822628023513325
abbrev bA:=x 61880093449466093
abbrev n8:=x 367874045878477
abbrev mH:=x 771343702442210813901
abbrev bB:=x 244904144
abbrev bx:=x 8414843438303310578
abbrev bo:=x 8423287687604630258
abbrev bv:=x 456806780156660
abbrev bU:=x 226228204
abbrev bX:=x 57362821093521897
abbrev bF:=x 119081358037559973509100
abbrev bu:=x 3463341176432
abbrev b5:=x 4014130854377
abbrev bT:=x 137924485935528190409193
abbrev bz:=x 137924485918009830406633
abbrev b3:=x 137924485913575817738729
abbrev bZ:=x 252306123995661392162582213862
abbrev bn:=x 15242413828807678733562088
abbrev b0:=x 487624785099379
abbrev bV:=x 1915632
abbrev bH:=x 7843466381129971295
abbrev bR:=x 929683040243566540383
abbrev b4:=x 129586496253215783810655
abbrev bM:=x 137971692635966720734815
abbrev bS:=x 8127822628061214303
abbrev bp:=x 1068815606866360432223
abbrev bJ:=x 8426683116990002783
abbrev bG:=x 7340233137596167775
abbrev br:=x 7267005800625239647
abbrev bw:=x 7771391882100766303
abbrev bs:=x 7766324610965468767
abbrev bC:=x 18400624903063726963848799
abbrev bY:=x 17498525145071818802493023
abbrev bP:=x 1078262421209535247967
abbrev bO:=x 528635261668969968122959897116046943
abbrev bI:=x 4696919712736355418358583181997663
abbrev bL:=x 15231816252086680685147743
abbrev b2:=x 1023208752676729288287
abbrev bW:=x 7342485246647498335
abbrev bD:=x 56724998860600927
abbrev bq:=x 930329895887808525919
abbrev bQ:=x 15231881675267104671561311
abbrev bE:=x 1962220
abbrev dI:=x 497158883364006940380097204386100816
abbrev dn:=x 67701701065164502231488002642463782480
abbrev dF:=x 4088759597854377613483047290500688
abbrev c3:=x 497158883364006940380097204354380494
abbrev dv:=x 67701701065164502231488002642432062158
abbrev dq:=x 4088759597854377613483047258780366
abbrev gT:=x 211597303
abbrev n2:=x 3944367338220
abbrev nL:=x 509719678253806
abbrev oo:=x 211497704
abbrev nr:=x 3463311995127
abbrev aF:=x 286985051367641326626329391344
abbrev gS:=x 3944354656493
abbrev cA:=x 31106628211
abbrev c6:=x 1852061164990093336933626064
abbrev db:=x 15231816462629950105120976
abbrev cB:=x 244904176
abbrev g2:=x 31083902195
abbrev cp:=x 236550771
abbrev aN:=x 36729173956830519980092603035888
abbrev cq:=x 31098352355
abbrev op:=x 3501169685218
abbrev ol:=x 32721680229
abbrev mT:=x 31081607400
abbrev n3:=x 509273563493475
abbrev m0:=x 3498214716515
abbrev nQ:=x 137989276334399845594719
abbrev cz:=x 3702244537951
abbrev bg:=x 252284354984688898330727052895
abbrev g3:=x 135526128861644626359903
abbrev gU:=x 57345570095265375
abbrev gV:=x 1058801290007509759583
abbrev nM:=x 509924269913695
abbrev gY:=x 1068034746902453450335
abbrev od:=x 7270427996206954079
abbrev nl:=x 939832460899350247007
abbrev nB:=x 252284354984973254577658295903
abbrev c8:=x 7268114108346037855
abbrev cn:=x 1068531250619429189215
abbrev nU:=x 67483170382575199
abbrev b8:=x 3874043229791
abbrev di:=x 32292397438105030896414786877023
abbrev cr:=x 529078639625899876449033237674096223
abbrev gX:=x 1067955898346645255775
abbrev g0:=x 17498506399374862827681375
abbrev oR:=x 68547669436954207
abbrev ds:=x 513532042442335
abbrev m7:=x 1021915634506049025631
abbrev no:=x 120197742414568441280095
abbrev n5:=x 1124308371655550858847
abbrev oe:=x 7268149395797341791
abbrev dK:=x 252284354985272115066587084383
abbrev nK:=x 135526994027727744955999
abbrev n4:=x 994882227815145043551
abbrev n1:=x 8423868298503419487
abbrev dj:=x 252284354984187917196244579935
abbrev gZ:=x 101
noncomputable abbrev ay:Value:=(@Value.type SL.s2766695959194262286x5)
noncomputable abbrev cD:Value:=(@Value.type SL.s5856160107412720595x4)
noncomputable abbrev ml:Value:=(@Value.type SL.s658472552662922059x5)
noncomputable abbrev aa:Value:=(@Value.type SL.s14018661285674007319x4)
noncomputable abbrev gk:Value:=(@Value.builtin SL.s7097527257260152453x26)
noncomputable abbrev mn:Value:=(@Value.type SL.s7174869446012820540x8)
noncomputable abbrev aL:Value:=(@Value.type SL.s6070975301684473832x10)
noncomputable abbrev gm:Value:=(@Value.type SL.s11030030927630378310x26)
noncomputable abbrev mp:Value:=(@Value.builtin SL.s10062305145149207511x16)
noncomputable abbrev ae:Value:=(@Value.type SL.s17162191345867700912x4)
noncomputable abbrev bi:Value:=(@Value.type SL.s5946037652744460706x9)
noncomputable abbrev bl:Value:=(@Value.type SL.s4278001404047624695x13)
noncomputable abbrev Y:Value:=(@Value.type SL.s2742458400755230247x6)
noncomputable abbrev bh:Value:=(@Value.builtin SL.s4209523147560561109x18)
noncomputable abbrev gQ:Value:=(@Value.type SL.s14755015743595814543x17)
noncomputable abbrev mx:Value:=(@Value.builtin SL.s10220274742760427390x26)
noncomputable abbrev mv:Value:=(@Value.type SL.s4290257624100764138x5)
noncomputable abbrev mE:Value:=(@Value.builtin SL.s4860613602091757760x24)
noncomputable abbrev au:Value:=(@Value.builtin SL.s11443829558043349243x14)
noncomputable abbrev mw:Value:=(@Value.builtin SL.s6511155373996960695x17)
noncomputable abbrev mF:Value:=(@Value.builtin SL.s12411053484034534018x21)
noncomputable abbrev Z:Program:=PySem.Challenge.pw_pactroom_k82_papers_that_lie
noncomputable abbrev aQ:Program:=PySem.W.Fast.tw16156563086036750675
theorem cb:Z=aQ:=PySem.W.Fast.te16156563086036750675
noncomputable def F(i:Nat):Stmt:=aQ.main.body.getD i (.Pass ⟨0,0,0,0⟩)
noncomputable def A(i:Nat):Stmt:=Z.main.body.getD i (.Pass ⟨0,0,0,0⟩)
noncomputable def B(k j:Nat):Stmt:=L2.inClass (F k) j
noncomputable def M(k j:Nat):Stmt:=L2.inClass (A k) j
noncomputable abbrev cC(a b:Str)(s:Stmt):=FuncData.mk a b (L2.NG s) (.stmts (L2.NF s)) (L2.NE s)
section
variable (P:Params)
def h:=Obj.mk ay none (Data.seq I 0) I
def z:=Obj.mk L none (Data.fields I) I
def ak(x0:Str)(x1:Nat)(x2:Nat)(x3:Nat)(x4:Int)(x5:Nat)(x6:Nat)(x7:Int)(x8:Nat):=Obj.mk cD none (Data.fields (H [y x0 x1,y x0 x2,y aS x3,u x4 0,u 0 0,u 0 0,u 0 0,u 0 0,r x5,ms,u 181 0,r x6,L,L,L,L,u x7 0,u x4 0,y aS x8])) I
def cV:=ak mo 182 183 184 1 11 12 185 186
def al(x0:Nat)(x1:Nat)(x2:Str)(x3:Nat):=Obj.mk ml none Data.plain (H [V x0,V 3,V x1,none,some (y x2 x3),none,V 0])
def cJ:=al 13 3 gl 164
def gn:=e (boot_o_0 P) (e (boot_o_1 P) (e (boot_o_3 P) (g (boot_o_7 P)) (g h)) (e (boot_o_5 P) (g (boot_o_9 P)) (g cV))) (e (boot_o_2 P) (e (boot_o_4 P) (g (boot_o_8 P)) (g z)) (e (boot_o_6 P) (g (boot_o_10 P)) (g cJ)))
def mr:=gn P
def mg:=gn P
def n9:=Obj.mk aa none (Data.dict (H [t P gp 165 (y J 600),t P aw 166 L,t P gv 167 L,t P gr 168 gk,t P gs 169 L,t P gw 170 (r 6),t P gG 171 (r 4),t P gy 173 (y aS 172),t P gI 174 L,t P a0 193 (r 21),t P bb 213 (r 31),t P a7 229 (r 44),t P a2 245 (r 56),t P aW 270 (r 75),t P aY 295 (r 94),t P bd 320 (r 113),t P ba 345 (r 132),t P a9 408 (r 179),t P aZ 431 (r 200),t P a4 454 (r 219),t P a5 477 (r 238),t P gL 481 (u 400 480),t P gO 483 (u 2000 482),t P gP 485 (u 2000 484),t P gM 487 (u 8 486),t P gD 489 (u 100000 488),t P gx 491 (u 32 490),t P gC 493 (u 37 492),t P gR 495 (u 126 494),t P a1 502 (r 247),t P be 508 (r 252),t P aV 516 (r 259),t P a8 599 (r 318),t P gF 603 (u 40 602),t P gN 625 (r 323),t P aC 690 (r 375),t P aU 724 (r 403),t P a3 763 (r 436),t P aT 802 (r 469),t P bf 858 (r 514),t P a6 904 (r 554),t P bc 962 (r 601)]) 42) I
def oZ:=Obj.mk L none (Data.fields (H [u 1 0,u 0 0,r 20,u 5 0,u 0 0,r 27,u 7 0,u 0 0,r 40,u 9 0,u 0 0,r 52,u 11 0,u 0 0,r 64,u 15 0,u 0 0,r 83,u 19 0,u 0 0,r 102,u 23 0,u 0 0,r 121,u 28 0,u 0 0,r 140,u 45 0,u 0 0,r 189,u 49 0,u 0 0,r 208,u 53 0,u 0 0,r 227,u 66 0,u 0 0,r 246,u 68 0,u 0 0,r 251,u 78 0,u 0 0,r 258,u 81 0,u 0 0,r 265,u 148 0,u 0 0,r 329,u 167 0,u 0 0,r 385,u 175 0,u 0 0,r 411,u 185 0,u 0 0,r 444,u 195 0,u 0 0,r 477,u 213 0,u 0 0,r 522,u 226 0,u 0 0,r 562])) I
def T(x0:Str)(x1:Nat):=Obj.mk ay none (Data.seq (H [y x0 x1]) 0) I
def dY:=T ce 190
def E(x0:Str)(x1:Str)(x2:Stmt):=Obj.mk L none (Data.func (cC x0 x1 x2 0 [] L L L L none L L 0)) I
def hh:=E a0 a0 (F 0)
def G(x0:Str)(x1:Nat)(x2:Str)(x3:Nat)(x4:Nat)(x5:Int)(x6:Int)(x7:Nat)(x8:Nat)(x9:Nat)(x10:Nat)(x11:Nat)(x12:Int)(x13:Nat):=Obj.mk cD none (Data.fields (H [y x0 x1,y x2 x3,y aS x4,u x5 0,u x6 0,u 0 0,u 0 0,u 3 0,r x7,ad,u 181 0,r x8,L,r x9,r x10,r x11,u x12 0,u x5 0,y aS x13])) I
def d3:=G a0 187 a0 188 189 1 1 15 16 17 18 19 191 192
def D(x0:Str)(x1:Str)(x2:Stmt)(x3:Str)(x4:Nat)(x5:Nat):=Obj.mk mn none (Data.func (cC x0 x1 x2 3 [] L L L (y x3 x4) none (r x5) L 0)) I
def g6:=D a0 a0 (F 0) gl 164 20
def dQ:=Obj.mk ay none (Data.seq (H [aL]) 0) I
def O:=Obj.mk gm none (Data.fields (H [mp,ae])) I
def cE(x0:Nat)(x1:Nat)(x2:Str)(x3:Nat)(x4:Nat)(x5:Int)(x6:Nat)(x7:Nat)(x8:Nat):=Obj.mk aa none (Data.dict (H [t P ah x0 (y am 194),t P aE x1 (y x2 x3),t P af x4 (u x5 x6),t P ai x7 (r x8)]) 4) I
def ho:=cE P 203 205 bb 204 207 5 206 208 29
def hA:=ak bb 198 199 200 5 25 26 201 202
def hd:=al 27 24 am 194
def d1:=Obj.mk aa none (Data.dict (H [t P ah 203 (y am 194),t P af 207 (u 5 206),t P ai 208 (r 29),t P b7 210 (r 32),t P aw 211 L]) 3) I
def d4:=Obj.mk ae none (Data.cls (ClassData.mk bb [aL] [r 31,aL,bi,bl,Y] 30 bb true [] [r 44,r 56,r 75,r 94,r 113,r 132] false none false)) (H [V 22,none,some (y bb 196),some (y bb 204),some bh,some ad])
def cc(x0:Nat)(x1:Nat):=Obj.mk gQ none (Data.fields (H [y b7 x0,r x1,mx,L])) I
def dX:=cc 209 31
def ao(x0:Nat):=Obj.mk mv none (Data.fields (H [r x0,r x0,r x0])) I
def he:=ao 31
def an(x0:Nat):=Obj.mk gm none (Data.fields (H [mE,r x0])) I
def hw:=an 31
def cv(x0:Nat):=Obj.mk ay none (Data.seq (H [r x0]) 0) I
def ar:=cv 31
def g7:=cE P 221 223 a7 222 225 7 224 226 42
def hf:=ak a7 216 217 218 7 38 39 219 220
def hq:=al 40 37 am 194
def d5:=Obj.mk aa none (Data.dict (H [t P ah 221 (y am 194),t P af 225 (u 7 224),t P ai 226 (r 42),t P aw 227 L]) 2) I
def dZ:=Obj.mk ae none (Data.cls (ClassData.mk a7 [r 31] [r 44,r 31,aL,bi,bl,Y] 43 a7 true [] [] false none false)) (H [V 35,none,some (y a7 214),some (y a7 222),some bh,some ad])
def hg:=ao 44
def hi:=an 44
def hj:=cE P 237 239 a2 238 241 9 240 242 54
def hm:=ak a2 232 233 234 9 50 51 235 236
def hs:=al 52 49 am 194
def d6:=Obj.mk aa none (Data.dict (H [t P ah 237 (y am 194),t P af 241 (u 9 240),t P ai 242 (r 54),t P aw 243 L]) 2) I
def dP:=Obj.mk ae none (Data.cls (ClassData.mk a2 [r 31] [r 56,r 31,aL,bi,bl,Y] 55 a2 true [] [] false none false)) (H [V 47,none,some (y a2 230),some (y a2 238),some bh,some ad])
def ha:=ao 56
def hz:=an 56
def bk(x0:Nat)(x1:Str)(x2:Nat)(x3:Nat)(x4:Str)(x5:Nat)(x6:Nat)(x7:Int)(x8:Nat)(x9:Str)(x10:Nat)(x11:Nat)(x12:Nat)(x13:Nat):=Obj.mk aa none (Data.dict (H [t P ah x0 (y x1 x2),t P aE x3 (y x4 x5),t P af x6 (u x7 x8),t P x9 x10 (r x11),t P ai x12 (r x13)]) 5) I
def hy:=bk P 253 am 194 255 aW 254 257 11 256 K 265 72 267 73
def bm(x0:Int)(x1:Nat):=Obj.mk L none (Data.fields (H [u x0 0,u 4 0,r x1])) I
def hb:=bm 13 71
def hr:=ak aW 248 249 250 11 62 63 251 252
def ht:=al 64 61 am 194
def ab(x0:Str)(x1:Nat)(x2:Str)(x3:Nat):=Obj.mk ay none (Data.seq (H [y x0 x1,y x2 x3]) 0) I
def dV:=ab N 261 aX 262
def hp:=E K cN (B 5 0)
def d2:=G K 258 cN 259 260 13 2 66 67 68 69 70 263 264
def hk:=D K cN (B 5 0) am 194 71
def dW:=T aX 266
def bj(x0:Nat)(x1:Str)(x2:Nat)(x3:Nat)(x4:Int)(x5:Nat)(x6:Str)(x7:Nat)(x8:Nat)(x9:Nat)(x10:Nat)(x11:Nat):=Obj.mk aa none (Data.dict (H [t P ah x0 (y x1 x2),t P af x3 (u x4 x5),t P x6 x7 (r x8),t P ai x9 (r x10),t P aw x11 L]) 2) I
def dT:=bj P 253 am 194 257 11 256 K 265 72 267 73 268
def dN:=Obj.mk ae none (Data.cls (ClassData.mk aW [r 31] [r 75,r 31,aL,bi,bl,Y] 74 aW true [] [] false none false)) (H [V 59,none,some (y aW 246),some (y aW 254),some bh,some ad])
def hc:=ao 75
def hu:=an 75
def g5:=bk P 278 am 194 280 aY 279 282 15 281 K 290 91 292 92
def hn:=bm 17 90
def hl:=ak aY 273 274 275 15 81 82 276 277
def hx:=al 83 80 am 194
def dU:=ab N 286 aX 287
def g8:=E K cI (B 6 0)
def dS:=G K 283 cI 284 285 17 2 85 86 87 88 89 288 289
def g9:=D K cI (B 6 0) am 194 90
def dO:=T aX 291
def d0:=bj P 278 am 194 282 15 281 K 290 91 292 92 293
def dR:=Obj.mk ae none (Data.cls (ClassData.mk aY [r 31] [r 94,r 31,aL,bi,bl,Y] 93 aY true [] [] false none false)) (H [V 78,none,some (y aY 271),some (y aY 279),some bh,some ad])
def hB:=ao 94
def g4:=an 94
def hv:=bk P 303 am 194 305 bd 304 307 19 306 K 315 110 317 111
def ma:=bm 21 109
def id:=ak bd 298 299 300 19 100 101 301 302
def hY:=al 102 99 am 194
def f1:=ab N 311 aX 312
def ie:=E K cO (B 7 0)
def fk:=G K 308 cO 309 310 21 2 104 105 106 107 108 313 314
def kt:=D K cO (B 7 0) am 194 109
def fZ:=T aX 316
def fu:=bj P 303 am 194 307 19 306 K 315 110 317 111 318
def fa:=Obj.mk ae none (Data.cls (ClassData.mk bd [r 31] [r 113,r 31,aL,bi,bl,Y] 112 bd true [] [] false none false)) (H [V 97,none,some (y bd 296),some (y bd 304),some bh,some ad])
def hU:=ao 113
def lj:=an 113
def iE:=bk P 328 am 194 330 ba 329 332 23 331 K 340 129 342 130
def ia:=bm 25 128
def ln:=ak ba 323 324 325 23 119 120 326 327
def iQ:=al 121 118 am 194
def fb:=ab N 336 aX 337
def l5:=E K cR (B 8 0)
def fw:=G K 333 cR 334 335 25 2 123 124 125 126 127 338 339
def iv:=D K cR (B 8 0) am 194 128
def fD:=T aX 341
def fN:=bj P 328 am 194 332 23 331 K 340 129 342 130 343
def ep:=Obj.mk ae none (Data.cls (ClassData.mk ba [r 31] [r 132,r 31,aL,bi,bl,Y] 131 ba true [] [] false none false)) (H [V 116,none,some (y ba 321),some (y ba 329),some bh,some ad])
def kv:=ao 132
def lp:=an 132
def iV:=Obj.mk aa none (Data.dict (H [t P ah 355 (y aq 346),t P aE 357 (y a9 356),t P af 359 (u 28 358),t P K 368 (r 148),t P ap 375 (r 155),t P cg 383 (r 162),t P cm 391 (r 169),t P b6 398 (r 176),t P ai 401 (r 177)]) 9) I
def cZ(x0:Int)(x1:Nat)(x2:Int)(x3:Nat)(x4:Int)(x5:Nat)(x6:Int)(x7:Nat)(x8:Int)(x9:Nat):=Obj.mk L none (Data.fields (H [u x0 0,u 4 0,r x1,u x2 0,u 4 0,r x3,u x4 0,u 4 0,r x5,u x6 0,u 4 0,r x7,u x8 0,u 4 0,r x9])) I
def l6:=cZ 30 147 34 154 37 161 40 168 43 175
def i8:=ak a9 350 351 352 28 138 139 353 354
def kw:=al 140 137 aq 346
def ag(x0:Str)(x1:Nat)(x2:Str)(x3:Nat)(x4:Str)(x5:Nat):=Obj.mk ay none (Data.seq (H [y x0 x1,y x2 x3,y x4 x5]) 0) I
def fQ:=ag N 363 gJ 364 gB 365
def kU:=E K cY (B 10 0)
def fR:=G K 360 cY 361 362 30 3 142 143 144 145 146 366 367
def jx:=D K cY (B 10 0) aq 346 147
def eB:=T N 372
def kc:=E ap cM (B 10 1)
def e4:=G ap 369 cM 370 371 34 1 149 150 151 152 153 373 374
def lg:=D ap cM (B 10 1) aq 346 154
def fA:=ab N 379 gH 380
def iW:=E cg cU (B 10 2)
def et:=G cg 376 cU 377 378 37 2 156 157 158 159 160 381 382
def jB:=D cg cU (B 10 2) aq 346 161
def fo:=ab N 387 gH 388
def lN:=E cm cW (B 10 3)
def f6:=G cm 384 cW 385 386 40 2 163 164 165 166 167 389 390
def iJ:=D cm cW (B 10 3) aq 346 168
def ee:=T N 395
def iH:=E b6 c0 (B 10 4)
def fs:=G b6 392 c0 393 394 43 1 170 171 172 173 174 396 397
def lb:=D b6 c0 (B 10 4) aq 346 175
def e1:=ab gJ 399 gB 400
def eC:=Obj.mk aa none (Data.dict (H [t P ah 355 (y aq 346),t P af 359 (u 28 358),t P K 368 (r 148),t P ap 375 (r 155),t P cg 383 (r 162),t P cm 391 (r 169),t P b6 398 (r 176),t P ai 401 (r 177),t P cf 403 (r 180),t P b7 405 (r 181),t P aw 406 L]) 4) I
def e8:=Obj.mk ae none (Data.cls (ClassData.mk a9 [Y] [r 179,Y] 178 a9 true [] [r 200,r 219,r 238] false none false)) (H [none,none,some (y a9 348),some (y a9 356),some au,some ad])
def cw(x0:Nat)(x1:Nat):=Obj.mk gQ none (Data.fields (H [y cf x0,r x1,mw,mF])) I
def eW:=cw 402 179
def eJ:=cc 404 179
def jf:=ao 179
def hJ:=an 179
def aP:=cv 179
def h5:=bk P 416 aq 346 418 aZ 417 420 45 419 ap 427 197 428 198
def lP:=bm 47 196
def iP:=ak aZ 411 412 413 45 187 188 414 415
def k8:=al 189 186 aq 346
def fc:=T N 424
def kk:=E ap cL (B 11 0)
def el:=G ap 421 cL 422 423 47 1 191 192 193 194 195 425 426
def kY:=D ap cL (B 11 0) aq 346 196
def eA:=bj P 416 aq 346 420 45 419 ap 427 197 428 198 429
def ff:=Obj.mk ae none (Data.cls (ClassData.mk aZ [r 179] [r 200,r 179,Y] 199 aZ true [] [] false none false)) (H [V 184,none,some (y aZ 409),some (y aZ 417),some au,some ad])
def i4:=ao 200
def hG:=an 200
def h7:=bk P 439 aq 346 441 a4 440 443 49 442 ap 450 216 451 217
def kq:=bm 51 215
def l1:=ak a4 434 435 436 49 206 207 437 438
def iX:=al 208 205 aq 346
def eS:=T N 447
def lW:=E ap cT (B 12 0)
def f5:=G ap 444 cT 445 446 51 1 210 211 212 213 214 448 449
def jK:=D ap cT (B 12 0) aq 346 215
def fB:=bj P 439 aq 346 443 49 442 ap 450 216 451 217 452
def e9:=Obj.mk ae none (Data.cls (ClassData.mk a4 [r 179] [r 219,r 179,Y] 218 a4 true [] [] false none false)) (H [V 203,none,some (y a4 432),some (y a4 440),some au,some ad])
def lk:=ao 219
def kW:=an 219
def kp:=bk P 462 aq 346 464 a5 463 466 53 465 ap 473 235 474 236
def hV:=bm 55 234
def kh:=ak a5 457 458 459 53 225 226 460 461
def lB:=al 227 224 aq 346
def eL:=T N 470
def kA:=E ap cG (B 13 0)
def er:=G ap 467 cG 468 469 55 1 229 230 231 232 233 471 472
def lI:=D ap cG (B 13 0) aq 346 234
def eb:=bj P 462 aq 346 466 53 465 ap 473 235 474 236 475
def fT:=Obj.mk ae none (Data.cls (ClassData.mk a5 [r 179] [r 238,r 179,Y] 237 a5 true [] [] false none false)) (H [V 222,none,some (y a5 455),some (y a5 463),some au,some ad])
def kg:=ao 238
def hH:=an 238
def e6:=T mD 499
def jY:=E a1 a1 (F 23)
def fd:=G a1 496 a1 497 498 66 1 241 242 243 244 245 500 501
def kD:=D a1 a1 (F 23) az 478 246
def iA:=E be be (F 24)
def ax(x0:Str)(x1:Nat)(x2:Str)(x3:Nat)(x4:Nat)(x5:Int)(x6:Int)(x7:Nat)(x8:Nat)(x9:Nat)(x10:Int)(x11:Nat):=Obj.mk cD none (Data.fields (H [y x0 x1,y x2 x3,y aS x4,u x5 0,u x6 0,u 0 0,u 0 0,u 3 0,r x7,ad,u 181 0,r x8,L,L,L,r x9,u x10 0,u x5 0,y aS x11])) I
def fS:=ax be 503 be 504 505 68 1 248 249 250 506 507
def jC:=D be be (F 24) az 478 251
def fO:=ab gK 512 ci 513
def iT:=E aV aV (F 25)
def gb:=G aV 509 aV 510 511 78 1 253 254 255 256 257 514 515
def hD:=D aV aV (F 25) az 478 258
def h6:=Obj.mk aa none (Data.dict (H [t P ah 524 (y az 478),t P aE 526 (y a8 525),t P af 528 (u 81 527),t P K 536 (r 273),t P cj 544 (r 280),t P ch 553 (r 287),t P cl 562 (r 294),t P ck 570 (r 301),t P aB 579 (r 308),t P cd 589 (r 315),t P ai 592 (r 316)]) 11) I
def l4:=Obj.mk L none (Data.fields (H [u 83 0,u 4 0,r 272,u 87 0,u 4 0,r 279,u 93 0,u 4 0,r 286,u 103 0,u 4 0,r 293,u 117 0,u 4 0,r 300,u 123 0,u 4 0,r 307,u 136 0,u 4 0,r 314])) I
def iZ:=ak a8 519 520 521 81 263 264 522 523
def h9:=al 265 262 az 478
def eE:=ab N 532 cK 533
def ld:=E K cF (B 26 0)
def fe:=G K 529 cF 530 531 83 2 267 268 269 270 271 534 535
def jL:=D K cF (B 26 0) az 478 272
def eZ:=ab N 540 gK 541
def kN:=E cj cP (B 26 1)
def d7:=G cj 537 cP 538 539 87 2 274 275 276 277 278 542 543
def i0:=D cj cP (B 26 1) az 478 279
def fx:=ag N 548 gE 549 ci 550
def h0:=E ch cS (B 26 2)
def f9:=G ch 545 cS 546 547 93 2 281 282 283 284 285 551 552
def ig:=D ch cS (B 26 2) az 478 286
def d8:=ag N 557 gE 558 gA 559
def jO:=E cl cQ (B 26 3)
def fz:=G cl 554 cQ 555 556 103 2 288 289 290 291 292 560 561
def kL:=D cl cQ (B 26 3) az 478 293
def fV:=ab N 566 ci 567
def jv:=E ck cH (B 26 4)
def ez:=G ck 563 cH 564 565 117 1 295 296 297 298 299 568 569
def kH:=D ck cH (B 26 4) az 478 300
def eT:=ag N 574 gz 575 mC 576
def hM:=E aB cX (B 26 5)
def fJ:=G aB 571 cX 572 573 123 1 302 303 304 305 306 577 578
def jI:=D aB cX (B 26 5) az 478 307
def aG(x0:Str)(x1:Nat)(x2:Str)(x3:Nat)(x4:Str)(x5:Nat)(x6:Str)(x7:Nat):=Obj.mk ay none (Data.seq (H [y x0 x1,y x2 x3,y x4 x5,y x6 x7]) 0) I
def fh:=aG N 583 mB 584 mA 585 oC 586
def jh:=E cd dw (B 26 6)
def eR:=G cd 580 dw 581 582 136 2 309 310 311 312 313 587 588
def hK:=D cd dw (B 26 6) az 478 314
def f2:=ab ng 590 cK 591
def fI:=Obj.mk aa none (Data.dict (H [t P ah 524 (y az 478),t P af 528 (u 81 527),t P K 536 (r 273),t P cj 544 (r 280),t P ch 553 (r 287),t P cl 562 (r 294),t P ck 570 (r 301),t P aB 579 (r 308),t P cd 589 (r 315),t P ai 592 (r 316),t P cf 594 (r 319),t P b7 596 (r 320),t P aw 597 L]) 4) I
def eX:=Obj.mk ae none (Data.cls (ClassData.mk a8 [Y] [r 318,Y] 317 a8 true [] [] false none false)) (H [none,none,some (y a8 517),some (y a8 525),some au,some ad])
def fM:=cw 593 318
def gh:=cc 595 318
def h1:=ao 318
def j3:=an 318
def f4:=Obj.mk aa none (Data.dict (H [t P m9 604 (y da 605),t P nS 606 (y da 607),t P ns 608 (y nG 609),t P nE 610 (y da 611),t P oa 612 (y ob 613),t P oS 614 (y g1 615),t P mQ 616 (y g1 617)]) 7) I
def kG:=Obj.mk aa none (Data.dict (H [t P ah 633 (y J 600),t P aE 635 (y aC 634),t P af 637 (u 148 636),t P av 644 (r 337),t P X 651 (r 344),t P U 660 (r 351),t P aH 668 (r 358),t P aI 675 (r 365),t P R 682 (r 372),t P ai 683 (r 373)]) 10) I
def iL:=Obj.mk L none (Data.fields (H [u 150 0,u 4 0,r 336,u 153 0,u 4 0,r 343,u 156 0,u 4 0,r 350,u 159 0,u 4 0,r 357,u 162 0,u 4 0,r 364,u 165 0,u 4 0,r 371])) I
def lz:=ak aC 628 629 630 148 327 328 631 632
def hW:=al 329 326 J 600
def eF:=T N 641
def lC:=E av dM (B 30 0)
def fK:=G av 638 dM 639 640 150 1 331 332 333 334 335 642 643
def lZ:=D av dM (B 30 0) J 600 336
def fm:=T N 648
def jb:=E X dp (B 30 1)
def fj:=G X 645 dp 646 647 153 1 338 339 340 341 342 649 650
def j7:=D X dp (B 30 1) J 600 343
def gd:=ag N 655 aM 656 aO 657
def lJ:=E U dE (B 30 2)
def fy:=G U 652 dE 653 654 156 3 345 346 347 348 349 658 659
def lA:=D U dE (B 30 2) J 600 350
def fp:=ab N 664 aO 665
def l9:=E aH dH (B 30 3)
def fr:=G aH 661 dH 662 663 159 2 352 353 354 355 356 666 667
def iq:=D aH dH (B 30 3) J 600 357
def es:=T N 672
def j1:=E aI c7 (B 30 4)
def eK:=G aI 669 c7 670 671 162 1 359 360 361 362 363 673 674
def iy:=D aI c7 (B 30 4) J 600 364
def ft:=T N 679
def kb:=E R dJ (B 30 5)
def gi:=G R 676 dJ 677 678 165 1 366 367 368 369 370 680 681
def iR:=D R dJ (B 30 5) J 600 371
def gj:=Obj.mk aa none (Data.dict (H [t P ah 633 (y J 600),t P af 637 (u 148 636),t P av 644 (r 337),t P X 651 (r 344),t P U 660 (r 351),t P aH 668 (r 358),t P aI 675 (r 365),t P R 682 (r 372),t P ai 683 (r 373),t P cf 685 (r 376),t P b7 687 (r 377),t P aw 688 L]) 4) I
def qY:=Obj.mk ae none (Data.cls (ClassData.mk aC [Y] [r 375,Y] 374 aC true [] [r 403,r 514] false none false)) (H [none,none,some (y aC 626),some (y aC 634),some au,some ad])
def fg:=cw 684 375
def eY:=cc 686 375
def hT:=ao 375
def jW:=an 375
def aJ:=cv 375
def jP:=Obj.mk aa none (Data.dict (H [t P ah 698 (y J 600),t P aE 700 (y aU 699),t P af 702 (u 167 701),t P K 711 (r 393),t P av 718 (r 400),t P ai 721 (r 401)]) 6) I
def jH:=Obj.mk L none (Data.fields (H [u 169 0,u 4 0,r 392,u 173 0,u 4 0,r 399])) I
def ki:=ak aU 693 694 695 167 383 384 696 697
def k4:=al 385 382 J 600
def e2:=ag N 706 b9 707 dC 708
def kd:=E K c1 (B 31 0)
def ed:=G K 703 c1 704 705 169 3 387 388 389 390 391 709 710
def ij:=D K c1 (B 31 0) J 600 392
def e5:=T N 715
def j8:=E av dA (B 31 1)
def gf:=G av 712 dA 713 714 173 1 394 395 396 397 398 716 717
def ks:=D av dA (B 31 1) J 600 399
def eD:=ab dC 719 b9 720
def fY:=Obj.mk aa none (Data.dict (H [t P ah 698 (y J 600),t P af 702 (u 167 701),t P K 711 (r 393),t P av 718 (r 400),t P ai 721 (r 401),t P aw 722 L]) 2) I
def ey:=Obj.mk ae none (Data.cls (ClassData.mk aU [r 375] [r 403,r 375,Y] 402 aU true [] [r 436,r 469,r 554,r 601] false none false)) (H [V 380,none,some (y aU 691),some (y aU 699),some au,some ad])
def kl:=ao 403
def jF:=an 403
def aD:=cv 403
def cu(x0:Nat)(x1:Nat)(x2:Str)(x3:Nat)(x4:Nat)(x5:Int)(x6:Nat)(x7:Str)(x8:Nat)(x9:Nat)(x10:Nat)(x11:Nat)(x12:Nat)(x13:Nat)(x14:Nat)(x15:Nat):=Obj.mk aa none (Data.dict (H [t P ah x0 (y J 600),t P aE x1 (y x2 x3),t P af x4 (u x5 x6),t P x7 x8 (r x9),t P U x10 (r x11),t P R x12 (r x13),t P ai x14 (r x15)]) 7) I
def jl:=cu P 732 734 a3 733 736 175 735 X 743 419 752 426 759 433 760 434
def cy(x0:Int)(x1:Nat)(x2:Int)(x3:Nat)(x4:Int)(x5:Nat):=Obj.mk L none (Data.fields (H [u x0 0,u 4 0,r x1,u x2 0,u 4 0,r x3,u x4 0,u 4 0,r x5])) I
def lT:=cy 177 418 180 425 183 432
def j2:=ak a3 727 728 729 175 409 410 730 731
def jG:=al 411 408 J 600
def eH:=T N 740
def i5:=E X c9 (B 32 0)
def fE:=G X 737 c9 738 739 177 1 413 414 415 416 417 741 742
def l3:=D X c9 (B 32 0) J 600 418
def eg:=ag N 747 aM 748 aO 749
def jk:=E U du (B 32 1)
def fL:=G U 744 du 745 746 180 3 420 421 422 423 424 750 751
def jR:=D U du (B 32 1) J 600 425
def eN:=T N 756
def kZ:=E R c2 (B 32 2)
def fq:=G R 753 c2 754 755 183 1 427 428 429 430 431 757 758
def kr:=D R c2 (B 32 2) J 600 432
def cx(x0:Nat)(x1:Nat)(x2:Int)(x3:Nat)(x4:Str)(x5:Nat)(x6:Nat)(x7:Nat)(x8:Nat)(x9:Nat)(x10:Nat)(x11:Nat)(x12:Nat)(x13:Nat):=Obj.mk aa none (Data.dict (H [t P ah x0 (y J 600),t P af x1 (u x2 x3),t P x4 x5 (r x6),t P U x7 (r x8),t P R x9 (r x10),t P ai x11 (r x12),t P aw x13 L]) 2) I
def ea:=cx P 732 736 175 735 X 743 419 752 426 759 433 760 434 761
def em:=Obj.mk ae none (Data.cls (ClassData.mk a3 [r 403] [r 436,r 403,r 375,Y] 435 a3 true [] [] false none false)) (H [V 406,none,some (y a3 725),some (y a3 733),some au,some ad])
def im:=ao 436
def l8:=an 436
def hE:=cu P 771 773 aT 772 775 185 774 X 782 452 791 459 798 466 799 467
def h4:=cy 187 451 190 458 193 465
def i9:=ak aT 766 767 768 185 442 443 769 770
def km:=al 444 441 J 600
def f7:=T N 779
def k0:=E X dL (B 33 0)
def eh:=G X 776 dL 777 778 187 1 446 447 448 449 450 780 781
def js:=D X dL (B 33 0) J 600 451
def en:=ag N 786 aM 787 aO 788
def kn:=E U dm (B 33 1)
def fC:=G U 783 dm 784 785 190 3 453 454 455 456 457 789 790
def me:=D U dm (B 33 1) J 600 458
def fP:=T N 795
def mc:=E R dG (B 33 2)
def eM:=G R 792 dG 793 794 193 1 460 461 462 463 464 796 797
def ju:=D R dG (B 33 2) J 600 465
def ga:=cx P 771 775 185 774 X 782 452 791 459 798 466 799 467 800
def eU:=Obj.mk ae none (Data.cls (ClassData.mk aT [r 403] [r 469,r 403,r 375,Y] 468 aT true [] [] false none false)) (H [V 439,none,some (y aT 764),some (y aT 772),some au,some ad])
def iF:=ao 469
def j9:=an 469
def kM:=Obj.mk aa none (Data.dict (H [t P ah 810 (y J 600),t P aE 812 (y bf 811),t P af 814 (u 195 813),t P K 824 (r 485),t P av 831 (r 492),t P X 838 (r 499),t P U 844 (r 504),t P R 851 (r 511),t P ai 855 (r 512)]) 9) I
def hN:=cZ 197 484 202 491 205 498 208 503 211 510
def j4:=ak bf 805 806 807 195 475 476 808 809
def lx:=al 477 474 J 600
def eI:=aG N 818 b9 819 dy 820 dl 821
def lc:=E K dt (B 34 0)
def eQ:=G K 815 dt 816 817 197 4 479 480 481 482 483 822 823
def jn:=D K dt (B 34 0) J 600 484
def ew:=T N 828
def l2:=E av c4 (B 34 1)
def f8:=G av 825 c4 826 827 202 1 486 487 488 489 490 829 830
def hI:=D av c4 (B 34 1) J 600 491
def f3:=T N 835
def lO:=E X dc (B 34 2)
def eo:=G X 832 dc 833 834 205 1 493 494 495 496 497 836 837
def kQ:=D X dc (B 34 2) J 600 498
def lQ:=E U de (B 34 3)
def fv:=ax U 839 de 840 841 208 3 500 501 502 842 843
def lK:=D U de (B 34 3) J 600 503
def gc:=T N 848
def lS:=E R c5 (B 34 4)
def fW:=G R 845 c5 846 847 211 1 505 506 507 508 509 849 850
def h2:=D R c5 (B 34 4) J 600 510
def gg:=ag dl 852 dy 853 b9 854
def eV:=Obj.mk aa none (Data.dict (H [t P ah 810 (y J 600),t P af 814 (u 195 813),t P K 824 (r 485),t P av 831 (r 492),t P X 838 (r 499),t P U 844 (r 504),t P R 851 (r 511),t P ai 855 (r 512),t P aw 856 L]) 2) I
def fF:=Obj.mk ae none (Data.cls (ClassData.mk bf [r 375] [r 514,r 375,Y] 513 bf true [] [] false none false)) (H [V 472,none,some (y bf 803),some (y bf 811),some au,some ad])
def ip:=ao 514
def jQ:=an 514
def h8:=Obj.mk aa none (Data.dict (H [t P ah 866 (y J 600),t P aE 868 (y a6 867),t P af 870 (u 213 869),t P X 877 (r 530),t P U 886 (r 537),t P aI 893 (r 544),t P R 900 (r 551),t P ai 901 (r 552)]) 8) I
def i6:=Obj.mk L none (Data.fields (H [u 215 0,u 4 0,r 529,u 218 0,u 4 0,r 536,u 221 0,u 4 0,r 543,u 224 0,u 4 0,r 550])) I
def hS:=ak a6 861 862 863 213 520 521 864 865
def iM:=al 522 519 J 600
def ei:=T N 874
def kV:=E X dB (B 35 0)
def ej:=G X 871 dB 872 873 215 1 524 525 526 527 528 875 876
def kT:=D X dB (B 35 0) J 600 529
def ec:=ag N 881 aM 882 aO 883
def j0:=E U dh (B 35 1)
def fH:=G U 878 dh 879 880 218 3 531 532 533 534 535 884 885
def kX:=D U dh (B 35 1) J 600 536
def eO:=T N 890
def hC:=E aI dk (B 35 2)
def fG:=G aI 887 dk 888 889 221 1 538 539 540 541 542 891 892
def iU:=D aI dk (B 35 2) J 600 543
def fi:=T N 897
def iN:=E R dr (B 35 3)
def ev:=G R 894 dr 895 896 224 1 545 546 547 548 549 898 899
def jj:=D R dr (B 35 3) J 600 550
def ef:=Obj.mk aa none (Data.dict (H [t P ah 866 (y J 600),t P af 870 (u 213 869),t P X 877 (r 530),t P U 886 (r 537),t P aI 893 (r 544),t P R 900 (r 551),t P ai 901 (r 552),t P aw 902 L]) 2) I
def fn:=Obj.mk ae none (Data.cls (ClassData.mk a6 [r 403] [r 554,r 403,r 375,Y] 553 a6 true [] [] false none false)) (H [V 517,none,some (y a6 859),some (y a6 867),some au,some ad])
def jo:=ao 554
def ih:=an 554
def iu:=Obj.mk aa none (Data.dict (H [t P ah 912 (y J 600),t P aE 914 (y bc 913),t P af 916 (u 226 915),t P K 926 (r 570),t P X 933 (r 577),t P U 942 (r 584),t P aH 950 (r 591),t P R 957 (r 598),t P ai 959 (r 599)]) 9) I
def jJ:=cZ 228 569 232 576 235 583 238 590 241 597
def iB:=ak bc 907 908 909 226 560 561 910 911
def k6:=al 562 559 J 600
def e3:=aG N 920 b9 921 dC 922 ca 923
def mb:=E K dz (B 36 0)
def fl:=G K 917 dz 918 919 228 4 564 565 566 567 568 924 925
def lv:=D K dz (B 36 0) J 600 569
def eP:=T N 930
def k3:=E X df (B 36 1)
def ex:=G X 927 df 928 929 232 1 571 572 573 574 575 931 932
def kj:=D X df (B 36 1) J 600 576
def eG:=ag N 937 aM 938 aO 939
def lf:=E U dD (B 36 2)
def d9:=G U 934 dD 935 936 235 3 578 579 580 581 582 940 941
def j6:=D U dD (B 36 2) J 600 583
def ek:=ab N 946 aO 947
def kK:=E aH dx (B 36 3)
def fX:=G aH 943 dx 944 945 238 2 585 586 587 588 589 948 949
def hF:=D aH dx (B 36 3) J 600 590
def fU:=T N 954
def hP:=E R dd (B 36 4)
def e7:=G R 951 dd 952 953 241 1 592 593 594 595 596 955 956
def hQ:=D R dd (B 36 4) J 600 597
def e0:=T ca 958
def eu:=Obj.mk aa none (Data.dict (H [t P ah 912 (y J 600),t P af 916 (u 226 915),t P K 926 (r 570),t P X 933 (r 577),t P U 942 (r 584),t P aH 950 (r 591),t P R 957 (r 598),t P ai 959 (r 599),t P aw 960 L]) 2) I
def f0:=Obj.mk ae none (Data.cls (ClassData.mk bc [r 403] [r 601,r 403,r 375,Y] 600 bc true [] [] false none false)) (H [V 557,none,some (y bc 905),some (y bc 913),some au,some ad])
def k2:=ao 601
def iG:=an 601
def nX:=e (boot_o_0 P) (e (boot_o_1 P) (e (n9 P) (e (boot_o_7 P) (e h (e d4 (e hb (e l5 (e fO (g h2) .nil) (g h)) (e h (e fM (g k3) .nil) (g z))) (e hB (e h (e ig (g fG) .nil) (g eH)) (e O (g lA) (g h)))) (e ar (e O (e z (e ld (g h) .nil) (g gf)) (e kq (e lC (g hF) .nil) (g h))) (e fZ (e fs (e z (g (iu P)) .nil) (g kZ)) (e kg (g z) (g f3))))) (e O (e z (e d2 (e h (e h (g (h8 P)) .nil) (g kd)) (e (eA P) (e h (g d9) .nil) (g en))) (e hY (e lN (e h (g jj) .nil) (g h)) (e eL (g h) (g z)))) (e (d6 P) (e dU (e eB (e d7 (g j0) .nil) (g O)) (e f5 (e fj (g e0) .nil) (g j9))) (e h (e hJ (e fh (g h) .nil) (g aD)) (e kD (g qY) (g fv)))))) (e h (e hh (e ar (e z (e (fN P) (e hD (g ip) .nil) (g h)) (e kk (e (f4 P) (g z) .nil) (g eh))) (e (hv P) (e h (e h (g fi) .nil) (g l3)) (e kh (g h) (g lc)))) (e z (e hl (e fR (e z (g h) .nil) (g ey)) (e z (e z (g h) .nil) (g h))) (e lj (e e8 (e fJ (g k6) .nil) (g (ea P))) (e e6 (g gi) (g kQ))))) (e hA (e (d5 P) (e dN (e l6 (e h (g iM) .nil) (g z)) (e aP (e h (g ek) .nil) (g me))) (e h (e z (e jv (g jo) .nil) (g h)) (e lI (g j1) (g f8)))) (e ar (e g9 (e lg (e fx (g z) .nil) (g j2)) (e e9 (e gd (g iG) .nil) (g h))) (e h (e h (e hK (g h) .nil) (g h4)) (e fS (g jW) (g gc))))))) (e (boot_o_5 P) (e (boot_o_9 P) (e dY (e he (e ht (e iv (e iT (g (eV P)) .nil) (g ki)) (e fc (e h1 (g kj) .nil) (g h))) (e ar (e et (e z (g h) .nil) (g i5)) (e h (g z) (g eI)))) (e (hj P) (e h (e h (e jL (g ej) .nil) (g eD)) (e iX (e lZ (g z) .nil) (g eM))) (e fa (e e1 (e h (g jJ) .nil) (g kr)) (e h (g h) (g lO))))) (e h (e hq (e dW (e (iV P) (e iZ (g i6) .nil) (g ij)) (e i4 (e lz (g h) .nil) (g kn))) (e z (e iJ (e fV (g (ef P)) .nil) (g fL)) (e kA (g es) (g h)))) (e ha (e g8 (e kc (e h (g kX) .nil) (g h)) (e h (e h (g f0) .nil) (g O))) (e ln (e O (e jh (g fl) .nil) (g (hE P))) (e z (g eY) (g h)))))) (e cV (e g6 (e (g7 P) (e h (e kv (e O (g aD) .nil) (g e2)) (e kY (e O (g h) .nil) (g h))) (e ma (e fo (e fz (g iN) .nil) (g z)) (e h (g fr) (g jn)))) (e hs (e h (e h (e h (g ec) .nil) (g jF)) (e h (e h (g e7) .nil) (g eU))) (e O (e eJ (e h (g z) .nil) (g im)) (e jY (g h) (g z))))) (e h (e hg (e hu (e kw (e eE (g z) .nil) (g h)) (e (h7 P) (e eF (g kK) .nil) (g z))) (e fk (e h (e kH (g aD) .nil) (g eN)) (e (eb P) (g iy) (g h)))) (e (hy P) (e (d0 P) (e z (e h0 (g h) .nil) (g h)) (e kW (g lJ) (g j4))) (e fb (e iP (e (fI P) (g eP) .nil) (g km)) (e h (g O) (g lS)))))))) (e (boot_o_2 P) (e (boot_o_4 P) (e (boot_o_8 P) (e z (e dX (e hr (e fw (e h (g gg) .nil) (g jH)) (e z (e gh (g ex) .nil) (g f7))) (e g4 (e iW (e h (g iU) .nil) (g h)) (e (kp P) (g h) (g z)))) (e O (e (g5 P) (e fQ (e fe (g kV) .nil) (g ks)) (e l1 (e fK (g h) .nil) (g mc))) (e (fu P) (e lb (e eT (g h) .nil) (g fq)) (e hH (g ft) (g h))))) (e (ho P) (e hf (e hk (e O (e l4 (g h) .nil) (g ed)) (e ff (e iL (g j6) .nil) (g h))) (e h (e f6 (e z (g h) .nil) (g jk)) (e h (g z) (g ew)))) (e dP (e h (e h (e i0 (g fH) .nil) (g (jl P))) (e jK (e j7 (g (eu P)) .nil) (g aJ))) (e ia (e aP (e h (g mb) .nil) (g O)) (e h (g fg) (g lK)))))) (e oZ (e d3 (e O (e dV (e ep (e h (g jQ) .nil) (g z)) (e el (e h (g eG) .nil) (g js))) (e h (e z (e jO (g h) .nil) (g h)) (e lB (g l9) (g eQ)))) (e hm (e hx (e jx (e eZ (g z) .nil) (g kl)) (e eS (e fm (g hP) .nil) (g (ga P)))) (e ar (e eW (e jI (g h) .nil) (g em)) (e h (g iR) (g h))))) (e hd (e dZ (e hc (e i8 (e z (g h) .nil) (g e5)) (e O (e z (g h) .nil) (g h))) (e ie (e ee (e ez (g ih) .nil) (g z)) (e h (g eK) (g hI)))) (e O (e dO (e h (e h (g eO) .nil) (g jG)) (e lk (g h) (g hN))) (e z (e lP (e f2 (g z) .nil) (g i9)) (e jC (g aJ) (g h))))))) (e (boot_o_6 P) (e (boot_o_10 P) (e h (e hw (e h (e fD (e gb (g fF) .nil) (g k4)) (e h (e j3 (g h) .nil) (g k0))) (e O (e jB (e d8 (g z) .nil) (g fE)) (e hV (g fp) (g h)))) (e h (e hn (e kU (e h (g kT) .nil) (g (fY P))) (e h (e h (g fU) .nil) (g ju))) (e hU (e (eC P) (e hM (g iB) .nil) (g h)) (e z (g kb) (g eo))))) (e z (e h (e (dT P) (e h (e h9 (g hS) .nil) (g h)) (e hG (e hW (g z) .nil) (g fC))) (e f1 (e h (e h (g fn) .nil) (g jR)) (e er (g h) (g l2)))) (e hz (e dS (e e4 (e z (g h) .nil) (g lT)) (e (fB P) (e z (g k2) .nil) (g (kM P)))) (e iQ (e (h5 P) (e eR (g lv) .nil) (g h)) (e iA (g hT) (g z)))))) (e cJ (e dQ (e h (e hp (e lp (e (h6 P) (g O) .nil) (g h)) (e h (e (kG P) (g lf) .nil) (g z))) (e id (e h (e kL (g ev) .nil) (g eg)) (e z (g iq) (g h)))) (e h (e z (e z (e kN (g h) .nil) (g aD)) (e lW (e jb (g hQ) .nil) (g iF))) (e (iE P) (e jf (e z (g e3) .nil) (g l8)) (e fd (g (gj P)) (g lQ))))) (e (d1 P) (e hi (e ar (e h (e h (g ei) .nil) (g j8)) (e h (e h (g fX) .nil) (g fP))) (e kt (e iH (e h (g O) .nil) (g h)) (e fT (g h) (g z)))) (e h (e dR (e fA (e f9 (g hC) .nil) (g z)) (e aP (g fy) (g lx))) (e h (e k8 (e eX (g h) .nil) (g h)) (e z (g (jP P)) (g fW))))))))
def gW:=Obj.mk aa none (Data.dict (H [t P gp 165 (y aj 1249),t P aw 166 L,t P gv 167 L,t P gr 168 gk,t P gs 169 L,t P gw 170 (r 6),t P gG 171 (r 4),t P gy 173 (y aS 172),t P gI 174 L,t P a0 193 (r 21),t P bb 213 (r 31),t P a7 229 (r 44),t P a2 245 (r 56),t P aW 270 (r 75),t P aY 295 (r 94),t P bd 320 (r 113),t P ba 345 (r 132),t P a9 408 (r 179),t P aZ 431 (r 200),t P a4 454 (r 219),t P a5 477 (r 238),t P gL 481 (u 400 480),t P gO 483 (u 2000 482),t P gP 485 (u 2000 484),t P gM 487 (u 8 486),t P gD 489 (u 100000 488),t P gx 491 (u 32 490),t P gC 493 (u 37 492),t P gR 495 (u 126 494),t P a1 502 (r 247),t P be 508 (r 252),t P aV 516 (r 259),t P a8 599 (r 318),t P gF 603 (u 40 602),t P gN 625 (r 323),t P aC 690 (r 375),t P aU 724 (r 403),t P a3 763 (r 436),t P aT 802 (r 469),t P bf 858 (r 514),t P a6 904 (r 554),t P bc 962 (r 601),t P b1 1003 (r 634),t P bK 1044 (r 667),t P bt 1050 (r 674),t P aB 1059 (r 681),t P bN 1067 (r 688),t P bA 1076 (r 695),t P n8 1081 (r 696),t P mH 1083 (u 12 1082),t P bB 1122 (r 720),t P bx 1128 (r 729),t P bo 1136 (r 736),t P bv 1144 (r 743),t P bU 1153 (r 750),t P bX 1162 (r 757),t P bF 1170 (r 764),t P bu 1178 (r 769),t P b5 1184 (r 774),t P bT 1194 (r 781),t P bz 1200 (r 786),t P b3 1206 (r 791),t P bZ 1215 (r 798),t P bn 1226 (r 805),t P b0 1238 (r 812),t P bV 1248 (r 819),t P bH 1258 (r 826),t P bR 1267 (r 833),t P b4 1273 (r 838),t P bM 1281 (r 845),t P bS 1293 (r 852),t P bp 1299 (r 857),t P bJ 1305 (r 862),t P bG 1315 (r 869),t P br 1329 (r 876),t P bw 1343 (r 883),t P bs 1349 (r 888),t P bC 1361 (r 895),t P bY 1367 (r 900),t P bP 1373 (r 905),t P bO 1381 (r 912),t P bI 1390 (r 919),t P bL 1405 (r 926),t P b2 1415 (r 933),t P bW 1425 (r 940),t P bD 1435 (r 947),t P bq 1444 (r 954),t P bQ 1453 (r 961),t P bE 1459 (r 966)]) 89) I
def o1:=Obj.mk L none (Data.fields (H [u 1 0,u 0 0,r 20,u 5 0,u 0 0,r 27,u 7 0,u 0 0,r 40,u 9 0,u 0 0,r 52,u 11 0,u 0 0,r 64,u 15 0,u 0 0,r 83,u 19 0,u 0 0,r 102,u 23 0,u 0 0,r 121,u 28 0,u 0 0,r 140,u 45 0,u 0 0,r 189,u 49 0,u 0 0,r 208,u 53 0,u 0 0,r 227,u 66 0,u 0 0,r 246,u 68 0,u 0 0,r 251,u 78 0,u 0 0,r 258,u 81 0,u 0 0,r 265,u 148 0,u 0 0,r 329,u 167 0,u 0 0,r 385,u 175 0,u 0 0,r 411,u 185 0,u 0 0,r 444,u 195 0,u 0 0,r 477,u 213 0,u 0 0,r 522,u 226 0,u 0 0,r 562,u 243 0,u 0 0,r 609,u 253 0,u 0 0,r 642,u 265 0,u 0 0,r 673,u 271 0,u 0 0,r 680,u 281 0,u 0 0,r 687,u 295 0,u 0 0,r 694,u 302 0,u 0 0,r 702,u 311 0,u 0 0,r 728,u 319 0,u 0 0,r 735,u 324 0,u 0 0,r 742,u 329 0,u 0 0,r 749,u 335 0,u 0 0,r 756,u 338 0,u 0 0,r 763,u 343 0,u 0 0,r 768,u 353 0,u 0 0,r 773,u 364 0,u 0 0,r 780,u 366 0,u 0 0,r 785,u 375 0,u 0 0,r 790,u 387 0,u 0 0,r 797,u 392 0,u 0 0,r 804,u 398 0,u 0 0,r 811,u 402 0,u 0 0,r 818,u 406 0,u 0 0,r 825,u 410 0,u 0 0,r 832,u 413 0,u 0 0,r 837,u 415 0,u 0 0,r 844,u 419 0,u 0 0,r 851,u 433 0,u 0 0,r 856,u 436 0,u 0 0,r 861,u 439 0,u 0 0,r 868,u 454 0,u 0 0,r 875,u 463 0,u 0 0,r 882,u 476 0,u 0 0,r 887,u 488 0,u 0 0,r 894,u 496 0,u 0 0,r 899,u 509 0,u 0 0,r 904,u 515 0,u 0 0,r 911,u 521 0,u 0 0,r 918,u 528 0,u 0 0,r 925,u 543 0,u 0 0,r 932,u 554 0,u 0 0,r 939,u 572 0,u 0 0,r 946,u 579 0,u 0 0,r 953,u 587 0,u 0 0,r 960,u 593 0,u 0 0,r 965])) I
def lG:=Obj.mk ae none (Data.cls (ClassData.mk aC [Y] [r 375,Y] 374 aC true [] [r 403,r 514,r 634,r 667] false none false)) (H [none,none,some (y aC 626),some (y aC 634),some au,some ad])
def pS:=cu P 970 972 b1 971 974 243 973 K 982 617 991 624 998 631 1000 632
def qs:=cy 245 616 248 623 251 630
def pu:=ak b1 965 966 967 243 607 608 968 969
def p1:=al 609 606 J 600
def lm:=ab N 978 ca 979
def qp:=E K dI (B 37 0)
def k7:=G K 975 dI 976 977 245 2 611 612 613 614 615 980 981
def qA:=D K dI (B 37 0) J 600 616
def kf:=ag N 986 aM 987 aO 988
def q4:=E U dn (B 37 1)
def iS:=G U 983 dn 984 985 248 3 618 619 620 621 622 989 990
def qX:=D U dn (B 37 1) J 600 623
def kO:=T N 995
def pw:=E R dF (B 37 2)
def jN:=G R 992 dF 993 994 251 1 625 626 627 628 629 996 997
def pG:=D R dF (B 37 2) J 600 630
def ir:=T ca 999
def ik:=cx P 970 974 243 973 K 982 617 991 624 998 631 1000 632 1001
def lE:=Obj.mk ae none (Data.cls (ClassData.mk b1 [r 375] [r 634,r 375,Y] 633 b1 true [] [] false none false)) (H [V 604,none,some (y b1 963),some (y b1 971),some au,some ad])
def qK:=ao 634
def pv:=an 634
def q1:=cu P 1011 1013 bK 1012 1015 253 1014 K 1023 650 1032 657 1039 664 1041 665
def qU:=cy 255 649 258 656 263 663
def qQ:=ak bK 1006 1007 1008 253 640 641 1009 1010
def qw:=al 642 639 J 600
def k5:=ab N 1019 ca 1020
def qu:=E K c3 (B 38 0)
def kR:=G K 1016 c3 1017 1018 255 2 644 645 646 647 648 1021 1022
def pe:=D K c3 (B 38 0) J 600 649
def j5:=ag N 1027 aM 1028 aO 1029
def qG:=E U dv (B 38 1)
def l0:=G U 1024 dv 1025 1026 258 3 651 652 653 654 655 1030 1031
def qb:=D U dv (B 38 1) J 600 656
def iI:=T N 1036
def p8:=E R dq (B 38 2)
def iw:=G R 1033 dq 1034 1035 263 1 658 659 660 661 662 1037 1038
def pd:=D R dq (B 38 2) J 600 663
def jp:=T ca 1040
def ji:=cx P 1011 1015 253 1014 K 1023 650 1032 657 1039 664 1041 665 1042
def ku:=Obj.mk ae none (Data.cls (ClassData.mk bK [r 375] [r 667,r 375,Y] 666 bK true [] [] false none false)) (H [V 637,none,some (y bK 1004),some (y bK 1012),some au,some ad])
def p2:=ao 667
def pf:=an 667
def qd:=E bt bt (F 39)
def ly:=ax bt 1045 bt 1046 1047 265 1 670 671 672 1048 1049
def p0:=D bt bt (F 39) J 600 673
def hO:=ag gT 1054 n2 1055 ci 1056
def qn:=E aB aB (F 40)
def jr:=G aB 1051 aB 1052 1053 271 2 675 676 677 678 679 1057 1058
def pQ:=D aB aB (F 40) J 600 680
def lD:=ab gT 1063 nL 1064
def pC:=E bN bN (F 41)
def lL:=G bN 1060 bN 1061 1062 281 2 682 683 684 685 686 1065 1066
def pk:=D bN bN (F 41) J 600 687
def il:=ag b9 1071 dy 1072 dl 1073
def pB:=E bA bA (F 42)
def iO:=G bA 1068 bA 1069 1070 295 3 689 690 691 692 693 1074 1075
def pL:=D bA bA (F 42) J 600 694
def jT:=ab oo 1079 nr 1080
def qB:=Obj.mk aa none (Data.dict (H [t P ah 1091 (y aF 1077),t P aE 1093 (y bB 1092),t P af 1095 (u 302 1094),t P K 1104 (r 710),t P R 1111 (r 717),t P ai 1115 (r 718)]) 6) I
def qV:=Obj.mk L none (Data.fields (H [u 304 0,u 4 0,r 709,u 309 0,u 4 0,r 716])) I
def pl:=ak bB 1086 1087 1088 302 700 701 1089 1090
def p9:=al 702 699 aF 1077
def la:=ag N 1099 gS 1100 cA 1101
def ph:=E K c6 (B 46 0)
def ky:=G K 1096 c6 1097 1098 304 3 704 705 706 707 708 1102 1103
def pY:=D K c6 (B 46 0) aF 1077 709
def lM:=T N 1108
def pR:=E R db (B 46 1)
def lU:=G R 1105 db 1106 1107 309 1 711 712 713 714 715 1109 1110
def pn:=D R db (B 46 1) aF 1077 716
def jX:=ag gS 1112 gA 1113 cA 1114
def hR:=Obj.mk aa none (Data.dict (H [t P ah 1091 (y aF 1077),t P af 1095 (u 302 1094),t P K 1104 (r 710),t P R 1111 (r 717),t P ai 1115 (r 718),t P cf 1117 (r 721),t P b7 1119 (r 722),t P aw 1120 L]) 4) I
def jU:=Obj.mk ae none (Data.cls (ClassData.mk bB [Y] [r 720,Y] 719 bB true [] [] false none false)) (H [none,none,some (y bB 1084),some (y bB 1092),some au,some ad])
def hX:=cw 1116 720
def i1:=cc 1118 720
def pP:=ao 720
def qx:=an 720
def qS:=E bx bx (F 47)
def lX:=ax bx 1123 bx 1124 1125 311 1 725 726 727 1126 1127
def pX:=D bx bx (F 47) aF 1077 728
def kC:=ab cK 1132 ci 1133
def pU:=E bo bo (F 48)
def kz:=G bo 1129 bo 1130 1131 319 2 730 731 732 733 734 1134 1135
def qg:=D bo bo (F 48) aF 1077 735
def lF:=ab cB 1140 ce 1141
def qR:=E bv bv (F 49)
def lw:=G bv 1137 bv 1138 1139 324 1 737 738 739 740 741 1142 1143
def py:=D bv bv (F 49) aF 1077 742
def jS:=ag cB 1148 g2 1149 ce 1150
def pN:=E bU bU (F 50)
def io:=G bU 1145 bU 1146 1147 329 2 744 745 746 747 748 1151 1152
def qc:=D bU bU (F 50) aF 1077 749
def k1:=ag cp 1157 g2 1158 av 1159
def o9:=E bX bX (F 51)
def jz:=G bX 1154 bX 1155 1156 335 2 751 752 753 754 755 1160 1161
def q0:=D bX bX (F 51) aF 1077 756
def ko:=ab cB 1166 ce 1167
def qN:=E bF bF (F 52)
def iK:=G bF 1163 bF 1164 1165 338 1 758 759 760 761 762 1168 1169
def pi:=D bF bF (F 52) aF 1077 763
def qi:=E bu bu (F 54)
def jd:=ax bu 1173 bu 1174 1175 343 2 765 766 767 1176 1177
def qJ:=D bu bu (F 54) aN 1171 768
def qa:=E b5 b5 (F 55)
def ii:=ax b5 1179 b5 1180 1181 353 3 770 771 772 1182 1183
def pJ:=D b5 b5 (F 55) aN 1171 773
def jq:=aG cq 1188 op 1189 ol 1190 cB 1191
def p3:=E bT bT (F 56)
def jy:=G bT 1185 bT 1186 1187 364 4 775 776 777 778 779 1192 1193
def qD:=D bT bT (F 56) aN 1171 780
def pm:=E bz bz (F 57)
def ib:=ax bz 1195 bz 1196 1197 366 4 782 783 784 1198 1199
def qq:=D bz bz (F 57) aN 1171 785
def pT:=E b3 b3 (F 58)
def iD:=ax b3 1201 b3 1202 1203 375 4 787 788 789 1204 1205
def qr:=D b3 b3 (F 58) aN 1171 790
def jV:=ag cA 1210 gz 1211 ce 1212
def pV:=E bZ bZ (F 59)
def ix:=G bZ 1207 bZ 1208 1209 387 2 792 793 794 795 796 1213 1214
def pD:=D bZ bZ (F 59) aN 1171 797
def kP:=Obj.mk ay none (Data.seq (H [y cq 1219,y cA 1220,y aM 1221,y mT 1222,y cp 1223]) 0) I
def pW:=E bn bn (F 60)
def lq:=G bn 1216 bn 1217 1218 392 3 799 800 801 802 803 1224 1225
def qj:=D bn bn (F 60) aN 1171 804
def jm:=aG cq 1230 cp 1231 aM 1232 b6 1233
def md:=ab cq 1234 cp 1235
def qL:=E b0 b0 (F 61)
def jw:=G b0 1227 b0 1228 1229 398 3 806 807 808 809 810 1236 1237
def qM:=D b0 b0 (F 61) aN 1171 811
def kB:=aG cq 1242 cp 1243 n3 1244 m0 1245
def pg:=E bV bV (F 62)
def je:=G bV 1239 bV 1240 1241 402 3 813 814 815 816 817 1246 1247
def pt:=D bV bV (F 62) aN 1171 818
def kJ:=ab nQ 1254 cz 1255
def qz:=E bH bH (F 64)
def hZ:=G bH 1251 bH 1252 1253 406 2 820 821 822 823 824 1256 1257
def qW:=D bH bH (F 64) aj 1249 825
def kE:=ag bg 1262 cz 1263 g3 1264
def ps:=E bR bR (F 65)
def iz:=G bR 1259 bR 1260 1261 410 2 827 828 829 830 831 1265 1266
def pE:=D bR bR (F 65) aj 1249 832
def q2:=E b4 b4 (F 66)
def li:=ax b4 1268 b4 1269 1270 413 2 834 835 836 1271 1272
def qy:=D b4 b4 (F 66) aj 1249 837
def jZ:=ab gU 1277 gV 1278
def pZ:=E bM bM (F 67)
def kx:=G bM 1274 bM 1275 1276 415 2 839 840 841 842 843 1279 1280
def qH:=D bM bM (F 67) aj 1249 844
def jt:=Obj.mk ay none (Data.seq (H [y nM 1285,y gY 1286,y od 1287,y nl 1288,y gU 1289,y gV 1290]) 0) I
def p6:=E bS bS (F 68)
def jD:=G bS 1282 bS 1283 1284 419 2 846 847 848 849 850 1291 1292
def qe:=D bS bS (F 68) aj 1249 851
def q3:=E bp bp (F 69)
def it:=ax bp 1294 bp 1295 1296 433 3 853 854 855 1297 1298
def pc:=D bp bp (F 69) aj 1249 856
def po:=E bJ bJ (F 70)
def ka:=ax bJ 1300 bJ 1301 1302 436 2 858 859 860 1303 1304
def pb:=D bJ bJ (F 70) aj 1249 861
def jc:=aG nB 1309 c8 1310 cn 1311 nU 1312
def qf:=E bG bG (F 71)
def kS:=G bG 1306 bG 1307 1308 439 3 863 864 865 866 867 1313 1314
def qZ:=D bG bG (F 71) aj 1249 868
def jA:=Obj.mk ay none (Data.seq (H [y b8 1319,y di 1320,y cn 1321,y cr 1322,y c8 1323,y gX 1324,y cz 1325,y g0 1326]) 0) I
def qk:=E br br (F 72)
def kF:=G br 1316 br 1317 1318 454 4 870 871 872 873 874 1327 1328
def qP:=D br br (F 72) aj 1249 875
def l7:=Obj.mk ay none (Data.seq (H [y oR 1333,y cn 1334,y cr 1335,y b8 1336,y di 1337,y ds 1338,y c8 1339,y g0 1340]) 0) I
def qt:=E bw bw (F 73)
def h3:=G bw 1330 bw 1331 1332 463 3 877 878 879 880 881 1341 1342
def pM:=D bw bw (F 73) aj 1249 882
def p5:=E bs bs (F 74)
def ic:=ax bs 1344 bs 1345 1346 476 3 884 885 886 1347 1348
def qh:=D bs bs (F 74) aj 1249 887
def iY:=Obj.mk ay none (Data.seq (H [y b8 1353,y bg 1354,y gY 1355,y di 1356,y m7 1357,y cz 1358]) 0) I
def p7:=E bC bC (F 75)
def ja:=G bC 1350 bC 1351 1352 488 3 889 890 891 892 893 1359 1360
def pI:=D bC bC (F 75) aj 1249 894
def qm:=E bY bY (F 76)
def jE:=ax bY 1362 bY 1363 1364 496 2 896 897 898 1365 1366
def qO:=D bY bY (F 76) aj 1249 899
def qT:=E bP bP (F 77)
def lr:=ax bP 1368 bP 1369 1370 509 1 901 902 903 1371 1372
def qo:=D bP bP (F 77) aj 1249 904
def lH:=ab no 1377 bg 1378
def pF:=E bO bO (F 78)
def k9:=G bO 1374 bO 1375 1376 515 2 906 907 908 909 910 1379 1380
def qF:=D bO bO (F 78) aj 1249 911
def i2:=ag gX 1385 bg 1386 ds 1387
def pr:=E bI bI (F 79)
def lY:=G bI 1382 bI 1383 1384 521 2 913 914 915 916 917 1388 1389
def qC:=D bI bI (F 79) aj 1249 918
def ls:=Obj.mk ay none (Data.seq (H [y n5 1394,y bg 1395,y oe 1396,y b8 1397,y dK 1398,y g3 1399,y nK 1400,y n4 1401,y n1 1402]) 0) I
def pp:=E bL bL (F 80)
def lh:=G bL 1391 bL 1392 1393 528 2 920 921 922 923 924 1403 1404
def p4:=D bL bL (F 80) aj 1249 925
def hL:=aG bg 1409 b8 1410 dK 1411 dj 1412
def ql:=E b2 b2 (F 81)
def iC:=G b2 1406 b2 1407 1408 543 1 927 928 929 930 931 1413 1414
def pO:=D b2 b2 (F 81) aj 1249 932
def jg:=aG bg 1419 b8 1420 dK 1421 dj 1422
def o8:=E bW bW (F 82)
def ll:=G bW 1416 bW 1417 1418 554 1 934 935 936 937 938 1423 1424
def pH:=D bW bW (F 82) aj 1249 939
def i3:=aG cr 1429 ds 1430 bg 1431 dj 1432
def px:=E bD bD (F 83)
def lR:=G bD 1426 bD 1427 1428 572 3 941 942 943 944 945 1433 1434
def pq:=D bD bD (F 83) aj 1249 946
def lu:=ag cn 1439 cr 1440 gZ 1441
def qE:=E bq bq (F 84)
def kI:=G bq 1436 bq 1437 1438 579 2 948 949 950 951 952 1442 1443
def qI:=D bq bq (F 84) aj 1249 953
def jM:=ag cn 1448 cr 1449 gZ 1450
def pA:=E bQ bQ (F 85)
def i7:=G bQ 1445 bQ 1446 1447 587 2 955 956 957 958 959 1451 1452
def pK:=D bQ bQ (F 85) aj 1249 960
def pz:=E bE bE (F 86)
def lV:=ax bE 1454 bE 1455 1456 593 1 962 963 964 1457 1458
def pj:=D bE bE (F 86) aj 1249 965
def gu:=e (boot_o_0 P) (e (boot_o_1 P) (e (gW P) (e (boot_o_7 P) (e h (e d4 (e hb (e l5 (e fO (g h2) (g qi)) (e h (g (q1 P)) (g pI))) (e h (e fM (g k3) (g ps)) (e z (g p9) (g pA)))) (e hB (e h (e ig (g fG) (g h)) (e eH (g z) (g h))) (e O (e lA (g h) (g h)) (e h (g kz) .nil)))) (e ar (e O (e z (e ld (g h) (g z)) (e gf (g qG) (g k9))) (e kq (e lC (g hF) (g z)) (e h (g (hR P)) .nil))) (e fZ (e fs (e z (g (iu P)) (g kB)) (e kZ (g lL) (g i3))) (e kg (e z (g iS) (g l7)) (e f3 (g h) .nil))))) (e O (e z (e d2 (e h (e h (g (h8 P)) (g h)) (e kd (g h) (g qT))) (e (eA P) (e h (g d9) (g h)) (e en (g h) .nil))) (e hY (e lN (e h (g jj) (g z)) (e h (g qn) (g z))) (e eL (e h (g qp) (g z)) (e z (g py) .nil)))) (e (d6 P) (e dU (e eB (e d7 (g j0) (g qr)) (e O (g iw) (g qC))) (e f5 (e fj (g e0) (g q3)) (e j9 (g qS) .nil))) (e h (e hJ (e fh (g h) (g h)) (e aD (g pL) (g h))) (e kD (e lG (g pG) (g ic)) (e fv (g z) .nil)))))) (e h (e hh (e ar (e z (e (fN P) (e hD (g ip) (g z)) (e h (g qw) (g jE))) (e kk (e (f4 P) (g z) (g z)) (e eh (g h) (g z)))) (e (hv P) (e h (e h (g fi) (g pW)) (e l3 (g h) (g ql))) (e kh (e h (g h) (g qf)) (e lc (g lF) .nil)))) (e z (e hl (e fR (e z (g h) (g h)) (e ey (g z) (g i2))) (e z (e z (g h) (g jD)) (e h (g pP) .nil))) (e lj (e e8 (e fJ (g k6) (g pt)) (e (ea P) (g il) (g pq))) (e e6 (e gi (g kO) (g pM)) (e kQ (g o9) .nil))))) (e hA (e (d5 P) (e dN (e l6 (e h (g iM) (g p3)) (e z (g h) (g z))) (e aP (e h (g ek) (g pZ)) (e me (g pR) .nil))) (e h (e z (e jv (g jo) (g jw)) (e h (g z) (g ll))) (e lI (e j1 (g z) (g kF)) (e f8 (g h) .nil)))) (e ar (e g9 (e lg (e fx (g z) (g h)) (e j2 (g ku) (g h))) (e e9 (e gd (g iG) (g z)) (e h (g z) .nil))) (e h (e h (e hK (g h) (g h)) (e h4 (g (qB P)) (g h))) (e fS (e jW (g qK) (g iY)) (e gc (g iK) .nil))))))) (e (boot_o_5 P) (e (boot_o_9 P) (e dY (e he (e ht (e iv (e iT (g (eV P)) (g qJ)) (e ki (g qU) (g z))) (e fc (e h1 (g kj) (g pE)) (e h (g z) (g pK)))) (e ar (e et (e z (g h) (g kP)) (e i5 (g ly) (g hL))) (e h (e z (g pu) (g jc)) (e eI (g h) .nil)))) (e (hj P) (e h (e h (e jL (g ej) (g ib)) (e eD (g qb) (g h))) (e iX (e lZ (g z) (g h)) (e eM (g hX) .nil))) (e fa (e e1 (e h (g jJ) (g pg)) (e kr (g h) (g px))) (e h (e h (g h) (g qt)) (e lO (g k1) .nil))))) (e h (e hq (e dW (e (iV P) (e iZ (g i6) (g jq)) (e ij (g kR) (g qo))) (e i4 (e lz (g h) (g jZ)) (e kn (g lM) .nil))) (e z (e iJ (e fV (g (ef P)) (g md)) (e fL (g pQ) (g h))) (e kA (e es (g qA) (g h)) (e h (g z) .nil)))) (e ha (e g8 (e kc (e h (g kX) (g z)) (e h (g jp) (g z))) (e h (e h (g f0) (g pc)) (e O (g pX) .nil))) (e ln (e O (e jh (g fl) (g hZ)) (e (hE P) (g h) (g kI))) (e z (e eY (g (ik P)) (g h)) (e h (g h) .nil)))))) (e cV (e g6 (e (g7 P) (e h (e kv (e O (g aD) (g ii)) (e e2 (g z) (g h))) (e kY (e O (g h) (g li)) (e h (g ky) (g lV)))) (e ma (e fo (e fz (g iN) (g qj)) (e z (g hO) (g pO))) (e h (e fr (g lm) (g qZ)) (e jn (g qR) .nil)))) (e hs (e h (e h (e h (g ec) (g pT)) (e jF (g h) (g pr))) (e h (e h (g e7) (g h)) (e eU (g h) .nil))) (e O (e eJ (e h (g z) (g z)) (e im (g pB) (g z))) (e jY (e h (g pw) (g z)) (e z (g q0) .nil))))) (e h (e hg (e hu (e kw (e eE (g z) (g qD)) (e h (g j5) (g h))) (e (h7 P) (e eF (g kK) (g qH)) (e z (g pn) .nil))) (e fk (e h (e kH (g aD) (g h)) (e eN (g h) (g h))) (e (eb P) (e iy (g h) (g h)) (e h (g io) .nil)))) (e (hy P) (e (d0 P) (e z (e h0 (g h) (g ix)) (e h (g pf) (g lh))) (e kW (e lJ (g O) (g ka)) (e j4 (g h) .nil))) (e fb (e iP (e (fI P) (g eP) (g kE)) (e km (g qV) (g jM))) (e h (e O (g aJ) (g p7)) (e lS (g h) .nil)))))))) (e (boot_o_2 P) (e (boot_o_4 P) (e (boot_o_8 P) (e z (e dX (e hr (e fw (e h (g gg) (g jd)) (e jH (g h) (g h))) (e z (e gh (g ex) (g iz)) (e f7 (g h) (g i7)))) (e g4 (e iW (e h (g iU) (g z)) (e h (g qd) (g z))) (e (kp P) (e h (g qs) (g z)) (e z (g qg) .nil)))) (e O (e (g5 P) (e fQ (e fe (g kV) (g pm)) (e ks (g l0) (g qF))) (e l1 (e fK (g h) (g jt)) (e mc (g jU) .nil))) (e (fu P) (e lb (e eT (g h) (g h)) (e fq (g pk) (g h))) (e hH (e ft (g qX) (g h)) (e h (g z) .nil))))) (e (ho P) (e hf (e hk (e O (e l4 (g h) (g z)) (e ed (g qu) (g lr))) (e ff (e iL (g j6) (g z)) (e h (g z) .nil))) (e h (e f6 (e z (g h) (g jm)) (e jk (g jr) (g jg))) (e h (e z (g k7) (g jA)) (e ew (g h) .nil)))) (e dP (e h (e h (e i0 (g fH) (g h)) (e (jl P) (g pd) (g h))) (e jK (e j7 (g (eu P)) (g it)) (e aJ (g lX) .nil))) (e ia (e aP (e h (g mb) (g qz)) (e O (g jT) (g qE))) (e h (e fg (g ir) (g qh)) (e lK (g ko) .nil)))))) (e o1 (e d3 (e O (e dV (e ep (e h (g jQ) (g qa)) (e z (g h) (g qO))) (e el (e h (g eG) (g q2)) (e js (g ph) (g pz)))) (e h (e z (e jO (g h) (g lq)) (e h (g z) (g iC))) (e lB (e l9 (g z) (g kS)) (e eQ (g h) .nil)))) (e hm (e hx (e jx (e eZ (g z) (g z)) (e kl (g iI) (g h))) (e eS (e fm (g hP) (g qe)) (e (ga P) (g qx) .nil))) (e ar (e eW (e jI (g h) (g h)) (e em (g h) (g h))) (e h (e iR (g h) (g h)) (e h (g jz) .nil))))) (e hd (e dZ (e hc (e i8 (e z (g h) (g jy)) (e e5 (g z) (g lH))) (e O (e z (g h) (g kx)) (e h (g lU) .nil))) (e ie (e ee (e ez (g ih) (g qM)) (e z (g lD) (g pH))) (e h (e eK (g kf) (g qP)) (e hI (g pN) .nil)))) (e O (e dO (e h (e h (g eO) (g pV)) (e jG (g p2) (g pp))) (e lk (e h (g aJ) (g po)) (e hN (g kC) .nil))) (e z (e lP (e f2 (g z) (g z)) (e i9 (g h) (g z))) (e jC (e aJ (g pv) (g h)) (e h (g pi) .nil))))))) (e (boot_o_6 P) (e (boot_o_10 P) (e h (e hw (e h (e fD (e gb (g fF) (g h)) (e k4 (g qQ) (g qm))) (e h (e j3 (g h) (g h)) (e k0 (g la) (g h)))) (e O (e jB (e d8 (g z) (g h)) (e fE (g p0) (g h))) (e hV (e fp (g p1) (g h)) (e h (g z) .nil)))) (e h (e hn (e kU (e h (g kT) (g qq)) (e (fY P) (g h) (g z))) (e h (e h (g fU) (g p6)) (e ju (g i1) .nil))) (e hU (e (eC P) (e hM (g iB) (g je)) (e h (g z) (g lR))) (e z (e kb (g z) (g h3)) (e eo (g h) .nil))))) (e z (e h (e (dT P) (e h (e h9 (g hS) (g h)) (e h (g pe) (g h))) (e hG (e hW (g z) (g h)) (e fC (g h) .nil))) (e f1 (e h (e h (g fn) (g qL)) (e jR (g h) (g o8))) (e er (e h (g h) (g qk)) (e l2 (g jS) .nil)))) (e hz (e dS (e e4 (e z (g h) (g jV)) (e lT (g (ji P)) (g ls))) (e (fB P) (e z (g k2) (g h)) (e (kM P) (g h) .nil))) (e iQ (e (h5 P) (e eR (g lv) (g qW)) (e h (g O) (g qI))) (e iA (e hT (g lE) (g z)) (e z (g qN) .nil)))))) (e cJ (e dQ (e h (e hp (e lp (e (h6 P) (g O) (g pJ)) (e h (g k5) (g z))) (e h (e (kG P) (g lf) (g qy)) (e z (g pY) (g pj)))) (e id (e h (e kL (g ev) (g h)) (e eg (g h) (g h))) (e z (e iq (g h) (g h)) (e h (g lw) .nil)))) (e h (e z (e z (e kN (g h) (g iD)) (e aD (g p8) (g lY))) (e lW (e jb (g hQ) (g z)) (e iF (g z) .nil))) (e (iE P) (e jf (e z (g e3) (g kJ)) (e l8 (g iO) (g lu))) (e fd (e (gj P) (g jN) (g p5)) (e lQ (g h) .nil))))) (e (d1 P) (e hi (e ar (e h (e h (g ei) (g h)) (e j8 (g h) (g pF))) (e h (e h (g fX) (g h)) (e fP (g jX) .nil))) (e kt (e iH (e h (g O) (g z)) (e h (g pC) (g z))) (e fT (e h (g q4) (g z)) (e z (g qc) .nil)))) (e h (e dR (e fA (e f9 (g hC) (g pD)) (e z (g h) (g p4))) (e aP (e fy (g (pS P)) (g pb)) (e lx (g pU) .nil))) (e h (e k8 (e eX (g h) (g h)) (e h (g pl) (g h))) (e z (e (jP P) (g O) (g ja)) (e fW (g z) .nil))))))))
def oI:=gu P
def gq:=gu P
end
noncomputable def go(w:World)(os:OsState):SharedT:=SharedT.mk (mr w.params) 15 (@Life.mk [] [] [] 0 [] [] false I [] 0 false false false 0 [2000,10,10] false 0 true [] [] 0 false) I (@Drawn.mk 0 0 0 0) 187 os
noncomputable def cs(w:World)(os:OsState):SharedT:=SharedT.mk (mg w.params) 15 (@Life.mk [] [] [] 0 [] [] false I [] 0 false false false 0 [2000,10,10] false 0 true [] [] 0 false) I (@Drawn.mk 0 0 0 0) 187 os
noncomputable def co(w:World)(os:OsState):SharedT:=SharedT.mk (nX w.params) 604 (@Life.mk [] [] [] 0 [] [] false I [] 0 false false false 0 [2000,10,10] false 0 true [] [] 0 false) I (@Drawn.mk 0 0 0 0) 963 os
noncomputable def dg(w:World)(os:OsState):SharedT:=SharedT.mk (oI w.params) 967 (@Life.mk [] [] [] 0 [] [] false I [] 0 false false false 0 [2000,10,10] false 0 true [] [] 0 false) I (@Drawn.mk 0 0 0 0) 1460 os
noncomputable def q6(w:World)(os:OsState):SharedT:=SharedT.mk (gq w.params) 967 (@Life.mk [] [] [] 0 [] [] false I [] 0 false false false 0 [2000,10,10] false 0 true [] [] 0 false) I (@Drawn.mk 0 0 0 0) 1460 os
noncomputable abbrev aA:Env:={scope:=Z.main.scope,locals:=mainNs,globals:=mainNs,cells:=[],code:=(r 13),frame:=some 14}
noncomputable abbrev aK:Env:={scope:=aQ.main.scope,locals:=mainNs,globals:=mainNs,cells:=[],code:=(r 13),frame:=some 14}
theorem mm:behindTheImports Z=((Z.main.body.drop 0).take 37++((Z.main.body.drop 37).take 50++[])):=by kernel_rfl
theorem o2(w:World)(d:OsState):topGo treeTable Z w 11 (V 6) 12 ⟨boot_heap w.params,Array.mk [],boot_drawn,boot_toks,d⟩ (topStub Z)=some ((go w d).abs,⟨denote treeTable (Code.body (behindTheImports Z) aA),Code.body (behindTheImports Z) aA,(@Pos.mk 0 0 0 0),[topFrame (@Pos.mk 0 0 0 0)]⟩):=by
 rw [PySem.W.Fast.te15667345088766844465,PySem.W.Fast.te14364793385576792824,PySem.W.Fast.te11892475500146522536,cb]
 kernel_rfl
theorem o3(w:World)(d:OsState):segRun treeTable Z w 11 (V 6) 1 1 (go w d).abs (blockOf (behindTheImports Z) aA (Code.body (behindTheImports Z) aA) (@Pos.mk 0 0 0 0) [topFrame (@Pos.mk 0 0 0 0)])=some (Flow.next,(cs w d).abs,Code.body (behindTheImports Z) aA,(@Pos.mk 0 0 0 0)):=by
 refine segRun_of ?_
 rw [PySem.W.Fast.te10110043849684766642,PySem.W.Fast.te14364793385576792824,cb]
 kernel_rfl
theorem mj(p:Program)(b:List Stmt):∀w:World,(λos=>PySem.W.Fast.tw10110043849684766642 PySem.W.Fast.tw14364793385576792824 p w 11 (V 6) 1 5846 (cs w os) (piecesOf ((aQ.main.body.drop 0).take 37) aK (Code.body b aK) (@Pos.mk 0 0 0 0) [topFrame (@Pos.mk 0 0 0 0)]))=(λos=>some (Flow.next,co w os,Code.body b aK,(@Pos.mk 226 0 242 16))):=byRow2 "special-get-raises" (P:=λw=>(λos=>PySem.W.Fast.tw10110043849684766642 PySem.W.Fast.tw14364793385576792824 p w 11 (V 6) 1 5846 (cs w os) (piecesOf ((aQ.main.body.drop 0).take 37) aK (Code.body b aK) (@Pos.mk 0 0 0 0) [topFrame (@Pos.mk 0 0 0 0)]))=(λos=>some (Flow.next,co w os,Code.body b aK,(@Pos.mk 226 0 242 16)))) (λw=>by kernel_rfl) (λw=>by kernel_rfl)
theorem mh(b:List Stmt)(w:World)(d:OsState):segRun treeTable Z w 11 (V 6) 1 5846 (cs w d).abs (piecesOf ((Z.main.body.drop 0).take 37) aA (Code.body b aA) (@Pos.mk 0 0 0 0) [topFrame (@Pos.mk 0 0 0 0)])=some (Flow.next,(co w d).abs,Code.body b aA,(@Pos.mk 226 0 242 16)):=by
 refine segRun_of ?_
 rw [PySem.W.Fast.te10110043849684766642,PySem.W.Fast.te14364793385576792824,cb]
 exact congrFun (mj aQ b w) d
theorem mi(p:Program)(b:List Stmt):∀w:World,(λos=>PySem.W.Fast.tw10110043849684766642 PySem.W.Fast.tw14364793385576792824 p w 11 (V 6) 1 2186 (co w os) (piecesOf ((aQ.main.body.drop 37).take 50) aK (Code.body b aK) (@Pos.mk 226 0 242 16) [topFrame (@Pos.mk 0 0 0 0)]))=(λos=>some (Flow.next,dg w os,Code.body b aK,(@Pos.mk 593 0 607 126))):=λw=>by kernel_rfl
theorem mu(b:List Stmt)(w:World)(d:OsState):segRun treeTable Z w 11 (V 6) 1 2186 (co w d).abs (piecesOf ((Z.main.body.drop 37).take 50) aA (Code.body b aA) (@Pos.mk 226 0 242 16) [topFrame (@Pos.mk 0 0 0 0)])=some (Flow.next,(dg w d).abs,Code.body b aA,(@Pos.mk 593 0 607 126)):=by
 refine segRun_of ?_
 rw [PySem.W.Fast.te10110043849684766642,PySem.W.Fast.te14364793385576792824,cb]
 exact congrFun (mi aQ b w) d
noncomputable abbrev aR:Params->Heap:=λP=>absHeap (gq P) 967 (@Life.mk [] [] [] 0 [] [] false I [] 0 false false false 0 [2000,10,10] false 0 true [] [] 0 false)
theorem o6(b:List Stmt)(w:World)(d:OsState):topRun treeTable Z w 11 (V 6) 2 (dg w d).abs ⟨doneF .next,Code.body b aA,(@Pos.mk 593 0 607 126),[topFrame (@Pos.mk 0 0 0 0)]⟩=some ⟨aR w.params,Array.mk [],(@Drawn.mk 0 0 0 0),1460,d⟩:=by
 rw [PySem.W.Fast.te14082659384304107361,PySem.W.Fast.te14364793385576792824,cb]
 kernel_rfl
theorem o7(w:World)(d:OsState):topRun treeTable Z w 11 (V 6) (12+(1+(5846+(2186+2)))) ⟨boot_heap w.params,Array.mk [],boot_drawn,boot_toks,d⟩ (topStub Z)=some ⟨aR w.params,Array.mk [],(@Drawn.mk 0 0 0 0),1460,d⟩:=by
 refine go_top (o2 w d) (piece_block (o3 w d) ?k)
 rw [mm]
 exact piece_app (mh _ w d) (piece_app (mu _ w d) (piece_nil (o6 _ w d)))
abbrev C(a b:String)(s:Stmt)(m:String)(n v:Nat):Params->Obj:=λP=>(Obj.mk (@Value.type "function") none (Data.func (cC (@Str.ofString a) (@Str.ofString b) s 3 [] L L L (@Value.str (@Str.ofString m) n) none (r v) L 0)) I)
abbrev my:=C "_wall" "_wall" (A 0) "__main__" 164 20
abbrev mz:=C "__init__" "NoText.__init__" (M 5 0) "pactroom.errors" 194 71
abbrev mG:=C "__init__" "NoPlace.__init__" (M 6 0) "pactroom.errors" 194 90
abbrev oW:=C "__init__" "NoWayBack.__init__" (M 7 0) "pactroom.errors" 194 109
abbrev nV:=C "__init__" "NoFit.__init__" (M 8 0) "pactroom.errors" 194 128
abbrev mX:=C "__init__" "Lock.__init__" (M 10 0) "pactroom.kinds" 346 147
abbrev ot:=C "kind" "Lock.kind" (M 10 1) "pactroom.kinds" 346 154
abbrev oy:=C "beside" "Lock.beside" (M 10 2) "pactroom.kinds" 346 161
abbrev n0:=C "covers" "Lock.covers" (M 10 3) "pactroom.kinds" 346 168
abbrev oO:=C "told" "Lock.told" (M 10 4) "pactroom.kinds" 346 175
abbrev nm:=C "kind" "Read.kind" (M 11 0) "pactroom.kinds" 346 196
abbrev nN:=C "kind" "Mean.kind" (M 12 0) "pactroom.kinds" 346 215
abbrev nj:=C "kind" "Change.kind" (M 13 0) "pactroom.kinds" 346 234
abbrev oD:=C "is_whole" "is_whole" (A 23) "pactroom.things" 478 246
abbrev m5:=C "read_thing" "read_thing" (A 24) "pactroom.things" 478 251
abbrev om:=C "is_sign" "is_sign" (A 25) "pactroom.things" 478 258
abbrev oc:=C "__init__" "Reader.__init__" (M 26 0) "pactroom.things" 478 272
abbrev mZ:=C "passes" "Reader.passes" (M 26 1) "pactroom.things" 478 279
abbrev oq:=C "read_any" "Reader.read_any" (M 26 2) "pactroom.things" 478 286
abbrev oY:=C "read_parts" "Reader.read_parts" (M 26 3) "pactroom.things" 478 293
abbrev m3:=C "read_below" "Reader.read_below" (M 26 4) "pactroom.things" 478 300
abbrev nO:=C "read_number" "Reader.read_number" (M 26 5) "pactroom.things" 478 307
abbrev n6:=C "read_signs" "Reader.read_signs" (M 26 6) "pactroom.things" 478 314
abbrev oE:=C "house" "Step.house" (M 30 0) "pactroom.steps" 600 336
abbrev nx:=C "lock" "Step.lock" (M 30 1) "pactroom.steps" 600 343
abbrev oT:=C "step_done" "Step.step_done" (M 30 2) "pactroom.steps" 600 350
abbrev oJ:=C "back" "Step.back" (M 30 3) "pactroom.steps" 600 357
abbrev oG:=C "sure" "Step.sure" (M 30 4) "pactroom.steps" 600 364
abbrev m2:=C "spelled" "Step.spelled" (M 30 5) "pactroom.steps" 600 371
abbrev ou:=C "__init__" "CellStep.__init__" (M 31 0) "pactroom.steps" 600 392
abbrev oF:=C "house" "CellStep.house" (M 31 1) "pactroom.steps" 600 399
abbrev nY:=C "lock" "TakeStep.lock" (M 32 0) "pactroom.steps" 600 418
abbrev mY:=C "step_done" "TakeStep.step_done" (M 32 1) "pactroom.steps" 600 425
abbrev oP:=C "spelled" "TakeStep.spelled" (M 32 2) "pactroom.steps" 600 432
abbrev mS:=C "lock" "MeanStep.lock" (M 33 0) "pactroom.steps" 600 451
abbrev nv:=C "step_done" "MeanStep.step_done" (M 33 1) "pactroom.steps" 600 458
abbrev ow:=C "spelled" "MeanStep.spelled" (M 33 2) "pactroom.steps" 600 465
abbrev np:=C "__init__" "SumStep.__init__" (M 34 0) "pactroom.steps" 600 484
abbrev nH:=C "house" "SumStep.house" (M 34 1) "pactroom.steps" 600 491
abbrev m4:=C "lock" "SumStep.lock" (M 34 2) "pactroom.steps" 600 498
abbrev nC:=C "step_done" "SumStep.step_done" (M 34 3) "pactroom.steps" 600 503
abbrev nD:=C "spelled" "SumStep.spelled" (M 34 4) "pactroom.steps" 600 510
abbrev nc:=C "lock" "GiveStep.lock" (M 35 0) "pactroom.steps" 600 529
abbrev oU:=C "step_done" "GiveStep.step_done" (M 35 1) "pactroom.steps" 600 536
abbrev nW:=C "sure" "GiveStep.sure" (M 35 2) "pactroom.steps" 600 543
abbrev mL:=C "spelled" "GiveStep.spelled" (M 35 3) "pactroom.steps" 600 550
abbrev nI:=C "__init__" "AddStep.__init__" (M 36 0) "pactroom.steps" 600 569
abbrev mP:=C "lock" "AddStep.lock" (M 36 1) "pactroom.steps" 600 576
abbrev nZ:=C "step_done" "AddStep.step_done" (M 36 2) "pactroom.steps" 600 583
abbrev mK:=C "back" "AddStep.back" (M 36 3) "pactroom.steps" 600 590
abbrev oQ:=C "spelled" "AddStep.spelled" (M 36 4) "pactroom.steps" 600 597
abbrev mR:=C "__init__" "PlusStep.__init__" (M 37 0) "pactroom.steps" 600 616
abbrev mW:=C "step_done" "PlusStep.step_done" (M 37 1) "pactroom.steps" 600 623
abbrev og:=C "spelled" "PlusStep.spelled" (M 37 2) "pactroom.steps" 600 630
abbrev oi:=C "__init__" "NeedStep.__init__" (M 38 0) "pactroom.steps" 600 649
abbrev ny:=C "step_done" "NeedStep.step_done" (M 38 1) "pactroom.steps" 600 656
abbrev na:=C "spelled" "NeedStep.spelled" (M 38 2) "pactroom.steps" 600 663
abbrev m1:=C "read_step" "read_step" (A 39) "pactroom.steps" 600 673
abbrev ni:=C "read_number" "read_number" (A 40) "pactroom.steps" 600 680
abbrev oV:=C "made_step" "made_step" (A 41) "pactroom.steps" 600 687
abbrev mV:=C "made_sum" "made_sum" (A 42) "pactroom.steps" 600 694
abbrev nP:=C "__init__" "Pact.__init__" (M 46 0) "pactroom.pacts" 1077 709
abbrev ox:=C "spelled" "Pact.spelled" (M 46 1) "pactroom.pacts" 1077 716
abbrev mN:=C "read_pact" "read_pact" (A 47) "pactroom.pacts" 1077 728
abbrev m6:=C "read_part" "read_part" (A 48) "pactroom.pacts" 1077 735
abbrev oN:=C "turning" "turning" (A 49) "pactroom.pacts" 1077 742
abbrev oH:=C "look" "look" (A 50) "pactroom.pacts" 1077 749
abbrev oK:=C "is_there" "is_there" (A 51) "pactroom.pacts" 1077 756
abbrev n7:=C "look_behind" "look_behind" (A 52) "pactroom.pacts" 1077 763
abbrev ov:=C "played" "played" (A 54) "pactroom.orders" 1171 768
abbrev oh:=C "is_fit" "is_fit" (A 55) "pactroom.orders" 1171 773
abbrev nw:=C "is_pact_fit" "is_pact_fit" (A 56) "pactroom.orders" 1171 780
abbrev nf:=C "is_step_fit" "is_step_fit" (A 57) "pactroom.orders" 1171 785
abbrev m8:=C "is_undo_fit" "is_undo_fit" (A 58) "pactroom.orders" 1171 790
abbrev mJ:=C "first_at_house" "first_at_house" (A 59) "pactroom.orders" 1171 797
abbrev nh:=C "hands_behind" "hands_behind" (A 60) "pactroom.orders" 1171 804
abbrev mI:=C "step_on" "step_on" (A 61) "pactroom.orders" 1171 811
abbrev oj:=C "put" "put" (A 62) "pactroom.orders" 1171 818
abbrev nt:=C "_law_cell" "_law_cell" (A 64) "law_pactroom_k82_papers_that_lie" 1249 825
abbrev oA:=C "_law_mixed" "_law_mixed" (A 65) "law_pactroom_k82_papers_that_lie" 1249 832
abbrev nF:=C "_law_stream" "_law_stream" (A 66) "law_pactroom_k82_papers_that_lie" 1249 837
abbrev nq:=C "_law_amount" "_law_amount" (A 67) "law_pactroom_k82_papers_that_lie" 1249 844
abbrev nk:=C "_law_step" "_law_step" (A 68) "law_pactroom_k82_papers_that_lie" 1249 851
abbrev mM:=C "_law_steps" "_law_steps" (A 69) "law_pactroom_k82_papers_that_lie" 1249 856
abbrev nu:=C "_law_text" "_law_text" (A 70) "law_pactroom_k82_papers_that_lie" 1249 861
abbrev nJ:=C "_law_done" "_law_done" (A 71) "law_pactroom_k82_papers_that_lie" 1249 868
abbrev nn:=C "_law_held" "_law_held" (A 72) "law_pactroom_k82_papers_that_lie" 1249 875
abbrev oz:=C "_law_walk" "_law_walk" (A 73) "law_pactroom_k82_papers_that_lie" 1249 882
abbrev ok:=C "_law_back" "_law_back" (A 74) "law_pactroom_k82_papers_that_lie" 1249 887
abbrev nd:=C "_law_new_way" "_law_new_way" (A 75) "law_pactroom_k82_papers_that_lie" 1249 894
abbrev mU:=C "_law_entries" "_law_entries" (A 76) "law_pactroom_k82_papers_that_lie" 1249 899
abbrev oL:=C "_law_first" "_law_first" (A 77) "law_pactroom_k82_papers_that_lie" 1249 904
abbrev oM:=C "_law_other_change" "_law_other_change" (A 78) "law_pactroom_k82_papers_that_lie" 1249 911
abbrev nb:=C "_law_other_hands" "_law_other_hands" (A 79) "law_pactroom_k82_papers_that_lie" 1249 918
abbrev oB:=C "_law_spoiled" "_law_spoiled" (A 80) "law_pactroom_k82_papers_that_lie" 1249 925
abbrev nA:=C "_law_known" "_law_known" (A 81) "law_pactroom_k82_papers_that_lie" 1249 932
abbrev nT:=C "_law_more" "_law_more" (A 82) "law_pactroom_k82_papers_that_lie" 1249 939
abbrev nR:=C "_law_bad" "_law_bad" (A 83) "law_pactroom_k82_papers_that_lie" 1249 946
abbrev mO:=C "_law_found" "_law_found" (A 84) "law_pactroom_k82_papers_that_lie" 1249 953
abbrev oX:=C "_law_refused" "_law_refused" (A 85) "law_pactroom_k82_papers_that_lie" 1249 960
abbrev nz:=C "law" "law" (A 86) "law_pactroom_k82_papers_that_lie" 1249 965
noncomputable def Kf:Params->Frag:=λP=>(nat_lit 2,boot_o_2 P)::(nat_lit 3,gW P)::(nat_lit 15,h)::(nat_lit 17,dY)::(nat_lit 18,h)::(nat_lit 20,d3)::(nat_lit 21,my P)::(nat_lit 22,dQ)::(nat_lit 29,h)::(nat_lit 30,d1 P)::(nat_lit 31,d4)::(nat_lit 32,dX)::(nat_lit 35,ar)::(nat_lit 42,h)::(nat_lit 43,d5 P)::(nat_lit 44,dZ)::(nat_lit 47,ar)::(nat_lit 54,h)::(nat_lit 55,d6 P)::(nat_lit 56,dP)::(nat_lit 59,ar)::(nat_lit 66,h)::(nat_lit 68,dV)::(nat_lit 69,h)::(nat_lit 71,d2)::(nat_lit 72,mz P)::(nat_lit 73,dW)::(nat_lit 74,dT P)::(nat_lit 75,dN)::(nat_lit 78,ar)::(nat_lit 85,h)::(nat_lit 87,dU)::(nat_lit 88,h)::(nat_lit 90,dS)::(nat_lit 91,mG P)::(nat_lit 92,dO)::(nat_lit 93,d0 P)::(nat_lit 94,dR)::(nat_lit 97,ar)::(nat_lit 104,h)::(nat_lit 106,f1)::(nat_lit 107,h)::(nat_lit 109,fk)::(nat_lit 110,oW P)::(nat_lit 111,fZ)::(nat_lit 112,fu P)::(nat_lit 113,fa)::(nat_lit 116,ar)::(nat_lit 123,h)::(nat_lit 125,fb)::(nat_lit 126,h)::(nat_lit 128,fw)::(nat_lit 129,nV P)::(nat_lit 130,fD)::(nat_lit 131,fN P)::(nat_lit 132,ep)::(nat_lit 142,h)::(nat_lit 144,fQ)::(nat_lit 145,h)::(nat_lit 147,fR)::(nat_lit 148,mX P)::(nat_lit 149,h)::(nat_lit 151,eB)::(nat_lit 152,h)::(nat_lit 154,e4)::(nat_lit 155,ot P)::(nat_lit 156,h)::(nat_lit 158,fA)::(nat_lit 159,h)::(nat_lit 161,et)::(nat_lit 162,oy P)::(nat_lit 163,h)::(nat_lit 165,fo)::(nat_lit 166,h)::(nat_lit 168,f6)::(nat_lit 169,n0 P)::(nat_lit 170,h)::(nat_lit 172,ee)::(nat_lit 173,h)::(nat_lit 175,fs)::(nat_lit 176,oO P)::(nat_lit 177,e1)::(nat_lit 178,eC P)::(nat_lit 179,e8)::(nat_lit 180,eW)::(nat_lit 181,eJ)::(nat_lit 184,aP)::(nat_lit 191,h)::(nat_lit 193,fc)::(nat_lit 194,h)::(nat_lit 196,el)::(nat_lit 197,nm P)::(nat_lit 198,h)::(nat_lit 199,eA P)::(nat_lit 200,ff)::(nat_lit 203,aP)::(nat_lit 210,h)::(nat_lit 212,eS)::(nat_lit 213,h)::(nat_lit 215,f5)::(nat_lit 216,nN P)::(nat_lit 217,h)::(nat_lit 218,fB P)::(nat_lit 219,e9)::(nat_lit 222,aP)::(nat_lit 229,h)::(nat_lit 231,eL)::(nat_lit 232,h)::(nat_lit 234,er)::(nat_lit 235,nj P)::(nat_lit 236,h)::(nat_lit 237,eb P)::(nat_lit 238,fT)::(nat_lit 241,h)::(nat_lit 243,e6)::(nat_lit 244,h)::(nat_lit 246,fd)::(nat_lit 247,oD P)::(nat_lit 248,h)::(nat_lit 251,fS)::(nat_lit 252,m5 P)::(nat_lit 253,h)::(nat_lit 255,fO)::(nat_lit 256,h)::(nat_lit 258,gb)::(nat_lit 259,om P)::(nat_lit 267,h)::(nat_lit 269,eE)::(nat_lit 270,h)::(nat_lit 272,fe)::(nat_lit 273,oc P)::(nat_lit 274,h)::(nat_lit 276,eZ)::(nat_lit 277,h)::(nat_lit 279,d7)::(nat_lit 280,mZ P)::(nat_lit 281,h)::(nat_lit 283,fx)::(nat_lit 284,h)::(nat_lit 286,f9)::(nat_lit 287,oq P)::(nat_lit 288,h)::(nat_lit 290,d8)::(nat_lit 291,h)::(nat_lit 293,fz)::(nat_lit 294,oY P)::(nat_lit 295,h)::(nat_lit 297,fV)::(nat_lit 298,h)::(nat_lit 300,ez)::(nat_lit 301,m3 P)::(nat_lit 302,h)::(nat_lit 304,eT)::(nat_lit 305,h)::(nat_lit 307,fJ)::(nat_lit 308,nO P)::(nat_lit 309,h)::(nat_lit 311,fh)::(nat_lit 312,h)::(nat_lit 314,eR)::(nat_lit 315,n6 P)::(nat_lit 316,f2)::(nat_lit 317,fI P)::(nat_lit 318,eX)::(nat_lit 319,fM)::(nat_lit 320,gh)::(nat_lit 323,f4 P)::(nat_lit 331,h)::(nat_lit 333,eF)::(nat_lit 334,h)::(nat_lit 336,fK)::(nat_lit 337,oE P)::(nat_lit 338,h)::(nat_lit 340,fm)::(nat_lit 341,h)::(nat_lit 343,fj)::(nat_lit 344,nx P)::(nat_lit 345,h)::(nat_lit 347,gd)::(nat_lit 348,h)::(nat_lit 350,fy)::(nat_lit 351,oT P)::(nat_lit 352,h)::(nat_lit 354,fp)::(nat_lit 355,h)::(nat_lit 357,fr)::(nat_lit 358,oJ P)::(nat_lit 359,h)::(nat_lit 361,es)::(nat_lit 362,h)::(nat_lit 364,eK)::(nat_lit 365,oG P)::(nat_lit 366,h)::(nat_lit 368,ft)::(nat_lit 369,h)::(nat_lit 371,gi)::(nat_lit 372,m2 P)::(nat_lit 373,h)::(nat_lit 374,gj P)::(nat_lit 375,lG)::(nat_lit 376,fg)::(nat_lit 377,eY)::(nat_lit 380,aJ)::(nat_lit 387,h)::(nat_lit 389,e2)::(nat_lit 390,h)::(nat_lit 392,ed)::(nat_lit 393,ou P)::(nat_lit 394,h)::(nat_lit 396,e5)::(nat_lit 397,h)::(nat_lit 399,gf)::(nat_lit 400,oF P)::(nat_lit 401,eD)::(nat_lit 402,fY P)::(nat_lit 403,ey)::(nat_lit 406,aD)::(nat_lit 413,h)::(nat_lit 415,eH)::(nat_lit 416,h)::(nat_lit 418,fE)::(nat_lit 419,nY P)::(nat_lit 420,h)::(nat_lit 422,eg)::(nat_lit 423,h)::(nat_lit 425,fL)::(nat_lit 426,mY P)::(nat_lit 427,h)::(nat_lit 429,eN)::(nat_lit 430,h)::(nat_lit 432,fq)::(nat_lit 433,oP P)::(nat_lit 434,h)::(nat_lit 435,ea P)::(nat_lit 436,em)::(nat_lit 439,aD)::(nat_lit 446,h)::(nat_lit 448,f7)::(nat_lit 449,h)::(nat_lit 451,eh)::(nat_lit 452,mS P)::(nat_lit 453,h)::(nat_lit 455,en)::(nat_lit 456,h)::(nat_lit 458,fC)::(nat_lit 459,nv P)::(nat_lit 460,h)::(nat_lit 462,fP)::(nat_lit 463,h)::(nat_lit 465,eM)::(nat_lit 466,ow P)::(nat_lit 467,h)::(nat_lit 468,ga P)::(nat_lit 469,eU)::(nat_lit 472,aJ)::(nat_lit 479,h)::(nat_lit 481,eI)::(nat_lit 482,h)::(nat_lit 484,eQ)::(nat_lit 485,np P)::(nat_lit 486,h)::(nat_lit 488,ew)::(nat_lit 489,h)::(nat_lit 491,f8)::(nat_lit 492,nH P)::(nat_lit 493,h)::(nat_lit 495,f3)::(nat_lit 496,h)::(nat_lit 498,eo)::(nat_lit 499,m4 P)::(nat_lit 500,h)::(nat_lit 503,fv)::(nat_lit 504,nC P)::(nat_lit 505,h)::(nat_lit 507,gc)::(nat_lit 508,h)::(nat_lit 510,fW)::(nat_lit 511,nD P)::(nat_lit 512,gg)::(nat_lit 513,eV P)::(nat_lit 514,fF)::(nat_lit 517,aD)::(nat_lit 524,h)::(nat_lit 526,ei)::(nat_lit 527,h)::(nat_lit 529,ej)::(nat_lit 530,nc P)::(nat_lit 531,h)::(nat_lit 533,ec)::(nat_lit 534,h)::(nat_lit 536,fH)::(nat_lit 537,oU P)::(nat_lit 538,h)::(nat_lit 540,eO)::(nat_lit 541,h)::(nat_lit 543,fG)::(nat_lit 544,nW P)::(nat_lit 545,h)::(nat_lit 547,fi)::(nat_lit 548,h)::(nat_lit 550,ev)::(nat_lit 551,mL P)::(nat_lit 552,h)::(nat_lit 553,ef P)::(nat_lit 554,fn)::(nat_lit 557,aD)::(nat_lit 564,h)::(nat_lit 566,e3)::(nat_lit 567,h)::(nat_lit 569,fl)::(nat_lit 570,nI P)::(nat_lit 571,h)::(nat_lit 573,eP)::(nat_lit 574,h)::(nat_lit 576,ex)::(nat_lit 577,mP P)::(nat_lit 578,h)::(nat_lit 580,eG)::(nat_lit 581,h)::(nat_lit 583,d9)::(nat_lit 584,nZ P)::(nat_lit 585,h)::(nat_lit 587,ek)::(nat_lit 588,h)::(nat_lit 590,fX)::(nat_lit 591,mK P)::(nat_lit 592,h)::(nat_lit 594,fU)::(nat_lit 595,h)::(nat_lit 597,e7)::(nat_lit 598,oQ P)::(nat_lit 599,e0)::(nat_lit 600,eu P)::(nat_lit 601,f0)::(nat_lit 604,aJ)::(nat_lit 611,h)::(nat_lit 613,lm)::(nat_lit 614,h)::(nat_lit 616,k7)::(nat_lit 617,mR P)::(nat_lit 618,h)::(nat_lit 620,kf)::(nat_lit 621,h)::(nat_lit 623,iS)::(nat_lit 624,mW P)::(nat_lit 625,h)::(nat_lit 627,kO)::(nat_lit 628,h)::(nat_lit 630,jN)::(nat_lit 631,og P)::(nat_lit 632,ir)::(nat_lit 633,ik P)::(nat_lit 634,lE)::(nat_lit 637,aJ)::(nat_lit 644,h)::(nat_lit 646,k5)::(nat_lit 647,h)::(nat_lit 649,kR)::(nat_lit 650,oi P)::(nat_lit 651,h)::(nat_lit 653,j5)::(nat_lit 654,h)::(nat_lit 656,l0)::(nat_lit 657,ny P)::(nat_lit 658,h)::(nat_lit 660,iI)::(nat_lit 661,h)::(nat_lit 663,iw)::(nat_lit 664,na P)::(nat_lit 665,jp)::(nat_lit 666,ji P)::(nat_lit 667,ku)::(nat_lit 670,h)::(nat_lit 673,ly)::(nat_lit 674,m1 P)::(nat_lit 675,h)::(nat_lit 677,hO)::(nat_lit 678,h)::(nat_lit 680,jr)::(nat_lit 681,ni P)::(nat_lit 682,h)::(nat_lit 684,lD)::(nat_lit 685,h)::(nat_lit 687,lL)::(nat_lit 688,oV P)::(nat_lit 689,h)::(nat_lit 691,il)::(nat_lit 692,h)::(nat_lit 694,iO)::(nat_lit 695,mV P)::(nat_lit 696,jT)::(nat_lit 704,h)::(nat_lit 706,la)::(nat_lit 707,h)::(nat_lit 709,ky)::(nat_lit 710,nP P)::(nat_lit 711,h)::(nat_lit 713,lM)::(nat_lit 714,h)::(nat_lit 716,lU)::(nat_lit 717,ox P)::(nat_lit 718,jX)::(nat_lit 719,hR P)::(nat_lit 720,jU)::(nat_lit 721,hX)::(nat_lit 722,i1)::(nat_lit 725,h)::(nat_lit 728,lX)::(nat_lit 729,mN P)::(nat_lit 730,h)::(nat_lit 732,kC)::(nat_lit 733,h)::(nat_lit 735,kz)::(nat_lit 736,m6 P)::(nat_lit 737,h)::(nat_lit 739,lF)::(nat_lit 740,h)::(nat_lit 742,lw)::(nat_lit 743,oN P)::(nat_lit 744,h)::(nat_lit 746,jS)::(nat_lit 747,h)::(nat_lit 749,io)::(nat_lit 750,oH P)::(nat_lit 751,h)::(nat_lit 753,k1)::(nat_lit 754,h)::(nat_lit 756,jz)::(nat_lit 757,oK P)::(nat_lit 758,h)::(nat_lit 760,ko)::(nat_lit 761,h)::(nat_lit 763,iK)::(nat_lit 764,n7 P)::(nat_lit 765,h)::(nat_lit 768,jd)::(nat_lit 769,ov P)::(nat_lit 770,h)::(nat_lit 773,ii)::(nat_lit 774,oh P)::(nat_lit 775,h)::(nat_lit 777,jq)::(nat_lit 778,h)::(nat_lit 780,jy)::(nat_lit 781,nw P)::(nat_lit 782,h)::(nat_lit 785,ib)::(nat_lit 786,nf P)::(nat_lit 787,h)::(nat_lit 790,iD)::(nat_lit 791,m8 P)::(nat_lit 792,h)::(nat_lit 794,jV)::(nat_lit 795,h)::(nat_lit 797,ix)::(nat_lit 798,mJ P)::(nat_lit 799,h)::(nat_lit 801,kP)::(nat_lit 802,h)::(nat_lit 804,lq)::(nat_lit 805,nh P)::(nat_lit 806,h)::(nat_lit 808,jm)::(nat_lit 809,md)::(nat_lit 811,jw)::(nat_lit 812,mI P)::(nat_lit 813,h)::(nat_lit 815,kB)::(nat_lit 816,h)::(nat_lit 818,je)::(nat_lit 819,oj P)::(nat_lit 820,h)::(nat_lit 822,kJ)::(nat_lit 823,h)::(nat_lit 825,hZ)::(nat_lit 826,nt P)::(nat_lit 827,h)::(nat_lit 829,kE)::(nat_lit 830,h)::(nat_lit 832,iz)::(nat_lit 833,oA P)::(nat_lit 834,h)::(nat_lit 837,li)::(nat_lit 838,nF P)::(nat_lit 839,h)::(nat_lit 841,jZ)::(nat_lit 842,h)::(nat_lit 844,kx)::(nat_lit 845,nq P)::(nat_lit 846,h)::(nat_lit 848,jt)::(nat_lit 849,h)::(nat_lit 851,jD)::(nat_lit 852,nk P)::(nat_lit 853,h)::(nat_lit 856,it)::(nat_lit 857,mM P)::(nat_lit 858,h)::(nat_lit 861,ka)::(nat_lit 862,nu P)::(nat_lit 863,h)::(nat_lit 865,jc)::(nat_lit 866,h)::(nat_lit 868,kS)::(nat_lit 869,nJ P)::(nat_lit 870,h)::(nat_lit 872,jA)::(nat_lit 873,h)::(nat_lit 875,kF)::(nat_lit 876,nn P)::(nat_lit 877,h)::(nat_lit 879,l7)::(nat_lit 880,h)::(nat_lit 882,h3)::(nat_lit 883,oz P)::(nat_lit 884,h)::(nat_lit 887,ic)::(nat_lit 888,ok P)::(nat_lit 889,h)::(nat_lit 891,iY)::(nat_lit 892,h)::(nat_lit 894,ja)::(nat_lit 895,nd P)::(nat_lit 896,h)::(nat_lit 899,jE)::(nat_lit 900,mU P)::(nat_lit 901,h)::(nat_lit 904,lr)::(nat_lit 905,oL P)::(nat_lit 906,h)::(nat_lit 908,lH)::(nat_lit 909,h)::(nat_lit 911,k9)::(nat_lit 912,oM P)::(nat_lit 913,h)::(nat_lit 915,i2)::(nat_lit 916,h)::(nat_lit 918,lY)::(nat_lit 919,nb P)::(nat_lit 920,h)::(nat_lit 922,ls)::(nat_lit 923,h)::(nat_lit 925,lh)::(nat_lit 926,oB P)::(nat_lit 927,h)::(nat_lit 929,hL)::(nat_lit 930,h)::(nat_lit 932,iC)::(nat_lit 933,nA P)::(nat_lit 934,h)::(nat_lit 936,jg)::(nat_lit 937,h)::(nat_lit 939,ll)::(nat_lit 940,nT P)::(nat_lit 941,h)::(nat_lit 943,i3)::(nat_lit 944,h)::(nat_lit 946,lR)::(nat_lit 947,nR P)::(nat_lit 948,h)::(nat_lit 950,lu)::(nat_lit 951,h)::(nat_lit 953,kI)::(nat_lit 954,mO P)::(nat_lit 955,h)::(nat_lit 957,jM)::(nat_lit 958,h)::(nat_lit 960,i7)::(nat_lit 961,oX P)::(nat_lit 962,h)::(nat_lit 965,lV)::(nat_lit 966,nz P)::[]
noncomputable def mt:Nat->Nat->Nat->List Addr:=fun k=>Nat.rec (fun _ _=>[]) (fun _ f n a=>bif n.beq 0 then [] else (a+n%16)::f (n/16) (a+n%16)) k
noncomputable def Ka:List Addr:=mt 9999 0x13112121121211212112121121211212112121121211311311212113112121121211212113113112121121211311212112121121211212112121121211311311212113113112121121211212112121121211331111112121121281121211212112121133111121211212112127311112121121211212731111212112121121211212112127311112121121211212112127311112121131121211212112127311112121121211212731111212112121121273111121211212731111112121121211212112121121211212831111112121121211212112121121211212112128121211311212311112127311112127311112127311111121211212112121121211212a11112127311112127311112127311112127311731173111711212c12 0
theorem ke(P:Params):Ka=(Kf P).map (·.1):=by kernel_rfl
noncomputable abbrev ct:Hook:=kmHook Kf Ka ke [788,807]
noncomputable abbrev mf:RowW:=PySem.Challenge.rw_pactroom_k82_papers_that_lie.row.toRowW
noncomputable abbrev lo:List Str:=[Str.ofString "SHAPES"]
noncomputable abbrev lvv:List (Str×WData):=[]
noncomputable def qv:Program:={Z with main:={Z.main with body:=[A 0,A 2,A 3,A 4,A 5,A 6,A 7,A 8,A 10,A 11,A 12,A 13,A 15,A 16,A 17,A 18,A 19,A 20,A 21,A 22,A 23,A 24,A 25,A 26,A 28,A 29,A 30,A 31,A 32,A 33,A 34,A 35,A 36,A 37,A 38,A 39,A 40,A 41,A 42,A 44,A 45,A 46,A 47,A 48,A 49,A 50,A 51,A 52,A 54,A 55,A 56,A 57,A 58,A 59,A 60,A 61,A 62,A 64,A 65,A 66,A 67,A 68,A 69,A 70,A 71,A 72,A 73,A 74,A 75,A 76,A 77,A 78,A 79,A 80,A 81,A 82,A 83,A 84,A 85,A 86]}}
noncomputable abbrev Xt:Shared->Bool:=λs=>xlAt qv lvv s&&recOk (RowW.records mf) s
theorem pa(w:World):((boot_heap w.params).isNs mainGlobals&&(H []:Array GenState).size==0,(boot_heap w.params).objs.size,(boot_heap w.params).nsMap mainGlobals "__annotations__")=(true,11,(V 6)):=by kernel_rfl
theorem o5(w:World)(os:OsState):(staticsOk (importedModules Z.main.body) (boot_heap w.params) (aR w.params)&&namesBound Z (aR w.params)&&gensDone ⟨aR w.params,Array.mk [],(@Drawn.mk 0 0 0 0),1460,os⟩&&laidKept (boot_heap w.params) (aR w.params))=true:=by kernel_rfl
theorem o0(w:World)(os:OsState):openSeen qv lo (importedModules Z.main.body) Xt true ⟨aR w.params,Array.mk [],(@Drawn.mk 0 0 0 0),1460,os⟩=openGood qv lo:=by kernel_rfl
theorem o4(w:World)(os:OsState):Hook.obs ct ⟨aR w.params,Array.mk [],(@Drawn.mk 0 0 0 0),1460,os⟩=Hook.val ct w:=by kernel_rfl
theorem left:LeftO Z qv lo Xt (Hook.obs ct) (Hook.val ct) 16186:=LeftO.of_pieces (boot_open (by kernel_rfl) (by kernel_rfl) (λs=>by kernel_rfl)) pa o7 (by decide) λw=>funext λos=>looks_pair (o5 w os) (looks_pair (o0 w os) (o4 w os))
end
end Q
end
section
open PySem
abbrev tz:î Str:=["self","hand","value_of"]
abbrev vi:î Str:=["self"]
abbrev vn:î Str:=["cells","before","entry","pact"]
abbrev vF:î Str:=["cells","before","entry","pact","steps","undos","left","step","changes"]
abbrev vT:î Str:=["self","at"]
abbrev y9:î Str:=["self","first","last"]
abbrev GJ:î Str:=["_law_way","_law_cells","_law_entries_here"]
abbrev HH:î Str:=["_law_script","_law_cells","_law_sizes","_law_ways","_law_entries_here","_law_cell_here","_law_p"]
abbrev HI:î Str:=["self","value_of"]
abbrev HK:î Str:=["_law_cells","_law_entries_here"]
abbrev HL:î Str:=["_law_cell_here","_law_many"]
abbrev KP:î Str:=["_law_script","_law_first_here","_law_cells","_law_entries_here","_law_at","_law_bad_here","_law_due","_law_handed","_law_found_here"]
abbrev KQ:î Str:=["_law_manner","_law_steps_here"]
abbrev KR:î Str:=["_law_step_here","_law_hand","_law_cells"]
abbrev KS:î Str:=["_law_cell_here","_law_many","_law_sizes"]
abbrev KU:î Str:=["_law_p","_law_steps_here","_law_cells","_law_entries_here"]
abbrev KW:î Str:=["self","manner","steps"]
abbrev L0:î Str:=["_law_script","_law_k"]
abbrev MC:î Str:=["_law_way","_law_cells","_law_entries_here","_law_p","_law_steps_here","_law_at","_law_changes","_law_row"]
abbrev MD:î Str:=["self","where","cell"]
abbrev ME:î Str:=["self","amount"]
abbrev MF:î Str:=["cells","step","hand"]
abbrev MG:î Str:=["cells","entries"]
abbrev MH:î Str:=["_law_one","_law_other"]
abbrev MI:î Str:=["_law_entries_here","_law_at","_law_cell_here"]
abbrev MJ:î Str:=["self","where","cell","amount"]
abbrev MK:î Str:=["_law_change","_law_cell_here"]
abbrev ML:î Str:=["cells","steps","hand"]
abbrev MM:î Str:=["self","where","low","high"]
abbrev MN:î Str:=["_law_cell_here"]
abbrev MO:î Str:=["_law_script"]
abbrev MQ:î Str:=["_law_p","_law_cell_here","_law_sizes"]
abbrev MV:î Str:=["_law_cell_here","_law_k"]
abbrev MW:î Str:=["cells","step","changes"]
abbrev MX:î Str:=["self","text"]
abbrev MY:î Str:=["self","sign"]
abbrev Na:î Str:=["where","low","high"]
abbrev Nb:î Str:=["_law_cell_here","_law_p","_law_text_here","_law_more_here"]
abbrev Nc:î Str:=["_law_hands","_law_cell_here"]
abbrev Nd:î Str:=["_law_entry","_law_cell_here"]
abbrev Nf:î Str:=["text"]
abbrev Ng:î Str:=["cells","before","entry","pact","start","hand","hands"]
abbrev Nh:î Str:=["cells","entries","now","ahead","at","entry","before"]
abbrev Ni:î Str:=["self","deep"]
abbrev Nj:î Str:=["_law_script","_law_cells"]
abbrev Nk:î Str:=["_law_cell_here","_law_many","_law_sizes","_law_xs"]
abbrev Nl:î Str:=["word","numbers"]
abbrev Nm:î Str:=["cells","before","entry"]
abbrev Nn:î Str:=["text","number"]
abbrev No:î Str:=["_law_script","_law_cells","_law_k","_law_xs"]
abbrev Np:î Str:=["_law_xs","_law_sizes"]
abbrev Nq:î Str:=["_law_manner","_law_steps_here","_law_texts"]
abbrev Nr:î Str:=["pact","sizes"]
abbrev Nt:î Str:=["pact"]
abbrev Nu:î Str:=["_law_cells","_law_entries_here","e"]
abbrev Nv:î Str:=["_law_step_here"]
abbrev Nw:î Str:=["word","letter"]
abbrev Nx:î Str:=["steps","start"]
end
theorem Qa(n:Nat):(0:Int)<(n+1:Nat):=Int.ofNat_lt.mpr (Nat.succ_pos n)
namespace L2
open PySem PySem.Spec PyProof.Rows
section
variable {X:Cx}
def fH:cV X (.builtin "isinstance") (λxs H Q=>∃x t n b,xs=[x,.ty n]/\TyOf X.K H x t/\PySem.W.kitOne X.K t (.type n)=some b/\Q (.bl b) H):=by
 intro d s σ H xs l Q I r h
 obtain ⟨x,t,n,b,rfl,ty,e,q⟩:=h
 obtain ⟨u,f,rfl,g,j⟩:=mY r
 cases (show f=Value.type n from j)
 exact qk I g ty e λk=>⟨.bl b,H,I.tok _,ϱ,q⟩
def rX:cV X (.builtin "isinstance") (λxs H Q=>∃x t C b,xs=[x,.ref C]/\TyOf X.K H x t/\PySem.W.kitOne X.K t (.ref C)=some b/\Q (.bl b) H):=by
 intro d s σ H xs o Q I r h
 obtain ⟨x,t,C,b,rfl,f,e,q⟩:=h
 obtain ⟨u,g,rfl,j,k⟩:=mY r
 cases (show g=Value.ref C from k)
 exact qk I j f e λl=>⟨.bl b,H,I.tok _,ϱ,q⟩
def oB:MtR X "str.startswith" (λx vs H Q=>∃z y i,x=.str z/\vs=[.str y,.int i]/\Q (.bl (Txt.startswith3 z y i)) H):=by
 intro d s σ H x xs v k Q I e r h
 obtain ⟨z,y,i,rfl,rfl,q⟩:=h
 obtain ⟨t,rfl⟩:=e
 obtain ⟨u,f,rfl,⟨g,rfl⟩,⟨j,rfl⟩⟩:=mY r
 exact SC.startswith3 ⟨.bl _,H,I,ϱ,q⟩
def pB:MtR X "str.startswith" (λx vs H Q=>∃z y,x=.str z/\vs=[.str y]/\Q (.bl (Txt.startswith z y)) H):=by
 intro d s σ H x xs v g Q I e r h
 obtain ⟨z,y,rfl,rfl,q⟩:=h
 obtain ⟨t,rfl⟩:=e
 obtain ⟨u,rfl,⟨f,rfl⟩⟩:=cJ r
 exact SC.startswith ⟨.bl _,H,I,ϱ,q⟩
def uC:MtR X "str.isdigit" (λx vs H Q=>∃z,x=.str z/\vs=[]/\Q (.bl (Txt.isdigit z)) H):=by
 intro d s σ H x xs v f Q I e r h
 obtain ⟨z,rfl,rfl,q⟩:=h
 obtain ⟨t,rfl⟩:=e
 cases r
 exact SC.isdigit ⟨.bl _,H,I,ϱ,q⟩
def pE:cV X (.type "int") (λxs H Q=>∃z n,xs=[.str z]/\PySem.intText? z=some n/\z.length<=640/\Q (.int n) H):=by
 intro d s σ H xs g Q I r h
 obtain ⟨z,n,rfl,e,f,q⟩:=h
 obtain ⟨u,rfl,⟨t,rfl⟩⟩:=cJ r
 exact PySem.W.KIN.call_text e f ⟨.int n,H,I.tok _,⟨_,ϱ⟩,q⟩
def Cd:SlR X (λx lo hi H Q=>∃z,x=.str z/\z.length<=sizeLine/\Q (.str (Txt.slice z lo hi)) H):=by
 intro g s σ H x v vl r lo hi w Q I j e pl o h
 obtain ⟨z,rfl,d,q⟩:=h
 obtain ⟨t,rfl⟩:=j
 refine ⟨"str",_,F.slot_str_getitem.lookup,Ī _ _ _,?_⟩
 cases pl<;>cases o
 .exact ı (l:=none) (u:=none) (st:=none) e rfl (post_val_or_str ⟨Λ (Txt.slice_le z _ _) d,λf k=>⟨.str _,H,I.tok _,⟨_,ϱ⟩,q⟩⟩)
 .exact ı (l:=none) (u:=some (_,_)) (st:=none) e rfl (post_val_or_str ⟨Λ (Txt.slice_le z _ _) d,λf k=>⟨.str _,H,I.tok _,⟨_,ϱ⟩,q⟩⟩)
 .exact ı (l:=some (_,_)) (u:=none) (st:=none) e rfl (post_val_or_str ⟨Λ (Txt.slice_le z _ _) d,λf k=>⟨.str _,H,I.tok _,⟨_,ϱ⟩,q⟩⟩)
 .exact ı (l:=some (_,_)) (u:=some (_,_)) (st:=none) e rfl (post_val_or_str ⟨Λ (Txt.slice_le z _ _) d,λf k=>⟨.str _,H,I.tok _,⟨_,ϱ⟩,q⟩⟩)
def tF(hc:X.calm=true):cV X (.builtin "all") (λxs H Q=>∃(p:ø) (bs:î Bool),xs=[.ref p]/\NO X.K H p (bs.map V.bl)/\Q (.bl (bs.all id)) H):=by
 intro w s σ H xs us Q I r h
 obtain ⟨p,bs,rfl,x,q⟩:=h
 obtain ⟨u,rfl,y⟩:=cJ r
 cases (show u=Value.ref p from y)
 obtain ⟨d,o,pl,P⟩:=I.list x
 have k:=pl.isList
 have l:p<s.heap.objs.size:=by obtain ⟨_,e,_⟩:=k;exact η e
 have C:X.A.handled=none:=I.ok.hd hc
 have f:bs.length=d.length:=by have:=o.length;rw [ν] at this;exact this
 refine call_all_walk (wpAny_pyIter_list k ?_)
 refine ⟨s.heap.objs.size,[s.heap.objs.size,p],[s.heap.objs.size],d.toArray.size,_,_,λi=>(bs[i]?).getD true,ϱ,Walks.list (A:=X.A.in1) C _ p (Φ l) d.toArray,
  ⟨⟨_,ψ _ rfl,ϱ,ϱ⟩,k.push _⟩,λi v F G Y J L=>?_,λZ tk O=>?_⟩
 .have g:d[i]?=some v:=by simpa using J
  have W:i<d.length:=(ſ.mp g).1
  have D:(bs.map V.bl)[i]?=some (V.bl (bs[i]'(ω))):=by rw [Ż,ξ ω];rfl
  obtain ⟨U,t,z⟩:=o.get D
  rw [g] at t
  cases t
  cases (show v=Value.bool _ from z)
  have j:G ((bs[i]?).getD true) F:=L
  rw [ξ ω] at j
  exact Œ j
 .have e:((List.range d.toArray.size).all λi=>(bs[i]?).getD true)=bs.all id:=by
   rw [Ű,← f];exact LSm.range_all bs
  rw [e]
  exact ⟨.bl _,H,I.kept (LSm.kept_iter O),ϱ,q⟩
end
def dv(env:Env):î (Str×NameKind)->ċ->ċ
 | [],cs=>cs
 | (n,k)::r,cs=>dv env r (if k==.free then match env.cells.lookup n with | some a=>(n,a)::cs | none=>cs else cs)
def mw{scope:Scope}{env:Env}(h:∀y∈scope.names,y.2=.free->∃c,env.cells.lookup y.1=some c):closureFor scope env=pure (dv env scope.names []):=by
 have f:∀(l:î (Str×NameKind)) (d:ċ),(∀y∈l,y.2=.free->∃c,env.cells.lookup y.1=some c) ->
   (forIn l d (λ(x:Str×NameKind) (r:ċ)=>(if (x.2==NameKind.free)=true then (do let a ← cellOf env x.1;pure (ForInStep.yield ((x.1,a)::r))) else pure (ForInStep.yield r):Sem (ForInStep (ċ)))))=(pure (dv env l d):Sem _):=by
  intro l
  induction l with
  | nil=>intro d _;rfl
  | cons y r ih =>
   intro d q
   obtain ⟨n,k⟩:=y
   have o:∀z∈r,z.2=.free->∃c,env.cells.lookup z.1=some c:=λz t=>q z (Θ _ t)
   rw [List.forIn_cons]
   by_cases hk:(k==NameKind.free)=true
   .obtain ⟨c,j⟩:=q (n,k) List.mem_cons_self (by simpa using hk)
    have e:cellOf env n=pure c:=by unfold cellOf;rw [j]
    simp only [hk,if_true,e,pure_bind,dv,j]
    exact ih _ o
   .have g:(k==NameKind.free)=false:=by simpa using hk
    simp only [g,Bool.false_eq_true,if_false,pure_bind,dv]
    exact ih _ o
 have e:closureFor scope env=(forIn scope.names ([]:ċ) (λ(x:Str×NameKind) (r:ċ)=>(if (x.2==NameKind.free)=true then (do let a ← cellOf env x.1;pure (ForInStep.yield ((x.1,a)::r))) else pure (ForInStep.yield r):Sem (ForInStep (ċ)))) >>= λd=>pure d):=by
  unfold closureFor
  rfl
 rw [e,f scope.names [] h]
 all_goals rfl
theorem lC{env:Env}:∀(l:î (Str×NameKind)) (cs:ċ),(∀p∈cs,env.cells.lookup p.1=some p.2)->∀p∈dv env l cs,env.cells.lookup p.1=some p.2
 | [],cs,h,p,hp=>h p hp
 | (n,k)::r,cs,h,p,hp=>by
  unfold dv at hp
  refine lC r _ ?_ p hp
  split
  .split
   .rename_i a ea
    intro q hq
    rcases ϕ.mp hq with e | hq
    .rw [e];exact ea
    .exact h q hq
   .exact h
  .exact h
theorem lR{env:Env}:∀(l:î (Str×NameKind)) (cs:ċ) {y:Str},(∃p∈cs,p.1=y)->∃p∈dv env l cs,p.1=y
 | [],cs,y,h=>h
 | (n,k)::r,cs,y,⟨p,hp,e⟩=>by
  unfold dv
  refine lR r _ ?_
  split
  .split
   .exact ⟨p,Θ _ hp,e⟩
   .exact ⟨p,hp,e⟩
  .exact ⟨p,hp,e⟩
theorem qu{env:Env}:∀(l:î (Str×NameKind)) (cs:ċ) {y:Str} {c:ø},(y,NameKind.free)∈l->env.cells.lookup y=some c->∃p∈dv env l cs,p.1=y
 | (n,k)::r,cs,y,c,hm,hc=>by
  unfold dv
  rcases ϕ.mp hm with e | hm
  .cases e
   refine lR r _ ?_
   rw [ů (by rfl),hc]
   exact ⟨_,Ω,ϱ⟩
  .exact qu r _ hm hc
theorem jc{α:Type}:∀{l:î (Str×α)} {p:Str×α},p∈l->∃c,l.lookup p.1=some c
 | q::l,p,h=>by
  obtain ⟨n,a⟩:=q
  rw [List.lookup_cons]
  split
  .exact ⟨_,ϱ⟩
  .rename_i hne
   rcases ϕ.mp h with e | h
   .subst e;simp at hne
   .exact jc h
def kg{env:Env}{l:î (Str×NameKind)}{y:Str}{c:ø}(g:(y,NameKind.free)∈l)(hc:env.cells.lookup y=some c):(dv env l []).lookup y=some c:=by
 obtain ⟨p,f,e⟩:=qu l [] g hc
 obtain ⟨h,d⟩:=jc f
 rw [e] at d
 have q:=lC l [] (λ_ z=>nomatch z) _ (Ũ d)
 rw [hc] at q
 exact d▸q.symm
def c7{env:Env}{l:î (Str×NameKind)}{y:Str}{c:ø}(h:(dv env l []).lookup y=some c):env.cells.lookup y=some c :=
 lC l [] (λ_ z=>nomatch z) _ (Ũ h)
theorem gB{env:Env}:∀{names:î (Str×NameKind)} {x:Str} {k:NameKind},(names.map λ(n,k)=>if (k==NameKind.free&&env.scope.kind==.function&&env.kindOf n==some .cell) then (n,NameKind.cell) else (n,k)).lookup x=some k ->
  ∃k',names.lookup x=some k'/\(k'=k\/k'=.free)
 | [],_,_,h=>by simp at h
 | (n,k0)::r,x,k,h=>by
  have ih:=@gB env r x k
  have h:List.lookup x ((if (k0==NameKind.free&&env.scope.kind==.function&&env.kindOf n==some .cell)=true then (n,NameKind.cell) else (n,k0))::_)=some k:=h
  cases hx:x==n with
  | true =>
   refine ⟨k0,by simp only [List.lookup_cons,hx],?_⟩
   by_cases hc:(k0==NameKind.free&&env.scope.kind==.function&&env.kindOf n==some .cell)=true
   .refine .inr ?_
    simp only [Bool.and_eq_true] at hc
    exact Ĭ.mp hc.1.1
   .rw [ŵ hc] at h
    simp only [List.lookup_cons,hx] at h
    exact .inl (Δ h)
  | false =>
   have h2:List.lookup x (r.map λ(n,k)=>if (k==NameKind.free&&env.scope.kind==.function&&env.kindOf n==some .cell) then (n,NameKind.cell) else (n,k))=some k:=by
    by_cases hc:(k0==NameKind.free&&env.scope.kind==.function&&env.kindOf n==some .cell)=true
    .rw [if_pos hc] at h;simp only [List.lookup_cons,hx] at h;exact h
    .rw [if_neg hc] at h;simp only [List.lookup_cons,hx] at h;exact h
   obtain ⟨k',d,e⟩:=ih h2
   exact ⟨k',by simp only [List.lookup_cons,hx];exact d,e⟩
theorem gO{env:Env}:∀{names:î (Str×NameKind)} {x:Str},names.lookup x=some .free ->
  (names.map λ(n,k)=>if (k==NameKind.free&&env.scope.kind==.function&&env.kindOf n==some .cell) then (n,NameKind.cell) else (n,k)).lookup x=some .cell \/
  (names.map λ(n,k)=>if (k==NameKind.free&&env.scope.kind==.function&&env.kindOf n==some .cell) then (n,NameKind.cell) else (n,k)).lookup x=some .free
 | [],_,h=>by simp at h
 | (n,k0)::r,x,h=>by
  have ih:=@gO env r x
  show List.lookup x ((if (k0==NameKind.free&&env.scope.kind==.function&&env.kindOf n==some .cell)=true then (n,NameKind.cell) else (n,k0))::_)=some .cell\/List.lookup x ((if (k0==NameKind.free&&env.scope.kind==.function&&env.kindOf n==some .cell)=true then (n,NameKind.cell) else (n,k0))::_)=some .free
  cases hx:x==n with
  | true =>
   simp only [List.lookup_cons,hx] at h
   by_cases hc:(k0==NameKind.free&&env.scope.kind==.function&&env.kindOf n==some .cell)=true
   .rw [if_pos hc];simp only [List.lookup_cons,hx];simp
   .rw [if_neg hc];simp only [List.lookup_cons,hx];exact .inr (by rw [Option.some.inj h])
  | false =>
   simp only [List.lookup_cons,hx] at h
   by_cases hc:(k0==NameKind.free&&env.scope.kind==.function&&env.kindOf n==some .cell)=true
   .rw [if_pos hc];simp only [List.lookup_cons,hx];exact ih h
   .rw [if_neg hc];simp only [List.lookup_cons,hx];exact ih h
def Its(z:Str):It:=⟨λi _=>i<z.length,λi H x H'=>H'=H/\∃c,z.cps.toList[i]?=some c/\x=.str ⟨#[c]⟩,λi _=>z.length<=i⟩
structure StrIt(P:ù)(w:ö)(it:ø)(ty:String)(z:Str)(t:Tok):Prop where
 W:∀A':ô,A'.handled=none->Walks P w A' it [it] [it] z.cps.size (SignAt z) (λi h=>h.IsStrIter it ty z t i)
 en:∀(A:ô) (i:Nat) (s:ú) (Q:ý->ú->Prop) (E:Đ),A.handled=none->s.heap.IsStrIter it ty z t i->z.cps[i]?=none ->
  (∀h',Heap.ExtBut it s.heap h'->Q none {s with heap:=h'})->wpAny (model P w) A (pyNext (.ref it)) Q E s
 me:∀(A:ô) (i:Nat) (s:ú) (Q:Đ) (E:Đ),s.heap.IsStrIter it ty z t i->Q (.ref it) s->wpAny (model P w) A (pyIter (.ref it)) Q E s
 ne:["enumerate","zip","dict_itemiterator","dict_reverseitemiterator","odict_iterator","itertools.zip_longest","itertools.pairwise"].contains ty=false
def StrIt.ascii{P:ù}{w:ö}(it:ø)(z:Str)(t:Tok):StrIt P w it "str_ascii_iterator" z t :=
 ⟨λ_ hA=>Walks.strAscii hA it z t,λ_ _ _ _ _ hA st hx hQ=>wpAny_pyNext_ascii_end hA st hx hQ,λ_ _ _ _ _ st h=>wpAny_pyIter_striter_ascii st h,ζ⟩
def StrIt.wide{P:ù}{w:ö}(it:ø)(z:Str)(t:Tok):StrIt P w it "str_iterator" z t :=
 ⟨λ_ hA=>Walks.strWide hA it z t,λ_ _ _ _ _ hA st hx hQ=>wpAny_pyNext_wide_end hA st hx hQ,λ_ _ _ _ _ st h=>wpAny_pyIter_striter_wide st h,ζ⟩
def xn{P:ù}{w:ö}{K:ò}{tg:ï}{z:Str}{t:Tok}{it:ø}{U:String}(S:StrIt P w it U z t) :
  zY P w K tg (Its z) [it] it (λi h=>h.IsStrIter it U z t i) where
 mem:=by simp
 obj:=λi h st b hb=>by
  have e:b=it:=by simpa using hb
  subst e
  obtain ⟨o,e,c,d⟩:=st
  exact ⟨o,e,λv q=>by cases d▸q⟩
 keep:=λi h h' st k=>by
  obtain ⟨o,e,r⟩:=st
  exact ⟨o,k it (by simp) o e,r⟩
 item:=by
  intro X D F G J i f s σ H E I j st L
  subst D F G
  obtain ⟨l,f1,f2,f3,x,y⟩:=j it (by simp)
  refine (S.W X.A (I.ok.hd J)).item i s _ _ L st λv h' O hv g kk=>?_
  obtain ⟨c,u,C,rfl⟩:=hv
  have I1:NM X f σ H {s with heap:=h',toks:=O}:=I.turned (λb o hb e=>kk b o (by simpa using hb) e) l f1 f3 x y
  obtain ⟨o,e,Y,Z⟩:=id g
  exact ⟨_,ϱ,vS (s:={s with heap:=h',toks:=O}) e Y Z S.ne ⟨.str ⟨#[c]⟩,H,I1,⟨u,ϱ⟩,⟨ϱ,c,by rw [ġ];exact C,ϱ⟩,g,λb hb=>(j b hb).1⟩⟩
 done:=by
  intro X D F G J i f s σ H E I j st L
  subst D F G
  obtain ⟨l,f1,f2,f3,x,y⟩:=j it (by simp)
  refine S.en X.A i s _ _ (I.ok.hd J) st ?_ λh' eb=>⟨ϱ,I.turned (t':=s.toks) (λb o hb e=>eb b o hb e) l f1 f3 x y⟩
  exact Array.getElem?_eq_none L
 self:=λA i s Q E st h=>S.me A i s Q E st h
def Fk(tl:TE):TI:=fun σ H R=>tl σ H λx H1=>∃z,x=.str z/\R (Its z) H1
def Cr{X:Cx}{r l:ï}{u:TE}(F:PE X l u):PI X r l (Fk u):=by
 intro f s σ H R I h
 refine Zg (F f s σ H _ I h) λv d ⟨x,H1,j,y,q1⟩=>?_
 obtain ⟨z,rfl,q⟩:=q1
 obtain ⟨t,rfl⟩:=y
 have g:∀(o:Obj) (k:String),StrIt X.prog X.w d.heap.objs.size k z t->(d.heap.push o).IsStrIter d.heap.objs.size k z t 0->PIE X f σ r R (.ref d.heap.objs.size) {d with heap:=d.heap.push o}:=λo k S C=>by
  refine ⟨d.heap.objs.size,[d.heap.objs.size],_,Its z,H1,ϱ,j.kept (t':=d.toks) λb o e=>ρ _ e,xn S,C,λb D=>?_,q⟩
  have e:b=d.heap.objs.size:=by simpa using D
  subst e
  exact j.fpOk (ι _) (j.hok.fresh (ι _))
 cases ha:z.cps.all (·<128)
 .exact wpAny_pyIter_wide ha (g _ _ (.wide _ z t) ⟨_,ψ _ rfl,ϱ,ϱ⟩)
 .exact wpAny_pyIter_ascii ha (g _ _ (.ascii _ z t) ⟨_,ψ _ rfl,ϱ,ϱ⟩)
def Cx.blk(X:Cx)(N':Ĉ)(scope:Scope)(C:ø)(fp:ĉ)(s:ú)(H:Hp):Cx :=
 {X with N:=N',s₀:=s,H₀:=H,env:=compEnvC scope (dv X.env scope.names []) C X.env,outer:=X.stack,ex:=fp,fn:=λ_=>false,pn:=[],xe:=λ_ _=>False}
structure NJ(N:Ĉ)(sc scope:Scope)(x:Str)(N':Ĉ)(fv:Ć):Prop where
 nocell:∀y∈scope.names,y.2≠.cell
 kind:scope.kind=.function
 names:∀y∈scope.names,y.2=.local->scope.names.lookup y.1=some .local
 loc:scope.names.lookup x=some .local
 free:∀y∈scope.names,y.2=.free->sc.names.lookup y.1=some .cell\/sc.names.lookup y.1=some .free
 nd:N'.Nodup
 hd:N'[0]?=some x
 len:N'.length=fv.length+1
 at_:∀j,j<fv.length->(N'[j+1]?).isSome=true/\N'[j+1]?=(fv[j]?).bind (λi=>N[i]?)/\(N'[j+1]?).bind (λy=>scope.names.lookup y)=some .free
def gM(fv:Ć)(σ:St):St:=fv.map λk=>(σ[k]?).join
abbrev qF(ifs:Ą)(env:Env):Sem Bool:=forIn ifs true λc r=>if r=true then do let ok ← isTrue c env (eval c env);pure (ForInStep.yield ok) else pure (ForInStep.yield r)
def PTs(X:Cx)(ifs:Ą)(t:TT):Prop :=
 ∀(pins:đ) (s:ú) (σ:St) (H:Hp) (Q:Bool->Hp->Prop),NM X pins σ H s->t σ H Q->wpAny (model X.prog X.w) X.A (qF ifs X.env) (TP X pins σ Q) X.xe s
def wn:TT:=λ_ H Q=>Q true H
def bo{X:Cx}:PTs X [] wn:=λpins s σ H Q I h=>π ⟨H,I,h⟩
def rC{X:Cx}{c:ï}{t:TT}(hc:PT X c t):PTs X [c] t:=by
 intro d s σ H Q I h
 have e:qF [c] X.env=(isTrue c X.env (eval c X.env) >>= λok=>pure ok):=by
  unfold qF
  rw [List.forIn_cons]
  simp
 rw [e]
 exact ε (Zg (hc d s σ H Q I h) λb f q=>π q)
def tLC(wi:TI)(fv:Ć)(tt:TT)(te:TE):TE:=fun σ H Q=>wi σ H λJ H1=>∃(W:Nat->î V->Hp->Prop) (n:Nat),W 0 [] H1/\n<=sizeLine/\∀i ys H,W i ys H ->
 (J.stop i H/\∀p,H p=none->Q (.ref p) (upd H p (.lst ys))) \/
 (J.go i H/\i<n/\∀x H',J.yld i H x H'->tt (some x::gM fv σ) H' λc H2=>if c=true then te (some x::gM fv σ) H2 λy H3=>W (i+1) (ys++[y]) H3 else W (i+1) ys H2)
def nox{α:Type}{t:Sem α}{Q Q':α->ú->Prop}{M:Model}{A:ô}{E:Đ}{s:ú}(h:wpAny M A t Q (λ_ _=>False) s)(hQ:∀a s,Q a s->Q' a s):wpAny M A t Q' E s:=Ŭ h hQ λ_ _ f=>f.elim
structure Ae(N:Ĉ)(sc scope:Scope)(mm:Nat)(N':Ĉ)(fv:Ć):Prop where
 nocell:∀y∈scope.names,y.2≠.cell
 kind:scope.kind=.function
 names:∀y∈scope.names,y.2=.local->scope.names.lookup y.1=some .local
 free:∀y∈scope.names,y.2=.free->sc.names.lookup y.1=some .cell\/sc.names.lookup y.1=some .free
 nd:N'.Nodup
 len:N'.length=fv.length+mm
 at_:∀j,j<fv.length->(N'[j+mm]?).isSome=true/\N'[j+mm]?=(fv[j]?).bind (λi=>N[i]?)/\(N'[j+mm]?).bind (λy=>scope.names.lookup y)=some .free
def bv(mm:Nat)(fv:Ć)(σ:St):St:=List.replicate mm none++gM fv σ
def Ext(σ σ':St):Prop:=σ.length=σ'.length/\∀(j:Nat) v,σ[j]?=some (some v)->σ'[j]?=some (some v)
section
variable {X:Cx}{N':Ĉ}{scope:Scope}{mm:Nat}{fv:Ć}
def zS{h:đ}{σ:St}{H:Hp}{s:ú}{Y:ĉ}{C:ø}{h1:ñ}{m:ď}{tk:Nat}{pl:đ}(S:Ae X.N X.env.scope scope mm N' fv)(I:NM X h σ H s)
  (F:∀b∈Y,tR X h H b)(Z:∀b∈Y,b<s.heap.objs.size)(hC:s.heap.objs.size<=C)(kp:∀b o,s.heap.get? b=some o->h1.get? b=some o)(hn:h1.Ns C m)
  (a6:∀p∈pl,h1.get? p.1=some p.2/\s.heap.objs.size<=p.1/\p.1≠C/\∀v,p.2.data≠.cell v) :
  NM (X.blk N' scope C Y s H) pl (bv mm fv σ) H {s with heap:=h1,toks:=tk}:=by
 have g:∀y c,(dv X.env scope.names []).lookup y=some c->X.env.cells.lookup y=some c:=λy c e=>c7 e
 have cell:∀y c,(dv X.env scope.names []).lookup y=some c->∃v,s.heap.IsCell c v:=λy c e=>I.cell y c (g y c e)
 have lt:∀y c,(dv X.env scope.names []).lookup y=some c->c<s.heap.objs.size:=λy c e=>by obtain ⟨v,q⟩:=cell y c e;exact q.lt
 have kc:∀c v,s.heap.IsCell c v->h1.IsCell c v:=λc v q=>by obtain ⟨o,e,d⟩:=q;exact ⟨o,kp _ _ e,d⟩
 refine ⟨⟨I.ok.mod,S.kind,I.ok.glob,I.ok.blt,hC,λy z c l e2=>I.ok.inj y z c (g y c l) (g z c e2),λy hy=>?_,λy c e=>?_,I.ok.hd,I.ok.frames,.inl rfl,λb r=>⟨?_,λy c e z=>(F b r).2.2.2.2.1 y c (g y c e) z⟩,λb o e=>I.bs b o e,Λ I.ok.bsz I.sz,λb o e r=>?_,λb r Q=>?_,I.stack,I.stkFree⟩,
  rfl,I.bare,Un.kept kp,⟨m,hn,λi y v U W h3=>?_⟩,λy c e=>?_,I.hok.fresh hC,λy c e=>I.freeC y c (g y c e),λp hp=>?_,I.hok.kept kp,?_⟩
 .have L:∃k,scope.names.lookup y=some k/\k=.free:=by
   rcases hy with hy | hy
   .obtain ⟨D,l,e2⟩:=gB (env:=X.env) (names:=scope.names) (x:=y) (k:=.cell) hy
    rcases e2 with e2 | e2
    .exact absurd e2 (S.nocell _ (Ũ l))
    .exact ⟨D,l,e2⟩
   .obtain ⟨D,l,e2⟩:=gB (env:=X.env) (names:=scope.names) (x:=y) (k:=.free) hy
    rcases e2 with e2 | e2
    .exact ⟨D,l,e2⟩
    .exact ⟨D,l,e2⟩
  obtain ⟨k,e,rfl⟩:=L
  have t:=Ũ e
  obtain ⟨c,G⟩:=I.ok.has y (S.free _ t rfl)
  exact ⟨c,kg t G⟩
 .exact (ű (show false=true from e)).elim
 .exact Φ (Ÿ (Z b r) hC)
 .have e':=e
  rcases (F b r).2.2.2.1 with z | z
  .exact I.ok.noex b o e z
  .exact absurd (Ÿ (η e) (Λ I.ok.bsz z)) (Ĺ _)
 .have q:=I.stkSub b Q
  rcases ϕ.mp q with z | z
  .exact (F b r).2.1 z
  .exact (F b r).2.2.1 z
 .by_cases hi:i<mm
  .have z:(bv mm fv σ)[i]?=some none:=by
    unfold bv
    rw [List.getElem?_append_left (by simpa using hi)]
    simp [hi]
   rw [z] at W
   cases (Δ W)
  .obtain ⟨j,rfl⟩:∃j,i=j+mm:=⟨i-mm,by omega⟩
   have f:(gM fv σ)[j]?=some (some v):=by
    have z:(bv mm fv σ)[j+mm]?=(gM fv σ)[j]?:=by
     unfold bv
     rw [List.getElem?_append_right (by simp)]
     simp
    exact z▸W
   unfold gM at f
   rw [Ż] at f
   cases ej:fv[j]? with
   | none=>rw [ej] at f;cases f
   | some k =>
    rw [ej] at f
    have O:(σ[k]?).join=some v:=Δ f
    have h5:σ[k]?=some (some v):=by
     cases es:σ[k]? with
     | none=>cases es▸O
     | some w'=>rw [es] at O;rw [show w'=some v from O]
    have hj:j<fv.length:=(ſ.mp ej).1
    obtain ⟨_,J,a2⟩:=S.at_ j hj
    have w:N'[j+mm]?=some y:=U
    rw [w] at J a2
    rw [ej] at J
    have a3:X.N[k]?=some y:=J.symm
    have a4:scope.names.lookup y=some .free:=a2
    have t:=Ũ a4
    have kd:X.env.kindOf y=some .cell\/X.env.kindOf y=some .free:=S.free _ t rfl
    obtain ⟨mX,_,K⟩:=I.loc
    obtain ⟨u,ru,lk⟩:=K k y v a3 h5 (kd.elim (λz=>.inr (.inl z)) λz=>.inr (.inr z))
    refine ⟨u,ru,.inr ?_⟩
    rcases lk with ⟨z,_⟩ | ⟨_,c,G,hcell⟩
    .rcases kd with z' | z'<;>rw [z'] at z<;>cases z
    .exact ⟨gO (env:=X.env) a4,c,kg t G,kc _ _ hcell⟩
 .obtain ⟨v,q⟩:=cell y c e
  exact ⟨v,kc _ _ q⟩
 .have P:p∈pl:=hp
  obtain ⟨e,l1,l2,d⟩:=a6 p P
  exact ⟨e,I.hok.fresh l1,l2,λz=>absurd (I.stkSub _ z) (λq=>by
   rcases ϕ.mp q with q | q
   .exact absurd I.lt (q▸Nat.not_lt.mpr l1)
   .exact I.nofs l1 q),d⟩
 .show (bv mm fv σ).length=N'.length
  rw [S.len]
  unfold bv gM
  simp
  omega
end
section
variable {prog:ù}{w:ö}{A:ô}{R:Result->ú->Prop}{s:ú}
def gj{j d g:ï}{k:Ą}{scope:Scope}{pos:Pos}{it l:ó}{env:Env}(I:Nat->ú->Prop)
  (o:∀n s,I n s->wpAny (model prog w) A (pyNext it) (λr s₁=>match r with
   | none=>R (.ok .next) s₁
   | some v=>wpAny (model prog w) A (letOwnedTupleGo d it v) (λ_ s₁'=>wpAny (model prog w) A (assign d env v) (λ_ s₂ =>
     wpAny (model prog w) A (forIn k true λc r=>if r=true then do let ok ← isTrue c env (eval c env);pure (ForInStep.yield ok) else pure (ForInStep.yield r)) (λok s₃ =>
      if ok=true then wpAny (model prog w) A (eval j env) (λx s₄ =>
       wpAny (model prog w) A (call (.builtin "list.append") [l,x]) (λ_ s₅=>∃m,m<n/\I m s₅) (notedBy (model prog w) A env λe s'=>R (.error e) s') s₄) (notedBy (model prog w) A env λe s'=>R (.error e) s') s₃
      else ∃m,m<n/\I m s₃) (notedBy (model prog w) A env λe s'=>R (.error e) s') s₂) (notedBy (model prog w) A env λe s'=>R (.error e) s') s₁') (notedBy (model prog w) A env λe s'=>R (.error e) s') s₁) (notedBy (model prog w) A env λe s'=>R (.error e) s') s)
  (n:Nat) (h:I n s) :
  codeAny (model prog w) A (.compLoop (.ListComp j [⟨d,g,k,0⟩] scope pos) 0 it l env) R s:=by
 refine codeAny_loop rfl I (λn s y=>?_) n h
 show wpAny _ A ((compTurn (.ListComp j [⟨d,g,k,0⟩] scope pos) 0 it l env).onRaise (λx=>do noteFrame x env;theTreesLotGoes x)) _ _ s
 refine wpAny_noted ?_
 rw [compTurn_list]
 refine ε (Ĥ (ε (Ŭ (o n s y) (λr s₁ t=>?_) λ_ _ f=>f)))
 cases r with
 | none=>exact π t
 | some v =>
  refine ε (Ŭ t (λ_ s₁' q=>?_) λ_ _ f=>f)
  refine ε (Ŭ q (λ_ s₂ z=>ε (Ŭ z (λok s₃ u=>?_) λ_ _ f=>f)) λ_ _ f=>f)
  cases ok with
  | false=>exact π ⟨rfl,u⟩
  | true =>
   exact ε (ε (Ŭ u (λx s₄ C=>ε (Ŭ C (λ_ s₅ D=>π (π ⟨ϱ,D⟩)) λ_ _ f=>f)) λ_ _ f=>f))
end
def LCw(mm:Nat)(g:TG)(fv:Ć)(tt:TT)(te:TE)(σ:St)(Q:VK)(J:It)(H1:Hp):Prop:=∃(W:Nat->î V->Hp->Prop) (n:Nat),W 0 [] H1/\n<=sizeLine/\∀i ys H,W i ys H ->
 (J.stop i H/\∀p,H p=none->Q (.ref p) (upd H p (.lst ys))) \/
 (J.go i H/\i<n/\∀x H',J.yld i H x H'->g x (bv mm fv σ) H' fun σ' H''=>Ext (bv mm fv σ) σ'/\tt σ' H'' λc H2=>if c=true then te σ' H2 λy H3=>W (i+1) (ys++[y]) H3 else W (i+1) ys H2)
set_option maxHeartbeats 1600000 in
def zi{X:Cx}{an K tg:ï}{mm:Nat}{g:TG}{as:Ą}{scope:Scope}{pos:Pos}{O:Ĉ}{fv:Ć}{wi:TI}{tt:TT}{te:TE}
  (S:Ae X.N X.env.scope scope mm O fv)(hg:∀C fp s H,PG (X.blk O scope C fp s H) tg g)(hc:X.calm=true)(hi:PI X tg K wi)
  (ht:∀C fp s H,PTs (X.blk O scope C fp s H) as tt)(he:∀C fp s H,PE (X.blk O scope C fp s H) an te)
  (hs:∀x,foldedSetIterable K X.env x=pure x){P:đ}{s:ú}{σ:St}{H:Hp}{Q:VK}{ax:Option (ó->Sem Unit)}{Qo:Đ}{cp:Pos}{KK:It->Hp->Prop}(I:NM X P σ H s)(h:wi σ H KK)(cv:∀J H1,KK J H1->LCw mm g fv tt te σ Q J H1)
  (fn:∀(D C:ø) (s5:ú) (H5:Hp) (m5:ď),NM X P σ H5 s5->s5.heap.Ns C m5->H5 C=none->C≠X.env.locals->(C∈X.ex\/X.s₀.heap.objs.size<=C)->(∀x c,X.env.cells.lookup x=some c->c≠C)->(∀p∈X.pn++P,p.1≠C)->Q (.ref D) H5->compPost (model X.prog X.w) X.A X.xe ax Qo (.ref D) C (.ok .next) s5) :
  wpAny (model X.prog X.w) X.A (comprehension (.ListComp an [⟨tg,K,as,0⟩] scope pos) scope X.env cp (newList []) false (eval K X.env) ax) Qo X.xe s:=by
 refine wpAny_comprehension_free rfl hs (mw λy hy hk=>I.ok.has y.1 (S.free y hy hk)) S.kind S.names
  (Ŭ (hi P s σ H _ I h) (λxv s1 h1=>Ŭ h1 (λdz j h2=>?_) λ_ _ e=>e) λ_ _ e=>e)
 obtain ⟨it,fp,tn,J,F,rfl,Y,T,a5,f2,h2⟩:=h2
 obtain ⟨W,n,w0,hn,aM⟩:=cv J F h2
 refine wpAny_newObj_type (wpAny_newFunctionEnv S.nocell (by intro y hy;simp at hy) (λh1 ad ah=>?_) S.kind)
 dsimp only at ad ah ⊢
 generalize hH:j.heap.push {cls:=.type "list",dict:=none,data:=.seq ([]:Ċ).toArray}=G at ad ah ⊢
 have hG:G.objs.size=j.heap.objs.size+1:=by rw [← hH,Heap.size_push]
 have c3:∀b o,j.heap.get? b=some o->G.get? b=some o:=λb o e=>hH▸ρ _ e
 have aS:∀b o,b<G.objs.size->G.get? b=some o->h1.get? b=some o:=λb o lt e=>ah.extBut b o (Φ lt) (ρ _ e)
 have kp:∀b o,j.heap.get? b=some o->h1.get? b=some o:=λb o e=>aS b o (hG▸Nat.lt_succ_of_lt (η e)) (c3 b o e)
 have hD:h1.PlainList j.heap.objs.size #[]:=⟨_,aS _ _ (hG▸ė _) (hH▸ψ _ rfl)⟩
 have a6:j.heap.objs.size≠G.objs.size:=by rw [hG];exact Φ (ė _)
 have hC:j.heap.objs.size<=G.objs.size:=by rw [hG];exact Nat.le_succ _
 have a7:∀b∈fp,b<j.heap.objs.size:=λb t=>by obtain ⟨o,e,_⟩:=T.obj 0 _ a5 b t;exact η e
 have Z:∀{H':Hp} {pl:đ},(∀b∈fp,H' b=none)->(∀p∈pl,p.1∉fp)->∀b∈fp,tR (X.blk O scope G.objs.size fp j F) pl H' b:=λ{H' pl} hn hpl b t=>by
  obtain ⟨_,g1,g2,g3,g4,g5⟩:=f2 b t
  refine ⟨hn b t,Φ (Ÿ (a7 b t) hC),λz=>?_,.inl t,λy c e=>g4 y c (c7 e),λp U e=>?_⟩
  .rcases ϕ.mp (Y.stkSub b z) with q | q
   .exact g1 q
   .exact g2 q
  .exact hpl p U (e▸t)
 have aZ:j.heap.objs.size∉fp:=λz=>absurd (a7 _ z) (Ĺ _)
 have c5:∀y c,(X.blk O scope G.objs.size fp j F).env.cells.lookup y=some c->c≠j.heap.objs.size:=λy c e z=>by
  obtain ⟨v,q⟩:=Y.cell y c (c7 e)
  exact absurd q.lt (z▸Ĺ _)
 have b0:∀{s':ú} {H':Hp} {ob:Obj} {i:Nat} {ys:î V},NM (X.blk O scope G.objs.size fp j F) [] (bv mm fv σ) H' s'->s'.heap.get? j.heap.objs.size=some ob->(∀v,ob.data≠.cell v)->H' j.heap.objs.size=none ->
   NM (X.blk O scope G.objs.size fp j F) [(j.heap.objs.size,ob)] (bv mm fv σ) H' s':=λ{s' H' ob i ys} J1 e d f=>J1.pins_of λp U=>by
  have z:p=(j.heap.objs.size,ob):=by simpa using U
  subst z
  refine ⟨e,f,a6,λz=>?_,d⟩
  rcases ϕ.mp (Y.stkSub _ z) with q | q
  .exact absurd Y.lt (q▸Ĺ _)
  .exact Y.nofs (ι _) q
 have a3:∀s3:ú,s3={j with heap:=h1,toks:=j.toks+([]:î (Str×ó)).length} ->
   codeAny (model X.prog X.w) X.A (.compLoop (.ListComp an [⟨tg,K,as,0⟩] scope pos) 0 (.ref it) (.ref j.heap.objs.size) (X.blk O scope G.objs.size fp j F).env)
    (compPost (model X.prog X.w) X.A X.xe ax Qo (.ref j.heap.objs.size) G.objs.size) s3:=by
  rintro s3 rfl
  refine gj (λk s'=>∃i ys H' l,k=n+1-i/\i<=n/\ys.length<=i/\NQ ys l/\s'.heap.PlainList j.heap.objs.size l.toArray /\
   NM (X.blk O scope G.objs.size fp j F) [] (bv mm fv σ) H' s'/\H' j.heap.objs.size=none/\tn i s'.heap/\(∀b∈fp,H' b=none)/\W i ys H') ?_ (n+1)
   ⟨0,[],F,[],ϱ,ϖ _,ι _,.nil,hD,zS S Y f2 a7 hC kp ad (λp U=>nomatch U),Y.hok.fresh (ι _),T.keep _ _ _ a5 λb _ o e=>kp b o e,λb t=>(f2 b t).1,w0⟩
  rintro k s4 ⟨i,ys,H4,l,rfl,bi,a1,rv,cM,I4,a2,bl,bm,w4⟩
  obtain ⟨L,eD⟩:=id cM
  have b1:=b0 (i:=i) (ys:=ys) I4 eD (λv z=>by cases z) a2
  have np:∀p∈[(j.heap.objs.size,({cls:=.type "list",data:=.seq l.toArray L}:Obj))],p.1∉fp:=λp U=>by
   have z:p=(j.heap.objs.size,({cls:=.type "list",data:=.seq l.toArray L}:Obj)):=by simpa using U
   subst z;exact aZ
  rcases aM i ys H4 w4 with ⟨stop,fin⟩ | ⟨go,hi2,step⟩
  .refine Ŭ (T.done (X.blk O scope G.objs.size fp j F) rfl rfl rfl hc i _ s4 _ H4 _ b1 (Z bm np) bl stop) (λr s5 ⟨hr,I5⟩=>?_) λ_ _ e=>e
   subst hr
   obtain ⟨m5,bT,_⟩:=I5.loc
   have ca:s5.heap.get? j.heap.objs.size=some {cls:=.type "list",data:=.seq l.toArray L}:=(I5.pin _ (Ψ _ Ω)).1
   have ab:F j.heap.objs.size=none:=Y.hok.fresh (ι _)
   have B:=I5.base
   obtain ⟨f0,f1,dp,f3,f4,f5⟩:=Y.fpOk (H':=F) hC (Y.hok.fresh hC)
   refine fn j.heap.objs.size G.objs.size s5 (upd H4 j.heap.objs.size (.lst ys)) m5 (Y.call' (s':=s5) (ch:=fp) I5.os ⟨λb o e nb t hx=>B.keep b o e nb t hx,λb o e nb t hx=>B.slot b o e nb t hx,λb o e nb hx=>?_,λb o e hx=>B.there b o e hx,λb xs e=>?_,λb o u e=>?_,λb ps e=>?_⟩ ?_ I5.bare λb t=>?_) bT ?_ f1 f3 f4 f5 (fin _ a2)
   .rw [am (Φ (η e))];exact B.free b o e nb hx
   .have e':F b=some (.tup xs):=e
    rw [am (ap e' ab)];exact B.tups b xs e
   .have e':F b=some (.frz o u):=e
    rw [am (ap e' ab)];exact B.frzs b o u e
   .have e':F b=some (.tbl ps):=e
    rw [am (ap e' ab)];exact B.tbls b ps e
   .intro b u e
    by_cases t:b=j.heap.objs.size
    .subst t
     rw [Ny] at e
     cases e
     exact ⟨Λ a1 (Λ bi hn),l,L,rv,ca⟩
    .rw [am t] at e
     exact (I5.hok b u e).stay (λc v dA q=>q) (λc q=>by rw [am (ap q a2)];exact q) λc xs q=>by rw [am (ap q a2)];exact q
   .obtain ⟨_,g1,g2,g3,g4,g5⟩:=f2 b t
    exact ⟨g3,g1,g4,g5⟩
   .exact am (Ne.symm a6)▸I5.free
  .refine Ŭ (T.item (X.blk O scope G.objs.size fp j F) rfl rfl rfl hc i _ s4 _ H4 _ b1 (Z bm np) bl go) (λr s5 ⟨u,hr,h5⟩=>?_) λ_ _ e=>e
   subst hr
   refine Ŭ h5 (λ_ s6 ⟨xv,H6,I6,r6,y6,a0,cs⟩=>?_) λ_ _ e=>e
   have cb:=I6.pinned (Z cs np) (T.obj _ _ a0)
   have b3:∀{σ':St} {H':Hp} {s':ú},NM (X.blk O scope G.objs.size fp j F) ([(j.heap.objs.size,({cls:=.type "list",data:=.seq l.toArray L}:Obj))]++oq fp s6.heap) σ' H' s' ->
     s'.heap.PlainList j.heap.objs.size l.toArray/\H' j.heap.objs.size=none/\(∀b∈fp,H' b=none)/\(∀b∈fp,∀o,s6.heap.get? b=some o->s'.heap.get? b=some o):=λ{σ' H' s'} J1=>by
    have q:=J1.pin (j.heap.objs.size,({cls:=.type "list",data:=.seq l.toArray L}:Obj)) (Ψ _ (Ō _ Ω))
    refine ⟨⟨L,q.1⟩,q.2.1,λb t=>?_,λb t o e=>(J1.pin (b,o) (Ψ _ (Ψ _ (gI t e)))).1⟩
    obtain ⟨o,e,d⟩:=T.obj _ _ a0 b t
    exact (J1.pin (b,o) (Ψ _ (Ψ _ (gI t e)))).2.1
   refine nox (hg _ _ _ _ _ s6 _ H6 xv u _ cb r6 (step xv H6 y6)) λ_ s7 ⟨σ7,H7,I7,e7,q7⟩=>?_
   refine nox (ht _ _ _ _ _ s7 _ H7 _ I7 q7) λok s8 ⟨H8,I8,q8⟩=>?_
   cases ok with
   | false =>
    obtain ⟨o1,o2,o3,o4⟩:=b3 I8
    exact ⟨n+1-(i+1),by omega,i+1,ys,H8,l,ϱ,hi2,υ a1,rv,o1,(I8.pins_of (pins':=[]) λp U=>nomatch U).weak (σ':=bv mm fv σ) e7.1 e7.2,o2,T.keep _ _ _ a0 o4,o3,q8⟩
   | true =>
    refine nox (he _ _ _ _ _ s8 _ H8 _ I8 q8) λyv s9 ⟨y,H9,I9,r9,q9⟩=>?_
    obtain ⟨o1,o2,o3,o4⟩:=b3 I9
    have b4:=rv.length
    refine wpAny_list_append_plain (hsz:=by rw [Ű,← b4];exact Λ a1 (Λ bi hn)) o1 λh' cz b6=>?_
    have cc:NM (X.blk O scope G.objs.size fp j F) [] σ7 H9 {s9 with heap:=h'} :=
     (I9.pins_of (pins':=[]) λp U=>nomatch U).turned (t':=s9.toks) (it:=j.heap.objs.size) (λb o t e=>b6.extBut b o t e) o2 a6 (.inr (ι _)) c5 (λp U=>nomatch U)
    refine ⟨n+1-(i+1),by omega,i+1,ys++[y],H9,l++[yv],ϱ,hi2,by rw [Ž];exact Nat.succ_le_succ a1,rv.append (.cons r9 .nil),?_,cc.weak (σ':=bv mm fv σ) e7.1 e7.2,o2,T.keep _ _ _ a0 λb t o e=>b6.extBut b o (λz=>aZ (z▸t)) (o4 b t o e),o3,q9⟩
    have e9:(l++[yv]).toArray=l.toArray.push yv:=by simp
    exact e9▸cz
 exact codeAny_compStart_list (a3 _ rfl) (T.self _ 0 _ _ _ (T.keep _ _ _ a5 λb _ o e=>kp b o e) (a3 _ rfl))
def LcR(wi:TI)(mm:Nat)(g:TG)(fv:Ć)(tt:TT)(te:TE)(r:TE):Prop:=∀σ H Q,r σ H Q->∃KK,wi σ H KK/\∀J H1,KK J H1->LCw mm g fv tt te σ Q J H1
section
variable {X:Cx}{iy:Nat}{y:Str}{py spos:Pos}{elt iter tg:ï}{mm:Nat}{g:TG}{x:Str}{px:Pos}{ifs:Ą}{scope:Scope}{pos:Pos}{N':Ĉ}{fv:Ć}{wi:TI}{tt:TT}{te r:TE}
def Cw(z:LcR wi mm g fv tt te r)(S:Ae X.N X.env.scope scope mm N' fv)(F:∀C fp s H,PG (X.blk N' scope C fp s H) tg g)(hc:X.calm=true)(G:PI X tg iter wi)
  (J:∀C fp s H,PTs (X.blk N' scope C fp s H) ifs tt)(K:∀C fp s H,PE (X.blk N' scope C fp s H) elt te)(L:∀x,foldedSetIterable iter X.env x=pure x):PE X (.ListComp elt [⟨tg,iter,ifs,0⟩] scope pos) r:=by
 intro f s σ H Q I h
 rw [eval_ListComp]
 obtain ⟨O,h1,j⟩:=z _ _ _ h
 exact zi S F hc G J K L I h1 j λD C k l m5 t d fC f1 f3 u w q=>⟨m5,d,λP sb=>⟨.ref D,l,t.turned (t':=k.toks) (λb o y e=>(sb.2 b y).trans e) fC f1 f3 u w,ϱ,q⟩⟩
def Co(lr:LcR wi mm g fv tt te r)(S:Ae X.N X.env.scope scope mm N' fv)(hg:∀C fp s H,PG (X.blk N' scope C fp s H) tg g)(hc:X.calm=true)(hi:PI X tg iter wi)
  (ht:∀C fp s H,PTs (X.blk N' scope C fp s H) ifs tt)(he:∀C fp s H,PE (X.blk N' scope C fp s H) elt te)(hs:∀x,foldedSetIterable iter X.env x=pure x)
  (hN:X.N.Nodup)(t:X.N[iy]?=some y)(u:Loc X.env.scope y)(w:swapsWith (.ListComp elt [⟨tg,iter,ifs,0⟩] scope pos) (some (.Name y py)) spos.line X.env=pure true)(hf:X.fn y=true\/X.env.scope.names.lookup y=some .local) :
  PS X (.Assign [.Name y py] (.ListComp elt [⟨tg,iter,ifs,0⟩] scope pos) spos) (xy r (jV iy)):=by
 intro d s σ H DE I h
 obtain ⟨KK,h1,J⟩:=lr _ _ _ h
 rw [exec_Assign_Name_used _ _ _ _ w]
 refine ε (Ĥ (ε ?_))
 show wpAny _ X.A (do let _ ← comprehension (.ListComp elt [⟨tg,iter,ifs,0⟩] scope pos) scope X.env _ (newList []) false (eval iter X.env) (some (assign (.Name y py) X.env))) _ _ s
 refine ε (Ŭ (zi (Qo:=λ_ F=>SP X d DE .next F) S hg hc hi ht he hs I h1 J λD C L H5 m5 O f fC f1 f3 G P q=>?_) (λ_ F Q=>π (π Q)) λ_ _ e=>e)
 show wpAny _ _ (assign (.Name y py) X.env (.ref D)) _ _ L
 refine wpAny_assign_Name (pL O hN t u (v:=.ref D) rfl (λU W ⟨Y,j,k⟩=>?_) hf)
 have K:C≠Y:=λz=>by
  rcases k with e | e
  .exact f1 (z.trans e)
  .exact G _ _ e z.symm
 exact ⟨m5,f.sameBut j K,λh' l=>⟨_,_,W.turned (t':=U.toks) (λb o Z e=>(l.2 b Z).trans e) fC f1 f3 G P,q⟩⟩
def NJ.m{N:Ĉ}{sc:Scope}(S:NJ N sc scope x N' fv):Ae N sc scope 1 N' fv:=⟨S.nocell,S.kind,S.names,S.free,S.nd,S.len,S.at_⟩
def NJ.pg(S:NJ X.N X.env.scope scope x N' fv)(C:ø)(fp:ĉ)(s:ú)(H:Hp):PG (X.blk N' scope C fp s H) (.Name x px) (jV 0) :=
 have hlc:=lookup_relabel_local S.loc
 vt S.nd S.hd (.inl hlc) (.inr hlc)
theorem zg:LcR wi 1 (jV 0) fv tt te (tLC wi fv tt te):=fun σ H Q h=>⟨_,h,λJ H1 ⟨W,n,w0,hn,turn⟩=>⟨W,n,w0,hn,λi ys H w=>(turn i ys H w).imp id λ⟨go,hi,st⟩=>⟨go,hi,λx H' z=>⟨⟨ϱ,λj v e=>by
 cases j with
 | zero=>cases (show (none:Option V)=some v from Δ e)
 | succ j=>exact e⟩,st x H' z⟩⟩⟩⟩
def fz(S:NJ X.N X.env.scope scope x N' fv)(hc:X.calm=true)(hi:PI X (.Name x px) iter wi)(ht:∀C fp s H,PTs (X.blk N' scope C fp s H) ifs tt)(he:∀C fp s H,PE (X.blk N' scope C fp s H) elt te)
  (hs:∀x,foldedSetIterable iter X.env x=pure x:=by intro _;rfl):PE X (.ListComp elt [⟨.Name x px,iter,ifs,0⟩] scope pos) (tLC wi fv tt te):=Cw zg S.m S.pg hc hi ht he hs
def f7(S:NJ X.N X.env.scope scope x N' fv)(hc:X.calm=true)(hi:PI X (.Name x px) iter wi)(ht:∀C fp s H,PTs (X.blk N' scope C fp s H) ifs tt)(he:∀C fp s H,PE (X.blk N' scope C fp s H) elt te)
  (hN:X.N.Nodup)(hiy:X.N[iy]?=some y)(hxl:Loc X.env.scope y)(hsw:swapsWith (.ListComp elt [⟨.Name x px,iter,ifs,0⟩] scope pos) (some (.Name y py)) spos.line X.env=pure true:=by rfl)
  (hs:∀x,foldedSetIterable iter X.env x=pure x:=by intro _;rfl)(hf:X.fn y=true\/X.env.scope.names.lookup y=some .local:=by first | exact .inl rfl | exact .inr rfl | assumption) :
  PS X (.Assign [.Name y py] (.ListComp elt [⟨.Name x px,iter,ifs,0⟩] scope pos) spos) (xy (tLC wi fv tt te) (jV iy)):=Co zg S.m S.pg hc hi ht he hs hN hiy hxl hsw hf
end
def tZ{ys:Ĉ}:∀{us:Ċ},NQ (ys.map V.str) us->StrsAre us ys:=by
 induction ys with
 | nil=>intro us r;cases List.map_nil▸r;exact .nil
 | cons y ys ih =>
  intro us r
  rw [Ŗ] at r
  cases r with
  | cons r1 r2 =>
   obtain ⟨t,e⟩:=r1
   subst e
   exact .cons y t (ih r2)
def vH{X:Cx}:MtR X "str.join" (λx vs H Q=>∃(sep:Str) (p:ø) (ys:Ĉ),x=.str sep/\vs=[.ref p]/\NO X.K H p (ys.map V.str)/\(ys.map (·.length)).sum+ys.length*sep.length<=16777216/\Q (.str (Str.join sep ys)) H):=by
 intro e s σ H x xs v z Q I o r h
 obtain ⟨sep,p,ys,rfl,rfl,f,d,q⟩:=h
 obtain ⟨t,rfl⟩:=o
 obtain ⟨u,rfl,g⟩:=cJ r
 cases (show u=Value.ref p from g)
 obtain ⟨j,l,pl,w⟩:=I.list f
 refine join_list pl.isList (by simpa using tZ l) d λy k=>⟨.str _,H,I.tok _,⟨_,ϱ⟩,?_⟩
 exact eq_of_beq (join_closes (sep:=sep) (sep':=sep) (ys:=ys) rfl)▸q
open Builtin Builtin.Str
theorem pY(c:Nat):∀ys:Ĉ,ys.length<=(Str.join ⟨#[c]⟩ ys).length+1
 | []=>ϖ _
 | [y]=>by simp
 | y::u::ys=>by
  have ih:=pY c (u::ys)
  rw [join_cons_cons]
  have e:(y++(⟨#[c]⟩:Str)++Str.join ⟨#[c]⟩ (u::ys)).length=y.length+1+(Str.join ⟨#[c]⟩ (u::ys)).length:=by
   show ((y.cps++#[c])++(Str.join ⟨#[c]⟩ (u::ys)).cps).size=_
   rw [Ť,Ť]
   rfl
  rw [e,Ŷ]
  lia
theorem kj:∀(l:î (Str×Tok)),NQ ((l.map (·.1)).map V.str) (strValues l)
 | []=>.nil
 | p::l=>.cons ⟨p.2,rfl⟩ (kj l)
section
variable {X:Cx}
def je(hc:X.calm=true):cV X (.builtin "sum") (λxs H Q=>∃(p:ø) (ns:ć),xs=[.ref p]/\NO X.K H p (ns.map V.int)/\Q (.int ns.sum) H):=by
 intro j s σ H xs D Q I r h
 obtain ⟨p,ns,rfl,k,q⟩:=h
 obtain ⟨u,rfl,l⟩:=cJ r
 cases (show u=Value.ref p from l)
 obtain ⟨d,o,pl,y⟩:=I.list k
 have g:IntsAre d ns:=uP o
 obtain ⟨e,f⟩:=g.allInts.items
 have t:s.heap.IsList p (intItems e):=f▸pl.isList
 refine sum_intListG (I.ok.hd hc) t λz C w x=>⟨.int ns.sum,H,I.kept x,⟨w,?_⟩,q⟩
 have en:ns=e.toList.map (·.1):=(show numsOf d.toArray.toList=ns from g.numsOf).symm.trans (by rw [f,nums_intItems])
 rw [preSum_eq,List.take_of_length_le (by simp),en]
def wJ:MtR X "str.split" (λx vs H Q=>∃(z:Str) (c:Nat),x=.str z/\vs=[.str ⟨#[c]⟩]/\z.length<=1000000/\∀p,H p=none->Q (.ref p) (upd H p (.lst ((Txt.split z ⟨#[c]⟩).map V.str)))):=by
 intro j s σ H x xs v L Q I G r h
 obtain ⟨z,c,rfl,rfl,J,q⟩:=h
 obtain ⟨t,rfl⟩:=G
 obtain ⟨u,rfl,⟨y,rfl⟩⟩:=cJ r
 have K:(1000002:Nat)<=sizeLine:=by decide
 have d:(Txt.split z ⟨#[c]⟩).length<=sizeLine:=by
  have:=pY c (Txt.split z ⟨#[c]⟩)
  rw [StrLaws.join_split] at this
  lia
 have f:∀(l:î (Str×Tok)) (k:Nat),l.map (·.1)=Txt.split z ⟨#[c]⟩->EP X j σ Q (.ref s.heap.objs.size) {s with toks:=k,heap:=s.heap.push {cls:=.type "list",data:=.seq (strValues l).toArray}}:=λl k D =>
  ⟨.ref s.heap.objs.size,_,I.laid (t':=k) (o:=.lst ((Txt.split z ⟨#[c]⟩).map V.str)) (λb o e=>ρ _ e) (ι _)
   (show NR X.prog X.w _ _ _ (.lst ((Txt.split z ⟨#[c]⟩).map V.str)) from ⟨by rw [ν];exact d,strValues l,0,D▸kj l,ψ _ rfl⟩),ϱ,q _ (I.hok.fresh (ι _))⟩
 have C:((⟨#[c]⟩:Str).length==0)=false:=rfl
 cases h1:(decide (z.length<(⟨#[c]⟩:Str).length)||decide (strKind z<strKind ⟨#[c]⟩)) with
 | true =>
  have g:Txt.split z ⟨#[c]⟩=[z]:=by unfold Txt.split;rw [if_pos h1]
  exact ę İ (Ī _ _ _) ĳ (ĸ _ _) (meets_str_split_cannot_occur z ⟨#[c]⟩ t y h1) (f [(z,t)] s.toks g.symm)
 | false =>
  cases hf:(occurrences z ⟨#[c]⟩ 0 z.length (z.length+1)).isEmpty with
  | true =>
   have g:Txt.split z ⟨#[c]⟩=[z]:=by unfold Txt.split;rw [if_neg (by rw [h1];decide),if_pos hf]
   exact ę İ (Ī _ _ _) ĳ (ĸ _ _) (meets_str_split_not_found z ⟨#[c]⟩ t y h1 C hf) (f [(z,t)] s.toks g.symm)
  | false =>
   have g:Txt.split z ⟨#[c]⟩=partsBetween z (occurrences z ⟨#[c]⟩ 0 z.length (z.length+1)) (⟨#[c]⟩:Str).length:=by unfold Txt.split;rw [if_neg (by rw [h1];decide),if_neg (by rw [hf];decide)]
   refine ę İ (Ī _ _ _) ĳ (ĸ _ _) (meets_str_split_sep z ⟨#[c]⟩ t y h1 C hf ω (g▸d)) ?_
   rw [strsFrom_eq]
   exact f _ _ ((numbered_texts _ _).trans g.symm)
def AC{d:î ð}{h₀:ExceptHandler}{j:î ExceptHandler}{pos:Pos}{t:TS}(k:PSs X.nox d t):PS X (.Try d (h₀::j) [] [] pos) t:=by
 intro g s σ H D I h
 refine wpAny_Try_except (Ŭ (k g s σ H D (I.wish _) h) (λf l q=>?_) λ_ _ e=>e.elim)
 cases f with
 | next=>exact Ŏ (SP.unwish (f:=.next) q)
 | brk=>exact SP.unwish (f:=.brk) q
 | cont=>exact SP.unwish (f:=.cont) q
 | ret v=>exact SP.unwish (f:=.ret v) q
end
end L2
namespace L2
open PySem PySem.Spec PyProof.Rows
def Cov(l:ą)(h0:ñ)(H:Hp)(B h:ñ):Prop:=∀b o,h.get? b=some o->b∉frs l->(H b≠none\/∃o0,h0.get? b=some o0)->B.get? b=some o
def Fly(l:ą)(h0:ñ)(H:Hp)(ea C:ø)(h:ñ):Prop:=∃B a0,Heap.FlyingW B l ea (.ref C) a0 h/\Cov l h0 H B h
def Zn(P:ù)(w:ö):CXT:=λouter H s E e s'=>∃ea C H',e=.ref ea/\s'.os=s.os/\AllBare s'.gens/\Un (frs outer) [] H H' s.heap s'.heap/\NS P w H' s'.heap/\Fly outer s.heap H' ea C s'.heap/\E e (some C) H'
def NR.there{P:ù}{w:ö}{H:Hp}{h:ñ}{a:ø}{o:HO}(x:NR P w H h a o):∃ob,h.get? a=some ob:=by
 cases o with
 | lst xs=>obtain ⟨_,_,_,_,e⟩:=x;exact ⟨_,e⟩
 | tup xs=>obtain ⟨_,_,_,o,e,_⟩:=x;exact ⟨_,e⟩
 | dK kvs=>obtain ⟨_,_,_,_,o,_,_,e,_⟩:=x;exact ⟨_,e⟩
 | dT kvs=>obtain ⟨_,_,_,_,o,_,_,e,_⟩:=x;exact ⟨_,e⟩
 | set S n=>obtain ⟨o,_,_,_,e,_⟩:=x;exact ⟨_,e⟩
 | ins C dx fs=>obtain ⟨_,_,_,e,_⟩:=x;exact ⟨_,e⟩
 | own y=>obtain ⟨_,e⟩:=x;exact ⟨_,e⟩
 | xd fs=>obtain ⟨_,⟨_,_,_,e,_⟩,_⟩:=x;exact ⟨_,e⟩
 | rng lo hi=>obtain ⟨_,_,_,e⟩:=x;exact ⟨_,e⟩
 | frz ob u=>obtain ⟨e,_⟩:=x;exact ⟨_,e⟩
 | tbl ps=>exact ⟨_,(show h.get? a=some _ from x)⟩
 | met f y=>exact ⟨_,(show h.get? a=some _ from x)⟩
 | ext φ=>obtain ⟨_,⟨_,e⟩,_⟩:=x;exact ⟨_,e⟩
section
variable {l:ą}{H:Hp}{B h h' hc:ñ}{P:ù}{w:ö}
def Cov.stay(c:Cov l hc H B h)(st:B.StaysIn h'):∀b o,h.get? b=some o->b∉frs l->(H b≠none\/∃o0,hc.get? b=some o0)->h'.get? b=some o:=λb o e nb hb=>st b o (c b o e nb hb)
def NS.moved(x:NS P w H h)(c:Cov l hc H B h)(st:B.StaysIn h')(fr:∀b∈frs l,H b=none):NS P w H h':=λa o e=>by
 refine (x a o e).stay (λb u hb q=>?_) (λb q=>q) λb xs q=>q
 have tr:H b≠none:=by
  rcases hb with rfl | hb
  .rw [e];intro z;cases z
  .rw [hb];intro z;cases z
 exact c.stay st b u q (λz=>tr (fr b z)) (.inl tr)
def Un.moved{fs:ĉ}{C:Hp}{h0:ñ}(u:Un fs [] C H h0 h)(c:Cov l hc H B h)(st:B.StaysIn h')(D:h.UpToSlots h')(F:h.FunFrames B l)(G:∀b o,h0.get? b=some o->∃o',hc.get? b=some o')
  (I:∀b∈fs,b∈frs l)(J:∀b o,h0.get? b=some o->b∈frs l->b∈fs):Un fs [] C H h0 h':=by
 have y:∀b k o,h0.get? b=some k->b∉fs->h.get? b=some o->h'.get? b=some o:=λb k o e0 r e=>c.stay st b o e (λz=>r (J b k e0 z)) (.inr (G b k e0))
 have j:∀b o,b∈fs->h.get? b=some o->∃j,h'.get? b=some {o with slots:=j}:=λb o f e=>by
  obtain ⟨_,o',t,d⟩:=F.mem (show b∈l.filterMap (·.frame) from I b f)
  rw [e] at t
  cases t
  exact D b o e d
 refine ⟨λb o e z r g=>y b o o e r (u.keep b o e z r g),λb o e z f g=>?_,u.free,λb o e g=>?_,u.tups,u.frzs,u.tbls⟩
 .obtain ⟨K,q⟩:=u.slot b o e z f g
  obtain ⟨w,q2⟩:=j b _ f q
  exact ⟨w,q2⟩
 .obtain ⟨x,q⟩:=u.there b o e g
  by_cases f:b∈fs
  .obtain ⟨w,q2⟩:=j b _ f q
   exact ⟨_,q2⟩
  .exact ⟨x,y b o x e f q⟩
def Cov.moved{h0:ñ}{d:ą}{fs:ĉ}{f:Hp}(c:Cov l hc H B h)(st:B.StaysIn h')(x:NS P w H h)(u:Un fs [] f H h0 h)(g:∀b o,h0.get? b=some o->∃o',hc.get? b=some o')
  (j:∀b,b∉frs d->(H b≠none\/∃o0,h0.get? b=some o0)->b∉frs l):Cov d h0 H B h':=λb o e nb hb=>by
 have nl:=j b nb hb
 have hb':H b≠none\/∃o0,hc.get? b=some o0:=hb.imp id λ⟨o0,z⟩=>g b o0 z
 have ex:∃o1,h.get? b=some o1:=by
  rcases hb with z | ⟨o0,z⟩
  .cases q:H b with
   | none=>exact absurd q z
   | some u1=>exact (x b u1 q).there
  .exact u.there b o0 z (by simp)
 obtain ⟨o1,q⟩:=ex
 have q2:=c b o1 q nl hb'
 have q3:=st b o1 q2
 rw [e] at q3
 cases q3
 exact q2
end
structure Cx.Def(X:Cx)(E:XK):Prop where
 stk:X.stack=X.env::X.outer
 fr:X.env.frame=some X.env.locals
 ex:X.ex=[]
 xe:X.xe=λe s'=>wpAny (model X.prog X.w) X.A (leaving X.env e) (λ_ s''=>Zn X.prog X.w X.outer X.H₀ X.s₀ E e s'') (λe' s''=>Zn X.prog X.w X.outer X.H₀ X.s₀ E e' s'') s'
section
variable {X:Cx}{E:XK}{pins:đ}{σ:St}{H H':Hp}{s s':ú}
def jX(D:X.stack=X.env::X.outer)(fr:X.env.frame=some X.env.locals):frs X.stack=X.env.locals::frs X.outer:=by
 rw [D]
 show List.filterMap _ (X.env::X.outer)=_
 rw [List.filterMap_cons,fr]
 rfl
def NM.leaves{B k hc:ñ}{g C:ø}{t:ó}(D:X.Def E)(I:NM X pins σ H s)(c:Cov X.stack hc H B s.heap)(f:∀b o,X.s₀.heap.get? b=some o->∃o',hc.get? b=some o')(x:s.heap.FunFrames B X.stack)
  (fl:Heap.FlyingW B X.outer g (.ref C) t k)(F:s.heap.UpToSlots k)(q:E (.ref g) (some C) H):Zn X.prog X.w X.outer X.H₀ X.s₀ E (.ref g) {s with heap:=k}:=by
 have h:=fl.1
 have j:=jX D.stk D.fr
 have l:Un X.fs [] X.H₀ H X.s₀.heap s.heap:=by have:=I.base;rw [D.ex] at this;exact this
 have r:∀b o,X.s₀.heap.get? b=some o->b≠X.env.locals:=λb o e z=>absurd (η e) (z▸Nat.not_lt.mpr I.ok.above)
 refine ⟨g,C,H,ϱ,I.os,I.bare,l.moved c h F x f (λb d=>by rw [j];exact Θ _ d) (λb o e d=>?_),I.hok.moved c h I.stkFree,⟨B,t,fl,c.moved h I.hok l f λb u d=>?_⟩,q⟩
 .rw [j] at d
  rcases ϕ.mp d with z | z
  .exact absurd z (r b o e)
  .exact z
 .rw [j]
  intro z
  rcases ϕ.mp z with z | z
  .subst z
   rcases d with y | ⟨o0,y⟩
   .exact y I.free
   .exact r _ o0 y rfl
  .exact u z
def NM.came{e:ó}{l:XK}(I:NM X pins σ H s)(h:Zn X.prog X.w X.stack H s l e s'):∃ea C H',e=.ref ea/\NM X pins σ H' s'/\Fly X.stack s.heap H' ea C s'.heap/\l e (some C) H':=by
 obtain ⟨ea,C,H',rfl,o,f,un,j,fl,q⟩:=h
 obtain ⟨r,g,d,t,k⟩:=s'
 obtain rfl:k=s.os:=o
 exact ⟨ea,C,H',ϱ,I.call (h':=r) (g':=g) (d':=d) (t':=t) (ch:=[]) un j f (λb z=>absurd z (by simp)),fl,q⟩
def D5(D:X.Def E)(k:X.A.frames=some X.stack):b8 (Zn X.prog X.w) X E:=by
 intro pins σ H s e s' I h
 obtain ⟨l,C,H',rfl,g,⟨B,r,fl,c⟩,q⟩:=I.came h
 rw [D.xe]
 have d:X.A.frames=some (X.env::X.outer):=by rw [k,D.stk]
 rw [D.stk] at fl
 refine wpAny_leaves_onW d D.fr fl λt f j=>?_
 rw [← D.stk] at fl
 have sub:∀b o,X.s₀.heap.get? b=some o->∃o',s.heap.get? b=some o':=λb o e=>I.base.there b o e (by rw [D.ex];simp)
 exact g.leaves D c sub fl.2.2.1 f j q
def Cj(D:X.Def E){h1:ñ}{j C:ø}{vs:Ċ}(I:NM X pins σ H s)(hx:Heap.MadeExcOf s.heap h1 j (.ref C) vs)(q:E (.ref j) (some C) H):X.xe (.ref j) {s with heap:=h1}:=by
 rw [D.xe]
 have d:X.A.frames=some (X.env::X.outer):=by rw [I.ok.frames,D.stk]
 have f:s.heap.FunFrames (PySem.W.hideAll s.heap (frs X.stack)) (X.env::X.outer):=by
  have:=I.stack
  rw [D.stk] at this ⊢
  exact PySem.W.funFrames_hide this λh k b l=>ĭ.mpr ⟨h,k,l⟩
 refine wpAny_leaves_madeW (s:={s with heap:=h1}) d D.fr (λb o e=>PySem.W.of_hideAll _ e) f hx λw t fl _ _ r=>?_
 have c:Cov X.stack s.heap H (PySem.W.hideAll s.heap (frs X.stack)) s.heap:=λb o e u _=>PySem.W.hideAll_get _ e u
 have sub:∀b o,X.s₀.heap.get? b=some o->∃o',s.heap.get? b=some o':=λb o e=>I.base.there b o e (by rw [D.ex];simp)
 have g:s.heap.FunFrames (PySem.W.hideAll s.heap (frs X.stack)) X.stack:=by rw [D.stk] at f ⊢;exact f
 exact I.leaves (s:=s) D c sub g fl ((Heap.UpToSlots.of_keeps hx.keeps).trans r) q
end
def zK{P:ù}{w:ö}{K:ò}{mg:ď}{base:ñ}{N:Ĉ}{qual:Str}{scope:Scope}{f:ø}{cd:ó}{A:ô}{outer:ą}{s:ú}{H:Hp}{E:XK} :
  (gW (Zn P w) P w K mg base N qual scope f cd A outer s H E).Def E:=⟨ϱ,ϱ,ϱ,ϱ⟩
section
variable {P:ù}{w:ö}{K:ò}{mg:ď}{base:ñ}
def Fun.okE{x e:Str}{st:ð}{f:ø}{o:õ}{N ps:Ĉ}{k:Nat}{sp:Sp}(F:Fun K x e st f o)(S:ag N ps (NE st))(len:∀vs H Q E,sp vs H Q E->vs.length=ps.length)
  (h:∀(g:ó) (A:ô) (d:ą) (s:ú) (H:Hp) (vs:î V) (Q:VK) (E:XK),NU k (A.deeper (envOfC e (NE st) s.heap.objs.size f g))->sp vs H Q E ->
   ∃t,PSs (gW (Zn P w) P w K mg base N e (NE st) f g A d s H E) (NF st) t/\t {nx:=λ_ H'=>Q .non H',rt:=Q} (start N vs) H):NH P w K mg base (Zn P w) (k+1) f o ps sp:=by
 obtain ⟨z,C,kV,q,D,G,g,I,r,rfl,u,j⟩:=F.ex
 exact vU u j S len λA d s H vs Q E y l=>h g A d s H vs Q E y l
def sF{N:Ĉ}{j:Str}{scope:Scope}{f:ø}{o:ó}{A:ô}{d:ą}{s:ú}{H:Hp}{E:XK}:b8 (Zn P w) (gW (Zn P w) P w K mg base N j scope f o A d s H E) E:=by
 intro g σ H1 k e l I h
 exact D5 zK I.ok.frames g σ H1 k e l I h
end
def ut{K:ò}{h:ñ}{mg:ď}{x:Str}{C:ø}{bm:Ċ}{new:String}(d:K.In h)(G:mg x=some (.ref C))(q:PySem.W.excIn K C bm new=true):OwnCls x C bm new mg h:=by
 have r:∀o,K.lookup C=some o->∃tl N nm j bs hdct k sub l e dd k0 k1 k2 k3 k5 mN,h.get? C=some (excClassObj nm j C N bs tl hdct k sub l e dd k0 k1 k2 k3 k5 new)/\h.Ns N mN/\mN "__init__"=none/\OwnTail h bm tl:=λo f=>by
  unfold PySem.W.excIn at q
  rw [f] at q
  obtain ⟨H,u,w,g⟩:=o
  split at q
  .rename_i dd cd sl e0
   cases (Δ e0)
   obtain ⟨nm,bs,y,z,j,D,k,sub,l,e,F⟩:=cd
   split at q
   .rename_i C2 tl k0 k1 k2 k3 n2 k5 em es
    dsimp only at em q
    simp only [Bool.and_eq_true,beq_iff_eq,Bool.not_eq_true'] at q
    obtain ⟨⟨⟨⟨⟨q1,q2⟩,q3⟩,q4⟩,q5⟩,q6⟩:=q
    subst q1 q2 q3 em
    have t:g=#[k0,k1,k2,k3,some (.builtin n2),k5]:=į.mp es
    subst t
    exact ⟨tl,z,nm,j,bs,D,k,sub,l,e,u,k0,k1,k2,k3,k5,_,d _ _ f,.of_isNs (PySem.W.isNs_of_in d q5),PySem.W.nsMap_none_of_in d q5 q6,PySem.W.tail_of_in d q4⟩
   .cases q
  .cases q
 refine ⟨G,?_⟩
 cases f:K.lookup C with
 | none=>unfold PySem.W.excIn at q;cases f▸q
 | some o=>exact r o f
section
variable {X:Cx}{E:XK}
def BY(C:ø)(E:XK)(ta:TA):TS:=λ_ σ H=>ta σ H λvs H1=>vs.length<=1/\∀ea,E (.ref ea) (some C) H1
def yj{x:Str}{C:ø}{bm:Ċ}{B new j:String}{e:ï}{ta:TA}{U d pos:Pos}(D:X.Def E)(hc:X.calm=true)(Y:Gl X x)(w:X.mg x=some (.ref C))
  (q:PySem.W.excIn X.K C bm new=true)(z:ExcBaseFacts B new j bm)(Z:PA X [e] ta)
  (k:starEach [e] X.env=[(false,eval e X.env)]:=by rfl)(hd:(x==("__debug__":Str))=false:=by decide) :
  PS X (.Raise (some (.Call (.Name x U) [e] [] d)) none pos) (BY C E ta):=by
 intro g s σ H D' I h
 obtain ⟨F,N,nm,G,bs,hdct,sn,sub,ab,col,dd,k0,k1,k2,k3,k5,mN,J,hN,l,T⟩:=(ut I.ok.mod.kin w q).obj
 refine wpAny_Raise_call_subT (C:=C) (nm:=nm) (q:=G) (N:=N) (bs:=bs) (bm:=F) (hdct:=hdct) (sn:=sn) (sub:=sub) (ab:=ab) (col:=col) (dd:=dd) (k0:=k0) (k1:=k1) (k2:=k2) (k3:=k3) (k5:=k5)
  z (mN:=mN) (T.hasType z.hasBase) (I.ok.hd hc) (by rw [k];rfl) l (cy I Y w ⟨ϱ,?_⟩ hd)
 have f:=Z d g s σ H _ I h
 rw [k] at f ⊢
 refine Ě (Ŭ f (λL O ⟨vs,H2,u,r,hl,q2⟩=>?_) λ_ _ y=>y)
 have t:∀b o,X.base.get? b=some o->O.heap.get? b=some o:=u.bk
 refine ⟨ϱ,?_,t _ _ J,hN.keeps t,T.keeps t,λh' P Q=>Cj D u Q (q2 P)⟩
 have:=r.length
 have h0:(1:Nat)<=sizeLine:=by decide
 show L.length<=sizeLine
 lia
end
def Dw(ea C:ø):HO:=.ext λh=>∃o,h.get? ea=some o/\o.cls=.ref C
abbrev Cx.hnd(X:Cx)(ev:ó):Cx:={X with A:=X.A.mark (some ev),calm:=false,xe:=λ_ _=>False}
section
variable {X:Cx}{pins:đ}{σ:St}{H H1:Hp}{s s1:ú}{ev:ó}
def Cx.Ok.hnd(ok:X.Ok)(ev:ó):(X.hnd ev).Ok :=
 ⟨ok.mod,ok.kind,ok.glob,ok.blt,ok.above,ok.inj,ok.has,ok.cab,λh=>(by cases h),ok.frames,ok.stk,ok.exf,ok.bs,ok.bsz,ok.noex,ok.exfs,ok.funs,ok.frf⟩
def NM.hnd(I:NM X pins σ H s)(ev:ó):NM (X.hnd ev) pins σ H s:=⟨I.ok.hnd ev,I.os,I.bare,I.base,I.loc,I.cell,I.free,I.freeC,I.pin,I.hok,I.len⟩
def NM.unhnd(ok:X.Ok)(I:NM (X.hnd ev) pins σ H s):NM X pins σ H s:=⟨ok,I.os,I.bare,I.base,I.loc,I.cell,I.free,I.freeC,I.pin,I.hok,I.len⟩
def SP.unhnd{D:Ends}{f:Flow}{s':ú}(ok:X.Ok)(h:SP (X.hnd ev) pins D f s'):SP X pins D f s':=by
 cases f with
 | next=>obtain ⟨d,e,g,q⟩:=h;exact ⟨d,e,g.unhnd ok,q⟩
 | brk=>obtain ⟨d,e,g,q⟩:=h;exact ⟨d,e,g.unhnd ok,q⟩
 | cont=>obtain ⟨d,e,g,q⟩:=h;exact ⟨d,e,g.unhnd ok,q⟩
 | ret v=>obtain ⟨x,d,e,g,r,q⟩:=h;exact ⟨x,d,e,g.unhnd ok,r,q⟩
def UpToSlots.isCell{h h':ñ}{c:ø}{v:ý}(g:h.UpToSlots h')(x:h.IsCell c v):h'.IsCell c v:=by
 obtain ⟨o,e,d⟩:=x
 obtain ⟨j,f⟩:=g c o e λvs q=>by cases d▸q
 exact ⟨_,f,d⟩
def NM.moved{B t:ñ}(F:NM X pins σ H1 s1)(I:NM X pins σ H s)(w:X.stack=X.env::X.outer)(fr:X.env.frame=some X.env.locals)(g:X.ex=[])(c:Cov X.stack s1.heap H B s.heap)(st:B.StaysIn t)(j:s.heap.UpToSlots t)
  (P:s.heap.FunFrames B X.stack):NM X pins σ H {s with heap:=t}:=by
 have k:=jX w fr
 have L:Un X.fs [] X.H₀ H X.s₀.heap s.heap:=by have:=I.base;rw [g] at this;exact this
 have sub:∀b o,X.s₀.heap.get? b=some o->∃o',s1.heap.get? b=some o':=λb o e=>F.base.there b o e (by rw [g];simp)
 have O:∀b o,X.s₀.heap.get? b=some o->b≠X.env.locals:=λb o e z=>absurd (η e) (z▸Nat.not_lt.mpr I.ok.above)
 refine ⟨I.ok,I.os,I.bare,?_,?_,λx l e=>?_,I.free,I.freeC,λp D=>?_,I.hok.moved c st I.stkFree,I.len⟩
 .rw [g]
  refine L.moved c st j P sub (λb h=>by rw [k];exact Θ _ h) λb o e h=>?_
  rw [k] at h
  rcases ϕ.mp h with z | z
  .exact absurd z (O b o e)
  .exact z
 .obtain ⟨m,G,J⟩:=I.loc
  refine ⟨m,j.ns G,λi x v a b l=>?_⟩
  obtain ⟨u,r,K⟩:=J i x v a b l
  refine ⟨u,r,?_⟩
  rcases K with z | ⟨z,cl,e,ic⟩
  .exact .inl z
  .exact .inr ⟨z,cl,e,UpToSlots.isCell j ic⟩
 .obtain ⟨v,q⟩:=I.cell x l e
  exact ⟨v,UpToSlots.isCell j q⟩
 .obtain ⟨e,f,y,C,d⟩:=I.pin p D
  refine ⟨c.stay st p.1 p.2 e (λz=>?_) (.inr ⟨_,(F.pin p D).1⟩),f,y,C,d⟩
  rw [k] at z
  rcases ϕ.mp z with z | z
  .exact y z
  .exact C z
def NM.exc{d C:ø}{h:Obj}(I:NM X pins σ H s)(hx:H d=none)(l:s.heap.get? d=some h)(hc:h.cls=.ref C)(h0:X.s₀.heap.get? d=none)(D:d≠X.env.locals)(j:∀y c,X.env.cells.lookup y=some c->c≠d)
  (F:∀p∈X.pn++pins,p.1≠d):NM X pins σ (upd H d (Dw d C)) s:=by
 refine ⟨I.ok,I.os,I.bare,⟨I.base.keep,I.base.slot,λb o e z t=>?_,I.base.there,λb xs e=>?_,λb o u e=>?_,λb w e=>?_⟩,I.loc,I.cell,?_,λy c e=>?_,λp g=>?_,λb u e=>?_,I.len⟩
 .rw [am (λx=>by rw [x,h0] at e;cases e)];exact I.base.free b o e z t
 .have q:=I.base.tups b xs e
  rw [am (ap q hx)];exact q
 .have q:=I.base.frzs b o u e
  rw [am (ap q hx)];exact q
 .obtain ⟨more,q⟩:=I.base.tbls b w e
  exact ⟨more,by rw [am (ap q hx)];exact q⟩
 .rw [am D.symm];exact I.free
 .rw [am (j y c e)];exact I.freeC y c e
 .obtain ⟨e,f,r⟩:=I.pin p g
  exact ⟨e,by rw [am (F p g)];exact f,r⟩
 .by_cases hb:b=d
  .subst hb
   rw [Ny] at e
   cases e
   exact ⟨⟨h,l,hc⟩,⟨h,l⟩,λh1 G ⟨o,e,c⟩ k=>⟨o,k o e,c⟩⟩
  .rw [am hb] at e
   exact (I.hok b u e).stay (λc v _ q=>q) (λc q=>by rw [am (ap q hx)];exact q) λc xs q=>by rw [am (ap q hx)];exact q
def zZ(X:Cx)(C CB:ø):Prop:=∀(A:ô) (s:ú) (ea:ø) (ob:Obj) (Q:Bool->ú->Prop) (E:Đ),X.K.In s.heap->s.heap.get? ea=some ob->ob.cls=.ref C->Q true s->wpAny (model X.prog X.w) A (excMatches (.ref ea) (.ref CB)) Q E s
def tY{x:Str}{C:ø}{bm:Ċ}{new:String}(u:X.mg x=some (.ref C))(w:PySem.W.excIn X.K C bm new=true)(y:bm.contains (.type "BaseException")=true):zZ X C C:=by
 intro A s O P Q E k o r q
 obtain ⟨z,N,nm,D,bs,e,F,sub,G,f,H,k0,k1,k2,k3,I,J,j,hN,l,T⟩:=(ut k u w).obj
 obtain ⟨h,g,d,t,L⟩:=s
 exact wpAny_excMatches_sub_self j o r (T.hasType y) q
def Eu{d C CB:ø}{Z:Str}{np W:Pos}{b₀:ð}{h:î ð}{rest:î ExceptHandler}{D:Ends}{th:TS}{E:Đ}(Y:NM X pins σ H1 s1)(I:NM X pins σ H s)(g:X.stack=X.env::X.outer)(fr:X.env.frame=some X.env.locals)(F:X.ex=[])
  (a7:Fly X.stack s1.heap H d C s.heap)(hg:Gl X Z)(hm:X.mg Z=some (.ref CB))(tk:zZ X C CB)(hs:∀ev,PSs (X.hnd ev) (b₀::h) th)(q:H d=none->th D σ (upd H d (Dw d C)))(hd:(Z==("__debug__":Str))=false) :
  wpAny (model X.prog X.w) X.A (noteFrame (.ref d) X.env) (λ_ s₂=>wpAny (model X.prog X.w) X.A (setFlight (.ref d) none) (λ_ s₃ =>
   wpAny (model X.prog X.w) X.A (handleBy (.ref d) X.env (.ExceptHandler (some (.Name Z np)) none (b₀::h) W::rest)) (SP X pins D) E s₃) E s₂) E s:=by
 obtain ⟨B,a0,fl,c⟩:=a7
 have a2:X.A.frames=some (X.env::X.outer):=by rw [I.ok.frames,g]
 have ff:=fl.2.2.1
 have a3:Heap.FlyingW B (X.env::X.outer) d (.ref C) a0 s.heap:=by rw [← g];exact fl
 refine wpAny_looks_onW a2 fr a3 λh₄ r Q=>?_
 refine wpAny_landsW r λh₅ t U=>?_
 have I5:=NM.moved Y I g fr F c t.1 (Q.trans U) ff
 obtain ⟨ob,a1,G⟩:=t.there
 refine wpAny_handleBy_cons (codeAny_handlers_test (cy (X:=X.hnd (.ref d)) (I5.hnd (.ref d)) hg hm ?_ hd)) (by intro z;cases z)
 refine tk _ _ d ob _ _ I5.kIn a1 G (codeAny_handlers_suite ?_)
 refine lands_againW (s:={s with heap:=h₅}) t λh₆ x a6=>?_
 have I6:=NM.moved Y I g fr F c x.1 ((Q.trans U).trans a6) ff
 obtain ⟨oe,ws,J,K,L,ab⟩:=x.first
 have k:d∉frs X.stack:=λz=>by
  have O:=x.2.2.1
  rw [← g] at O
  obtain ⟨_,o',j,d'⟩:=O.mem (show d∈X.stack.filterMap (·.frame) from z)
  rw [J] at j
  cases j
  exact d' ws L
 obtain ⟨o1,e1,_⟩:=fl.there
 have hB:=fl.2.1
 have P:H d=none:=by
  cases z:H d with
  | none=>rfl
  | some u =>
   have:=c d o1 e1 k (.inl (by rw [z];intro y;cases y))
   cases hB▸this
 have l:s1.heap.get? d=none:=by
  cases z:s1.heap.get? d with
  | none=>rfl
  | some u =>
   have:=c d o1 e1 k (.inr ⟨u,z⟩)
   cases hB▸this
 have a4:X.s₀.heap.get? d=none:=by
  cases z:X.s₀.heap.get? d with
  | none=>rfl
  | some u =>
   obtain ⟨o',j⟩:=Y.base.there d u z (by rw [F];simp)
   rw [l] at j;cases j
 have a5:=I6.exc P J K a4 (λz=>k (by rw [jX g fr,z];exact Ω)) (λy cc e z=>by
  obtain ⟨v,o,j,_⟩:=Y.cell y cc e
  rw [z,l] at j;cases j) λp hp z=>by
   have:=(Y.pin p hp).1
   rw [z,l] at this;cases this
 exact Ŭ (hs (.ref d) pins _ σ _ D (a5.hnd _) (q P)) (λf s7 h7=>SP.unhnd I.ok h7) λ_ _ z=>z.elim
abbrev TX:=St->Hp->VK->XK->Prop
def XP(X:Cx)(pins:đ)(σ:St)(E:XK)(ev:ó)(s':ú):Prop:=∃s1 H1 ea C H',NM X pins σ H1 s1/\ev=.ref ea/\NM X pins σ H' s'/\Fly X.stack s1.heap H' ea C s'.heap/\E ev (some C) H'
def PEX(X:Cx)(e:ï)(t:TX):Prop :=
 ∀(pins:đ) (s:ú) (σ:St) (H:Hp) (Q:VK) (E:XK),NM X pins σ H s->t σ H Q E->wpAny (model X.prog X.w) X.A (eval e X.env) (EP X pins σ Q) (XP X pins σ E) s
def Dx(sp:Sp)(dvs:î V)(t:TA):TX:=fun σ H Q E=>t σ H λvs H1=>sp (vs++dvs) H1 Q E
end
section
variable {X:Cx}{e:ï}{t:TX}{C CB:ø}{cx y:Str}{np hpos pos py apos:Pos}{b₀:ð}{suite:î ð}{th:TS}{j:Nat}
def Ak(j:Nat)(C:ø)(t:TX)(th:TS):TS:=λD σ H=>t σ H (λv H1=>D.nx (σ.set j (some v)) H1) λev c H1=>∃ea,ev=.ref ea/\c=some C/\(H1 ea=none->th D σ (upd H1 ea (Dw ea C)))
def wx(o:X.stack=X.env::X.outer)(fr:X.env.frame=some X.env.locals)(r:X.ex=[])(hN:X.N.Nodup)(U:X.N[j]?=some y)(W:Loc X.env.scope y)(Y:PEX X e t)(Z:Gl X cx)(hm:X.mg cx=some (.ref CB))(tk:zZ X C CB)
  (hs:∀ev,PSs (X.hnd ev) (b₀::suite) th)(hd:(cx==("__debug__":Str))=false:=by decide)(u:swapsWith e (some (.Name y py)) apos.line X.env=pure false:=by rfl)
  (hf:X.fn y=true\/X.env.scope.names.lookup y=some .local:=by first | exact .inl rfl | exact .inr rfl | assumption) :
  PS X (.Try [.Assign [.Name y py] e apos] [.ExceptHandler (some (.Name cx np)) none (b₀::suite) hpos] [] [] pos) (Ak j C t th):=by
 intro d s σ H D I h
 refine wpAny_Try_except (wpAny_execs_cons (Ŭ (wpAny_Assign_Name (Q:=λf k=>f=.next/\SP X d D .next k) (Ŭ (Y d s σ H _ _ I h) (λv k ⟨y1,H1,K,L,q1⟩=>?_) λev k O=>?_) u) (λf k l=>?_) λ_ _ z=>z))
 .exact jz K hN U W L (λs2 P=>⟨ϱ,_,H1,P,q1⟩) hf
 .obtain ⟨s0,H0,ea,w,H',x,rfl,F,fl,G,J,g,q⟩:=O
  cases J
  obtain rfl:w=C:=Δ g
  exact Eu x F o fr r fl Z hm tk hs q hd
 .obtain ⟨rfl,l⟩:=l
  exact Ŏ (Ŏ l)
end
open PySem.Builtin PySem.Builtin.ObjectAttr PySem.Builtin.Getset_descriptor
section
variable {prog:ù}{w:ö}{A:ô}{E:Đ}{s:ú}{K:ò}{x D:ø}{ox:Obj}
structure uV(K:ò)(D:ø):Prop where
 ga:PySem.W.findIn K (.ref D) "__getattribute__"=some (some (.builtin "BaseException.__getattribute__"))
 gh:PySem.W.findIn K (.ref D) "__getattr__"=some none
 ha:PySem.W.findIn K (.ref D) "__class__"=some (some (.builtin "object.__class__"))
 hn:PySem.W.specialIn K (.builtin "object.__class__") "__get__"=some (some (.builtin "getset_descriptor.__get__"))
 htk:PySem.W.takesIn K (.builtin "object.__class__")=some true
 hm:PySem.W.mroIn K D (.type "object")=some true
 hb:PySem.W.mroIn K D (.type "BaseException")=some true
def wR(Y:uV K D)(X:K.In s.heap){M:Model}:PySem.W.Looks M s.heap (find (.ref x) (.ref D) "__class__") (.bind (.builtin "getset_descriptor.__get__") (.builtin "object.__class__")):=by
 have d:=Ŋ (M:=M) X Y.ha
 have L2:PySem.W.Looks M s.heap (getOf (some (.builtin "object.__class__"))) (some (.builtin "getset_descriptor.__get__")):=PySem.W.looks_specialIn X Y.hn
 refine d.andThen (L2.andThen ?_)
 have e:=PySem.W.looks_takesIn (M:=M) X Y.htk
 exact (show PySem.W.Looks M s.heap (dataDescriptor? (some (.builtin "object.__class__")) (some (.builtin "getset_descriptor.__get__"))) (some (.builtin "getset_descriptor.__get__",.builtin "object.__class__")) from e.andThen .now).andThen (PySem.W.Looks.tag .now)
def iM(hx:s.heap.get? x=some ox)(hc:ox.cls=.ref D){M:Model}:PySem.W.Looks M s.heap (typeOf (.ref x)) (.ref D):=hc▸(PySem.W.Looks.ld hx).andThen .now
def pD(Y:uV K D){R:Result->ú->Prop}{tp:ó}(X:K.In s.heap)(hx:s.heap.get? x=some ox)(hc:ox.cls=.ref D)
  (h:R (.ok (.ret (.ref D))) s):codeAny (model prog w) A (.call (.builtin "getset_descriptor.__get__") ⟨[.builtin "object.__class__",.ref x,tp],[]⟩) R s:=by
 have j:=iM (M:=model prog w) hx hc
 obtain ⟨d,g,e,t,f⟩:=s
 have k:=PySem.W.looks_mroIn (M:=model prog w) X Y.hm
 refine Ę PySem.W.KF.slot_gs.plain PySem.W.KF.entry_gs (PySem.W.KF.slot_gs.check _ _ _ _ _ _ _ _ PySem.W.KF.type_class (PySem.W.KF.args_gs _ _ _) ?_)
 unfold Builtin.«getset_descriptor.__get__» descrGet
 rw [PySem.W.dga_obj]
 refine ε (π ?_)
 unfold descrGetter descrCheckInstance descrNameAndClass isInstance
 simp only [PySem.W.KF.owner_class]
 repeat lk
 refine ⟨Code.quiet_builtin _ θ,codeAny_builtin PySem.W.KF.entry_class ?_⟩
 unfold Builtin.«object.__class__» shownTypeOf
 repeat lk
 exact h
def rP(Y:uV K D){j:Tok}{Q:Fin->ú->Prop}(X:K.In s.heap)(hx:s.heap.get? x=some ox)(hc:ox.cls=.ref D)
  (h:Q (.done (.ret (.ref D))) s) :
  wpAny (model prog w) A (Builtin.«object.__getattribute__» ⟨[.ref x, .str "__class__" j], []⟩) Q E s := by
 have k:=iM (M:=model prog w) hx hc
 have l:=wR (x:=x) (M:=model prog w) Y X
 obtain ⟨d,g,e,t,f⟩:=s
 unfold Builtin.«object.__getattribute__»
 repeat (first | with_reducible refine PySem.W.Looks.at (by assumption) ?_ | with_reducible refine ε ?_ | with_reducible refine ŗ ?_ | with_reducible refine ī ?_ | with_reducible refine wpAny_runValue ?_ | lk)
 refine pD (s:=⟨d,g,e,t,f⟩) Y X hx hc ?_
 repeat (any_goals (first | assumption | wp_step))
def jY(Y:uV K D){M:Model}{d:ó}{Q:Unit->ú->Prop}(X:K.In s.heap)(hx:s.heap.get? x=some ox)(hc:ox.cls=.ref D)(k:Q () s):wpAny M A (checkBuiltinCall "BaseException.__getattribute__" ⟨[.ref x,d],[]⟩) Q E s:=by
 have f:builtinKind "BaseException.__getattribute__"=some .slot:=by decide +kernel
 have e:splitId "BaseException.__getattribute__"=some ("BaseException","__getattribute__"):=by decide +kernel
 have r:=F.args_bexc_ga (.ref x) d
 have h:=iM (M:=M) hx hc
 have j:=PySem.W.looks_mroIn (M:=M) X Y.hb
 obtain ⟨l,g,o,t,q⟩:=s
 simp only [checkBuiltinCall,f,e]
 refine ε ?_
 .unfold isInstance
  refine ε (h.at (j.at ?_))
  repeat (first | exact k | wp_step)
def wT(Y:uV K D){Q:ý->ú->Prop}(X:K.In s.heap)(hx:s.heap.get? x=some ox)(hc:ox.cls=.ref D)(h:Q (some (.ref D)) {s with toks:=s.toks+1}):wpAny (model prog w) A (getAttr? (.ref x) "__class__") Q E s:=by
 have l:=iM (M:=model prog w) hx hc
 have o:=Ŋ (M:=model prog w) X Y.ga
 have L2:=Ŋ (M:=model prog w) X Y.gh
 obtain ⟨j,g,d,t,k⟩:=s
 have f3:=F.excAttr_ValueError.ga.bind (.ref x)
 have e:(Value.builtin "BaseException.__getattribute__"==Value.builtin "object.__getattribute__")=false:=by decide +kernel
 have f:(onTheHeap (Value.ref D)&&Value.builtin "BaseException.__getattribute__"==Value.builtin "object.__getattribute__")=false:=by rw [e];rfl
 unfold getAttr? getAttrBy? getAttrBy
 refine ε (wpAny_mkText (ε (wpAny_attempt (ŗ (ε (l.at (ε (o.at ?_))))))))
 dsimp only
 rw [ŵ (by rw [f];decide)]
 unfold getAttrByItsOwn hookBefore
 refine ε ?_
 rw [ů (show onTheHeap (Value.ref D)=true from rfl)]
 refine L2.at (ε (wpAny_attempt ?_))
 refine ŗ ?_
 unfold callGetattribute boundAndCalled
 rw [ŵ ζ,f3]
 refine ε (π (ī (Ę F.excAttr_ValueError.ga.plain F.entry_bexc_ga (jY (s:=⟨j,g,d,t+1,k⟩) Y X hx hc (rP (s:=⟨j,g,d,t+1,k⟩) Y X hx hc ?_)))))
 repeat (any_goals (first | exact h | wp_step))
end
end L2
namespace L2
open PySem PySem.Spec PyProof.Rows
section
variable {K:ò}{x D:ø}
def sS(Y:uV K D):PySem.W.KitX K (.ref x) (.ref D) (λh=>∃o,h.get? x=some o/\o.cls=.ref D) where
 ty:=λ_ h _ ⟨o,h1,h2⟩=>h2▸(PySem.W.Looks.ld h1).andThen .now
 it:=λ_ _ X _=>by
  obtain ⟨cdD,hcD,_⟩:=Option.bind_eq_some_iff.mp Y.hm
  unfold PySem.W.clsIn at hcD
  split at hcD
  .rename_i c' d' cd' sl' ho
   intro A' Q' E' s' k q
   unfold isType loadHead
   exact ε (wpAny_loadPart (k _ _ (X _ _ ho)) (π q))
  .cases hcD
 ne:=λh tp dd its n sl X htp=>by
  obtain ⟨cdD,hcD,_⟩:=Option.bind_eq_some_iff.mp Y.hm
  refine Bool.eq_false_iff.mpr λq=>?_
  have e:D=tp:=Value.ref.inj (Ĭ.mp q)
  subst e
  unfold PySem.W.clsIn at hcD
  split at hcD
  .rename_i c' d' cd' sl' ho
   have z:=(X _ _ ho).symm.trans htp
   cases z
  .cases hcD
 ca:=λX ⟨o,h1,h2⟩ k=>wT Y X h1 h2 k
end
section
variable {X:Cx}{pins:đ}{σ:St}{H H1:Hp}{s s1:ú}{ev:ó}
def mU{M:Model}{A:ô}{E:Đ}{i:Nat}{x:Str}{pos:Pos}{Q:Unit->ú->Prop}(I:NM X pins σ H s)(hN:X.N.Nodup)(U:X.N[i]?=some x)(hk:X.env.scope.names.lookup x=some .local)
  (h:∀s',NM X pins (σ.set i none) H s'->Q () s'):wpAny M A (do bindName X.env x .none;unbindBehindTheSuite X.env x pos) Q E s:=by
 obtain ⟨m,L,W⟩:=id I.loc
 have t:(X.env.scope.kind==.class||(X.env.scope.kind==.module&&X.env.locals != X.env.globals))=false:=by rw [I.ok.kind];rfl
 have G:i<σ.length:=by rw [I.len];exact (ſ.mp U).1
 have cne:=I.cne
 have g:∀{a:ø} {C:ñ},(∃o,s.heap.get? a=some o/\H a=none)->Heap.SameBut a s.heap C->NS X.prog X.w H C:=λ{a C} ha l b ob e=>by
  obtain ⟨_,_,f⟩:=ha
  refine (I.hok b ob e).stay (λc O hc q=>(l.2 c ?_).trans q) (λ_ q=>q) λ_ _ q=>q
  rintro rfl
  rcases hc with rfl | hc
  .cases f▸e
  .cases f▸hc
 refine wpAny_nameGoes_keeps hk L t λC v0 J l=>?_
 obtain ⟨oL,_,_,F,_⟩:=id L
 refine h _ ⟨I.ok,I.os,I.bare,⟨λb o e n K u=>?_,λb o e n K u=>?_,I.base.free,λb o e u=>?_,I.base.tups,I.base.frzs,I.base.tbls⟩,⟨_,J,λj y v' r D e3=>?_⟩,λy c e=>?_,I.free,I.freeC,λp hp=>?_,g ⟨oL,F,I.free⟩ l,by simpa using I.len⟩
 .exact (l.2 b (Φ (Ÿ (η e) I.ok.above))).trans (I.base.keep b o e n K u)
 .obtain ⟨Y,r⟩:=I.base.slot b o e n K u
  exact ⟨Y,(l.2 b (Φ (Ÿ (η e) I.ok.above))).trans r⟩
 .obtain ⟨Z,r⟩:=I.base.there b o e u
  exact ⟨Z,(l.2 b (Φ (Ÿ (η e) I.ok.above))).trans r⟩
 .by_cases hj:j=i
  .subst hj
   rw [š G] at D
   cases D
  .rw [ŋ (Ne.symm hj)] at D
   obtain ⟨u',r',q⟩:=W j y v' r D e3
   refine ⟨u',r',?_⟩
   rcases q with ⟨k,e⟩ | ⟨k,c,e,z⟩
   .refine .inl ⟨k,?_⟩
    have:y≠x:=λe=>hj (oA hN r (e▸U))
    simp [this,e]
   .exact .inr ⟨k,c,e,z.sameBut l (cne y c e)⟩
 .obtain ⟨O,z⟩:=I.cell y c e
  exact ⟨O,z.sameBut l (cne y c e)⟩
 .obtain ⟨e,n,P,nf,d⟩:=I.pin p hp
  exact ⟨(l.2 p.1 P).trans e,n,P,nf,d⟩
def Ends.gone(D:Ends)(i:Nat):Ends:=⟨fun σ H=>D.nx (σ.set i none) H,D.rt,fun σ H=>D.bk (σ.set i none) H,fun σ H=>D.ct (σ.set i none) H⟩
end
section
variable {P:ù}{w:ö}{K:ò}{H:Hp}{h:ñ}{a b:ø}{xs ys:î V}
def iT(d:NS P w H h)(f:K.In h)(q:NN K H a xs):∃its:Ċ,NQ xs its/\IsTup h a its.toArray/\xs.length<=sizeLine:=by
 rcases q with q | ⟨o,its,n,hk,hc,hs,hz,r⟩
 .obtain ⟨z,its,r,p⟩:=q.ok d
  exact ⟨its,r,p,z⟩
 .refine ⟨its.toList,r,⟨o,f a o hk,hc,n,by simpa using hs⟩,?_⟩
  have e:=r.length
  simp only [Array.length_toList] at e
  lia
def u6(g:NS P w H h)(j:K.In h)(q:NN K H a xs)(x:NN K H a ys):xs=ys:=by
 obtain ⟨k,r,⟨o,e,_,n,d⟩,_⟩:=iT g j q
 obtain ⟨f,u,⟨y,l,_,z,t⟩,_⟩:=iT g j x
 rw [e] at l;cases l
 rw [d] at t
 injection t with d1 _
 have:k=f:=by simpa using congrArg Array.toList d1
 subst this
 exact r.inj u
def SqU(K:ò)(H:Hp)(a:ø)(xs:î V):Prop :=
 H a=some (.tup xs)\/∃(o:Obj) (its:û) (n:Nat),K.lookup a=some o/\o.cls=.type "tuple"/\o.data=.seq its n/\its.size<=sizeLine/\NQ xs its.toList
def SqU.sq(q:SqU K H a xs):NN K H a xs:=q.elim (λz=>.inl (.inl z)) .inr
def a9(H H':Hp):Prop:=∀b xs,H b=some (.tup xs)->H' b=some (.tup xs)
def NI.ts{H H':Hp}(e:NI H H'):a9 H H':=λb xs h=>e b _ h
def SqU.keep{H':Hp}(e:a9 H H')(q:SqU K H a xs):SqU K H' a xs:=q.elim (λz=>.inl (e _ _ z)) .inr
end
def EqIs(K:ò)(n:Nat)(H:Hp)(x y:V)(b:Bool):Prop :=
 ∀(P:ù) (w:ö) (A:ô) (s:ú) (u v:ó),A.units+n<cLine->NS P w H s.heap->K.In s.heap->NP x u->NP y v->SeqAt.EqAt A s u v b
def uT(K:ò)(n:Nat)(H:Hp)(x y:V)(b:Bool):Prop :=
 ∀(P:ù) (w:ö) (A:ô) (s:ú) (u v:ó),A.units+n<cLine->NS P w H s.heap->K.In s.heap->NP x u->NP y v->SeqAt.RcAt A s u v b
def xc(K:ò)(n:Nat)(H:Hp)(x y:V)(b:Bool):Prop :=
 ∀(P:ù) (w:ö) (A:ô) (s:ú) (u v:ó),A.units+n<cLine->NS P w H s.heap->K.In s.heap->NP x u->NP y v->SeqAt.RcNeAt A s u v (!b)
section
variable {K:ò}{H:Hp}{a b:ø}{n m:Nat}{x y:V}{r:Bool}
def EqIs.mono(h:EqIs K n H x y r)(le:n<=m):EqIs K m H x y r:=λP w A s u v hA=>h P w A s u v ω
def DA{us vs:î V}{e:Nat->Bool}(ha:NN K H a us)(hb:NN K H b vs)(hl:us.length=vs.length)(he:∀(j:Nat) x y,us[j]?=some x->vs[j]?=some y->EqIs K n H x y (e j)) :
  uT K (n+1) H (.ref a) (.ref b) ((List.range us.length).all e)/\xc K (n+1) H (.ref a) (.ref b) ((List.range us.length).all e):=by
 have f:∀(P:ù) (w:ö) (A:ô) (s:ú) (u v:ó),A.units+(n+1)<cLine->NS P w H s.heap->K.In s.heap->NP (.ref a) u->NP (.ref b) v ->
   SeqAt.RcAt A s u v ((List.range us.length).all e)/\SeqAt.RcNeAt A s u v (!(List.range us.length).all e):=by
  intro P w A s u v hA k l r1 r2
  cases r1
  cases r2
  obtain ⟨g,F,G,_⟩:=iT k l ha
  obtain ⟨h,I,J,_⟩:=iT k l hb
  have l1:=F.length
  have Z:=I.length
  have d:∀j (h1:j<g.toArray.size) (o:j<h.toArray.size),SeqAt.EqAt A.in1 s g.toArray[j] h.toArray[j] (e j):=λj h1 o=>by
   have r:j<g.length:=by simpa using h1
   have t:j<h.length:=by simpa using o
   have Q:us[j]?=some us[j]:=ξ ω
   have U:vs[j]?=some vs[j]:=ξ ω
   obtain ⟨u,L,X⟩:=F.get Q
   obtain ⟨v,O,Y⟩:=I.get U
   have q:=he j _ _ Q U P w A.in1 s u v (by show A.units+1+n<cLine;lia) k l X Y
   have z1:g.toArray[j]=u:=by
    rw [ξ r] at L
    simpa using Option.some.inj L
   have z2:h.toArray[j]=v:=by
    rw [ξ t] at O
    simpa using Option.some.inj O
   rw [z1,z2]
   exact q
  have W:((List.range (min g.toArray.size h.toArray.size)).all e&&g.toArray.size==h.toArray.size)=(List.range us.length).all e:=by
   have s1:g.toArray.size=us.length:=by simp [l1]
   have s2:h.toArray.size=us.length:=by simp [← Z,hl]
   rw [s1,s2,Nat.min_self]
   simp
  constructor
  .have q:=SeqAt.RcAt.tuples (A:=A) (s:=s) (e:=e) G J ω d
   rw [W] at q
   exact q
  .have q:=SeqAt.RcNeAt.tuples (A:=A) (s:=s) (e:=e) G J ω d
   rw [W] at q
   exact q
 exact ⟨λP w A s u v h1 o z C D=>(f P w A s u v h1 o z C D).1,λP w A s u v h1 o z C D=>(f P w A s u v h1 o z C D).2⟩
def oX(h:uT K n H (.ref a) (.ref b) r)(l:∀(P:ù) (w:ö) (h:ñ),NS P w H h->K.In h->a=b->r=true):EqIs K n H (.ref a) (.ref b) r:=by
 intro P w A s u v k d f g j
 have q:=h P w A s u v k d f g j
 cases g
 cases j
 by_cases e:a=b
 .rw [l P w s.heap d f e,e]
  exact SeqAt.EqAt.same _
 .exact SeqAt.EqAt.of_refs e q
end
structure Cod(α:Type) [DecidableEq α] where
 n:Nat
 rp:ò->Hp->α->V->Prop
 inj:∀{P:ù} {w:ö} {K:ò} {H:Hp} {h:ñ} {x y:α} {v:V},NS P w H h->K.In h->rp K H x v->rp K H y v->x=y
 eq:∀{K:ò} {H:Hp} {x y:α} {u v:V},rp K H x u->rp K H y v->EqIs K n H u v (decide (x=y))
 rc:∀{K:ò} {H:Hp} {x y:α} {u v:V},rp K H x u->rp K H y v->uT K n H u v (decide (x=y))
 ne:∀{K:ò} {H:Hp} {x y:α} {u v:V},rp K H x u->rp K H y v->xc K n H u v (decide (x=y))
 keep:∀{K:ò} {H H':Hp} {x:α} {v:V},a9 H H'->rp K H x v->rp K H' x v
def cInt:Cod Int where
 n:=0
 rp _ _ i v:=v=.int i
 inj _ _ h1 h2:=by
  rw [h1] at h2
  exact V.int.inj h2
 eq h1 h2:=by
  intro P w A s u v _ _ _ r1 r2
  subst h1 h2
  obtain ⟨t,rfl⟩:=r1
  obtain ⟨t',rfl⟩:=r2
  rw [← Bool.beq_eq_decide_eq]
  exact SeqAt.EqAt.int_int _ t _ t'
 rc h1 h2:=by
  intro P w A s u v _ _ _ r1 r2
  subst h1 h2
  obtain ⟨t,rfl⟩:=r1
  obtain ⟨t',rfl⟩:=r2
  rw [← Bool.beq_eq_decide_eq]
  exact SeqAt.RcAt.int_int _ t _ t'
 ne h1 h2:=by
  intro P w A s u v _ _ _ r1 r2
  subst h1 h2
  obtain ⟨t,rfl⟩:=r1
  obtain ⟨t',rfl⟩:=r2
  rw [← Bool.beq_eq_decide_eq]
  exact SeqAt.RcNeAt.int_int _ t _ t'
 keep _ h:=h
def g6(x y:Str):decide (x=y)=(x==y):=by
 rw [ļ]
 simp
def Fs:Cod Str where
 n:=0
 rp _ _ i v:=v=.str i
 inj _ _ h1 h2:=by
  rw [h1] at h2
  exact V.str.inj h2
 eq h1 h2:=by
  intro P w A s u v _ _ _ r1 r2
  subst h1 h2
  obtain ⟨t,rfl⟩:=r1
  obtain ⟨t',rfl⟩:=r2
  rw [g6]
  exact SeqAt.EqAt.str_str _ t _ t'
 rc h1 h2:=by
  intro P w A s u v _ _ _ r1 r2
  subst h1 h2
  obtain ⟨t,rfl⟩:=r1
  obtain ⟨t',rfl⟩:=r2
  rw [g6]
  exact SeqAt.RcAt.str_str _ t _ t'
 ne h1 h2:=by
  intro P w A s u v _ _ _ r1 r2
  subst h1 h2
  obtain ⟨t,rfl⟩:=r1
  obtain ⟨t',rfl⟩:=r2
  rw [g6]
  exact SeqAt.RcNeAt.str_str _ t _ t'
 keep _ h:=h
section
variable {α β γ:Type} [DecidableEq α] [DecidableEq β] [DecidableEq γ]
def rT2(c:Cod α)(d:Cod β)(K:ò)(H:Hp)(x:α×β)(v:V):Prop:=∃a u w,v=.ref a/\SqU K H a [u,w]/\c.rp K H x.1 u/\d.rp K H x.2 w
def vk{c:Cod α}{d:Cod β}{P:ù}{w:ö}{K:ò}{H:Hp}{h:ñ}{x y:α×β}{v:V}(f:NS P w H h)(g:K.In h)(h1:rT2 c d K H x v)(C:rT2 c d K H y v):x=y:=by
 obtain ⟨a,u,t,rfl,l,o,q⟩:=h1
 obtain ⟨b,D,F,e,r,j,k⟩:=C
 cases e
 have z:=u6 f g l.sq r.sq
 cases z
 exact Prod.ext (c.inj f g o j) (d.inj f g q k)
def um{c:Cod α}{d:Cod β}{K:ò}{H:Hp}{x y:α×β}{u v:V}(h1:rT2 c d K H x u)(z:rT2 c d K H y v) :
  uT K (max c.n d.n+1) H u v (decide (x=y))/\xc K (max c.n d.n+1) H u v (decide (x=y)):=by
 obtain ⟨a,u,t,rfl,l,o,r⟩:=h1
 obtain ⟨b,C,D,rfl,w,h,k⟩:=z
 have T:=DA (n:=max c.n d.n) (e:=λj=>if j=0 then decide (x.1=y.1) else decide (x.2=y.2)) l.sq w.sq rfl (λj p q f g=>by
  match j,f,g with
  | 0,f,g=>cases f;cases g;exact (c.eq o h).mono (Nat.le_max_left _ _)
  | 1,f,g=>cases f;cases g;exact (d.eq r k).mono (Nat.le_max_right _ _))
 have e:((List.range ([u,t]:î V).length).all λj=>if j=0 then decide (x.1=y.1) else decide (x.2=y.2))=decide (x=y):=by
  show (decide (x.1=y.1)&&(decide (x.2=y.2)&&true))=decide (x=y)
  rw [Bool.and_true,← Bool.decide_and]
  exact decide_eq_decide.mpr (Prod.ext_iff (x:=x) (y:=y)).symm
 rw [e] at T
 exact T
def cT2(c:Cod α)(d:Cod β):Cod (α×β) where
 n:=max c.n d.n+1
 rp:=rT2 c d
 inj:=vk
 rc h1 h2:=(um h1 h2).1
 ne h1 h2:=(um h1 h2).2
 eq {K H x y u v} h1 h2:=by
  have r:=(um h1 h2).1
  have i:=λP w h hok kin=>vk (c:=c) (d:=d) (P:=P) (w:=w) (K:=K) (H:=H) (h:=h) (x:=x) (y:=y) (v:=v) hok kin
  obtain ⟨a,_,_,rfl,_⟩:=id h1
  obtain ⟨b,_,_,rfl,_⟩:=id h2
  refine oX r λP w h hok kin e=>?_
  subst e
  exact τ (i P w h hok kin h1 h2)
 keep e h:=let ⟨a,u,w,h1,h2,h3,h4⟩:=h;⟨a,u,w,h1,h2.keep e,c.keep e h3,d.keep e h4⟩
end
section
variable {α:Type} [DecidableEq α] {K:ò}{H:Hp}
theorem _root_.PySem.Paired.get{β γ:Type}{R:β->γ->Prop}:∀{xs:î β} {us:î γ},Paired R xs us->∀{j:Nat} {u:γ},us[j]?=some u->∃x,xs[j]?=some x/\R x u
 | _,_,.nil,j,u,e=>by simp at e
 | _,_,.cons r t,0,u,e=>by simp at e;subst e;exact ⟨_,rfl,r⟩
 | _,_,.cons r t,j+1,u,e=>PySem.Paired.get t (j:=j) (by simpa using e)
theorem _root_.PySem.Paired.get1{β γ:Type}{R:β->γ->Prop}:∀{xs:î β} {us:î γ},Paired R xs us->∀{j:Nat} {x:β},xs[j]?=some x->∃u,us[j]?=some u/\R x u
 | _,_,.nil,j,u,e=>by simp at e
 | _,_,.cons r t,0,u,e=>by simp at e;subst e;exact ⟨_,rfl,r⟩
 | _,_,.cons r t,j+1,u,e=>PySem.Paired.get1 t (j:=j) (by simpa using e)
theorem _root_.PySem.Paired.len{β γ:Type}{R:β->γ->Prop}:∀{xs:î β} {us:î γ},Paired R xs us->xs.length=us.length
 | _,_,.nil=>rfl
 | _,_,.cons r t=>by simp [PySem.Paired.len t]
theorem _root_.PySem.Paired.app{β γ:Type}{R:β->γ->Prop}:∀{xs ys:î β} {us vs:î γ},Paired R xs us->Paired R ys vs->Paired R (xs++ys) (us++vs)
 | _,_,_,_,.nil,s=>s
 | _,_,_,_,.cons r t,s=>.cons r (PySem.Paired.app t s)
def rm{xs ys:î α}{n:Nat}(h1:xs.length=n)(d:ys.length=n):((List.range n).all λj=>decide (xs[j]?=ys[j]?))=decide (xs=ys):=by
 rw [ļ,List.all_eq_true,decide_eq_true_eq]
 constructor
 .intro h
  apply List.ext_getElem?
  intro i
  by_cases hi:i<n
  .exact Ξ (h i (List.mem_range.mpr hi))
  .rw [List.getElem?_eq_none ω,List.getElem?_eq_none ω]
 .intro h i _
  exact h▸τ rfl
end
section
variable {X:Cx}{α:Type} [DecidableEq α]
def hun{c:Nat}{k:Nat}{A:ô}(d:NU k A)(h:c<=60:=by decide):A.units+c+1<cLine:=by
 have:=d.units
 lia
def rE(c:Cod α)(k:X.A.units+c.n+1<cLine):OpR X (compareOp .Eq) (λx y H Q=>∃a b,c.rp X.K H a x/\c.rp X.K H b y/\Q (.bl (decide (a=b))) H):=by
 intro d s σ H x y v u Q I g j h
 obtain ⟨a,b,e,f,q⟩:=h
 exact c.rc e f X.prog X.w X.A s v u ω I.hok I.kIn g j X.prog X.w X.xe _ ⟨.bl _,H,I,ϱ,q⟩
noncomputable def eqR(c:Cod α)(K:ò)(H:Hp)(a:α)(u:ó):Bool:=@decide (∃v,NP v u/\c.rp K H a v) (Classical.propDecidable _)
def zE{c:Cod α}{P:ù}{w:ö}{K:ò}{H:Hp}{h:ñ}{a z:α}{v:V}{u:ó}(d:NS P w H h)(f:K.In h)(r:NP v u)(q:c.rp K H z v):eqR c K H a u=decide (z=a):=by
 unfold eqR
 by_cases e:z=a
 .subst e
  exact τ (show z=z from rfl)▸@decide_eq_true _ (Classical.propDecidable _) ⟨v,r,q⟩
 .rw [Γ e]
  refine @decide_eq_false _ (Classical.propDecidable _) λ⟨k,g,j⟩=>e ?_
  have:=r.inj g
  subst this
  exact c.inj d f q j
theorem rZ{c:Cod α}{P:ù}{w:ö}{K:ò}{H:Hp}{h:ñ}{a:α}(hok:NS P w H h)(kin:K.In h):∀{xs:î α} {us:î V} {its:Ċ},Paired (c.rp K H) xs us->NQ us its->its.any (eqR c K H a)=decide (a∈xs)
 | _,_,_,.nil,.nil=>by simp
 | x::xs,_,_,.cons p t,.cons r s=>by
  rw [List.any_cons,zE hok kin r p,rZ hok kin t s,ļ]
  simp only [Bool.or_eq_true,decide_eq_true_eq,List.mem_cons]
  exact ⟨λz=>z.elim (λe=>.inl e.symm) .inr,λz=>z.elim (λe=>.inl e.symm) .inr⟩
theorem rH{c:Cod α}{P:ù}{w:ö}{A:ô}{s:ú}{K:ò}{H:Hp}{a:α}{x:V}{v:ó}(hok:NS P w H s.heap)(kin:K.In s.heap)(hA:A.units+c.n<cLine)(rx:NP x v)(qx:c.rp K H a x) :
  ∀{xs:î α} {us:î V} {its:Ċ},Paired (c.rp K H) xs us->NQ us its->∀u∈its,SeqAt.EqAt A s u v (eqR c K H a u)
 | _,_,_,.nil,.nil=>λu hu=>by cases hu
 | _,_,_,.cons p t,.cons r q=>λu' hu=>by
  rcases ϕ.mp hu with rfl | hu
  .exact zE hok kin r p▸c.eq p qx P w A s _ v hA hok kin r rx
  .exact rH hok kin hA rx qx t q u' hu
def DZ(c:Cod α)(K:ò):R2:=λx y H Q=>∃a p us xs,c.rp K H a x/\y=.ref p/\(NO K H p us\/NN K H p us)/\Paired (c.rp K H) xs us/\Q (.bl (!decide (a∈xs))) H
def wA(c:Cod α)(z:X.A.units+c.n+1<cLine):OpR X (compareOp .NotIn) (DZ c X.K):=by
 intro j s σ H x y v u Q I k o h
 obtain ⟨a,p,t,xs,g,rfl,hq,e,q⟩:=h
 cases o
 rcases hq with hq | hq
 .obtain ⟨d,r,pl,l⟩:=I.list hq
  refine SeqAt.notIn_listAt (eqR c X.K H a) pl.isList (λw f=>rH I.hok I.kIn (by show X.A.units+1+c.n<cLine;lia) k g e r w (by simpa using f)) ⟨.bl _,H,I,ϱ,?_⟩
  rw [show d.toArray.any (eqR c X.K H a)=d.any (eqR c X.K H a) by simp,rZ I.hok I.kIn e r]
  exact q
 .obtain ⟨d,r,pl,l⟩:=I.tuple hq
  refine SeqAt.notIn_tupleAt (eqR c X.K H a) pl (λw f=>rH I.hok I.kIn (by show X.A.units+1+c.n<cLine;lia) k g e r w (by simpa using f)) ⟨.bl _,H,I,ϱ,?_⟩
  rw [show d.toArray.any (eqR c X.K H a)=d.any (eqR c X.K H a) by simp,rZ I.hok I.kIn e r]
  exact q
end
section
variable {X:Cx}
def iQ(hc:X.calm=true):cV X (.builtin "any") (λxs H Q=>∃(p:ø) (bs:î Bool),xs=[.ref p]/\NO X.K H p (bs.map V.bl)/\Q (.bl (bs.any id)) H):=by
 intro C s σ H xs us Q I r h
 obtain ⟨p,bs,rfl,D,q⟩:=h
 obtain ⟨u,rfl,F⟩:=cJ r
 cases (show u=Value.ref p from F)
 obtain ⟨d,y,pl,Y⟩:=I.list D
 have t:=pl.isList
 have w:p<s.heap.objs.size:=by obtain ⟨_,e,_⟩:=t;exact η e
 have J:X.A.handled=none:=I.ok.hd hc
 have j:bs.length=d.length:=by have:=y.length;rw [ν] at this;exact this
 refine call_any_walk (wpAny_pyIter_list t ?_)
 refine ⟨s.heap.objs.size,[s.heap.objs.size,p],[s.heap.objs.size],d.toArray.size,_,_,λi=>(bs[i]?).getD false,ϱ,Walks.list (A:=X.A.in1) J _ p (Φ w) d.toArray,
  ⟨⟨_,ψ _ rfl,ϱ,ϱ⟩,t.push _⟩,λi v L O E' P U=>?_,λh' tk W=>?_⟩
 .have k:d[i]?=some v:=by simpa using P
  have g:i<d.length:=(ſ.mp k).1
  have f:(bs.map V.bl)[i]?=some (V.bl (bs[i]'(ω))):=by rw [Ż,ξ ω];rfl
  obtain ⟨Z,z,G⟩:=y.get f
  rw [k] at z
  cases z
  cases (show v=Value.bool _ from G)
  have l:O ((bs[i]?).getD false) L:=U
  rw [ξ ω] at l
  exact Œ l
 .have e:((List.range d.toArray.size).any λi=>(bs[i]?).getD false)=bs.any id:=by
   rw [Ű,← j,ļ,Ė,Ė]
   constructor
   .rintro ⟨i,g,f⟩
    have o:=List.mem_range.mp g
    rw [ξ o] at f
    exact ⟨bs[i],List.getElem_mem o,f⟩
   .rintro ⟨b,f,x⟩
    obtain ⟨i,g,e⟩:=List.getElem_of_mem f
    refine ⟨i,List.mem_range.mpr g,?_⟩
    rw [ξ g,e]
    exact x
  rw [e]
  exact ⟨.bl _,H,I.kept (LSm.kept_iter W),ϱ,q⟩
def Bl:KTD.Dat->ó->Bool
 | .flat d,v=>KTD.flatLooks d v
 | _,_=>false
theorem Bk{h:ñ}:∀(d:KTD.Dat) (v:ó),Bl d v=true->d.At h v
 | .flat d,v,e=>KTD.flat_of_looks (d:=d) e
 | .float _,_,e=>by cases e
 | .nums _,_,e=>by cases e
 | .words _,_,e=>by cases e
 | .tup _,_,e=>by cases e
 | .tab _,_,e=>by cases e
def TabK(K:ò)(a:ø)(D:î (Str×KTD.Dat)):Prop:=KTD.tabLook Bl (λb=>K.lookup b) a D=true
def TabK.at{K:ò}{a:ø}{D:î (Str×KTD.Dat)}{h:ñ}(t:TabK K a D)(kin:K.In h):KTD.TextTab h a D:=KTD.tab_of_look Bk (λa o e=>kin a o e) t
theorem vY{h₀:ñ}{k:Str}{Pr:ó->Prop}:∀{D:î (Str×KTD.Dat)} {d:KTD.Dat},KTD.datumAt k D=some d->KTD.Opened h₀ Pr d->KTD.EachL h₀ k Pr D
 | [],_,e,_=>by cases e
 | (x,d')::D,d,e,o=>by
  have e':(if decide (k=x)=true then some d' else KTD.datumAt k D)=some d:=e
  by_cases hx:k=x
  .rw [ů (τ hx)] at e'
   cases e'
   exact KTD.eachL_hit hx o
  .rw [if_neg (by simp [hx])] at e'
   exact KTD.eachL_miss hx (vY e' o)
end
structure GF(P:ù)(w:ö)(K:ò)(mg:ď)(base:ñ)(CX:CXT)(k:Nat)(x:Str)(ps:Ĉ)(sp:Sp) where
 f:ø
 fd:õ
 ok:NH P w K mg base CX k f fd ps sp
 bd:NT K fd ps []
 kp:PySem.W.keepIn K (.ref f)=true
 mgx:mg x=some (.ref f)
structure GM(P:ù)(w:ö)(K:ò)(mg:ď)(base:ñ)(CX:CXT)(k:Nat)(C:ø)(m:Str)(ps:Ĉ)(sp:Sp) where
 f:ø
 fd:õ
 ok:NH P w K mg base CX k f fd ps sp
 bd:NT K fd ps []
 me:gX K C m f
section
variable {X:Cx}{CX:CXT}{j k:Nat}{x m:Str}{ps:Ĉ}{sp:Sp}{E:XK}{p pos apos:Pos}{e o:ï}{es:Ą}{t:TA}{ta:TE}{C:ø}
def pc(G:GF X.prog X.w X.K X.mg X.base CX j x ps sp)(hr:NU k X.A)(ha:PA X (e::es) t)(hx:b8 CX X E:=by exact bE)(hk:j<=k:=by decide)(hg:Gl X x:=by rfl)
  (hdb:(x==("__debug__":Str))=false:=by decide)(he:starEach (e::es) X.env=(false,eval e X.env)::starEach es X.env:=by rfl)(hpl:(backTo pos (starEach es X.env)).any (·.1)=false:=by rfl) :
  PE X (.Call (.Name x p) (e::es) [] pos) (xx sp [] E t):=vx G.ok (hr.mono hk) hg G.mgx G.kp G.bd .nil hx ha hdb he hpl
def pm0{pl:Sem Bool}(G:GM X.prog X.w X.K X.mg X.base CX j C m ps sp)(ho:PE X o ta)(cl:Cls X.K C)(hr:NU k X.A)(hx:b8 CX X E:=by exact bE)(hk:j<=k:=by decide)
  (ht:eval (.Call (.Attribute o m apos) [] [] pos) X.env=(do
   let ov ← eval o X.env
   standAt apos.atName
   let (f,first) ← holding [ov] (getMethod ov m pl)
   callWith pos f first (backTo pos (starEach [] X.env)) (backToKw pos (keywordEach [] X.env))):=by rfl) :
  PE X (.Call (.Attribute o m apos) [] [] pos) (xw C m sp [] E ta jg):=jH ho cl G.me G.ok (hr.mono hk) G.bd .nil hx ht
end
section
variable {K:ò}{a:ø}{xs:î V}{tt:TT}{te:TE}{bl:St}{Fin:î V->Hp->Prop}{H:Hp}
def eg(d:Nat->î V->Hp->Prop)(h0:d 0 [] H)(j:xs.length<=sizeLine)(k:∀i ys H,i<=xs.length->d i ys H->NO K H a xs)
  (l:∀i x ys H,xs[i]?=some x->d i ys H->tt (some x::bl) H λc H2=>if c=true then te (some x::bl) H2 λy H3=>d (i+1) (ys++[y]) H3 else d (i+1) ys H2)
  (o:∀ys H,d xs.length ys H->Fin ys H) :
  ∃(W:Nat->î V->Hp->Prop) (n:Nat),W 0 [] H/\n<=sizeLine/\∀i ys H,W i ys H->((Itl K a).stop i H/\Fin ys H) \/
   ((Itl K a).go i H/\i<n/\∀x H',(Itl K a).yld i H x H'->tt (some x::bl) H' λc H2=>if c=true then te (some x::bl) H2 λy H3=>W (i+1) (ys++[y]) H3 else W (i+1) ys H2):=by
 refine ⟨λi ys H=>i<=xs.length/\d i ys H,xs.length,⟨ϖ _,h0⟩,j,?_⟩
 rintro i ys H ⟨h,p⟩
 have q:=k i ys H h p
 by_cases hlt:i<xs.length
 .refine .inr ⟨⟨xs,xs[i],q,by simp [hlt]⟩,hlt,λx H' y=>?_⟩
  obtain ⟨e,y⟩:=y
  subst e
  have z:=l i x ys _ (y xs q) p
  have f:(λ(c:Bool) (H2:Hp)=>if c=true then te (some x::bl) H2 λy H3=>i+1<=xs.length/\d (i+1) (ys++[y]) H3 else i+1<=xs.length/\d (i+1) ys H2)=λc H2=>if c=true then te (some x::bl) H2 λy H3=>d (i+1) (ys++[y]) H3 else d (i+1) ys H2:=by
   have g:(i+1<=xs.length)=True:=eq_true hlt
   funext c H2
   simp only [g,true_and]
  show tt _ _ _
  exact f▸z
 .have e:i=xs.length:=by lia
  subst e
  exact .inl ⟨⟨xs,q,ι _⟩,o ys H p⟩
def fW{σ:St}{A B:Hp->Prop}(h:A H):wn σ H (λc H2=>if c=true then A H2 else B H2):=by
 show if true=true then A H else B H
 exact @bx (A H) (B H) h
def Da(d:Nat->î V->Hp->Prop)(h0:d 0 [] H)(j:xs.length<=sizeLine)(k:∀i ys H,i<=xs.length->d i ys H->NN K H a xs)
  (l:∀i x ys H,xs[i]?=some x->d i ys H->tt (some x::bl) H λc H2=>if c=true then te (some x::bl) H2 λy H3=>d (i+1) (ys++[y]) H3 else d (i+1) ys H2)
  (o:∀ys H,d xs.length ys H->Fin ys H) :
  ∃(W:Nat->î V->Hp->Prop) (n:Nat),W 0 [] H/\n<=sizeLine/\∀i ys H,W i ys H->((Itt K a).stop i H/\Fin ys H) \/
   ((Itt K a).go i H/\i<n/\∀x H',(Itt K a).yld i H x H'->tt (some x::bl) H' λc H2=>if c=true then te (some x::bl) H2 λy H3=>W (i+1) (ys++[y]) H3 else W (i+1) ys H2):=by
 refine ⟨λi ys H=>i<=xs.length/\d i ys H,xs.length,⟨ϖ _,h0⟩,j,?_⟩
 rintro i ys H ⟨h,p⟩
 have q:=k i ys H h p
 by_cases hlt:i<xs.length
 .refine .inr ⟨⟨xs,xs[i],q,by simp [hlt]⟩,hlt,λx H' y=>?_⟩
  obtain ⟨e,y⟩:=y
  subst e
  have z:=l i x ys _ (y xs q) p
  have f:(λ(c:Bool) (H2:Hp)=>if c=true then te (some x::bl) H2 λy H3=>i+1<=xs.length/\d (i+1) (ys++[y]) H3 else i+1<=xs.length/\d (i+1) ys H2)=λc H2=>if c=true then te (some x::bl) H2 λy H3=>d (i+1) (ys++[y]) H3 else d (i+1) ys H2:=by
   have g:(i+1<=xs.length)=True:=eq_true hlt
   funext c H2
   simp only [g,true_and]
  show tt _ _ _
  exact f▸z
 .have e:i=xs.length:=by lia
  subst e
  exact .inl ⟨⟨xs,q,ι _⟩,o ys H p⟩
def pV{lo:Int}{n:Nat}(d:Nat->î V->Hp->Prop)(h0:d 0 [] H)(h:n<=sizeLine)
  (j:∀(i:Nat) ys H,i<n->d i ys H->tt (some (.int (lo+i))::bl) H λc H2=>if c=true then te (some (.int (lo+i))::bl) H2 λy H3=>d (i+1) (ys++[y]) H3 else d (i+1) ys H2)
  (k:∀ys H,d n ys H->Fin ys H) :
  ∃(W:Nat->î V->Hp->Prop) (m:Nat),W 0 [] H/\m<=sizeLine/\∀i ys H,W i ys H->((Itr lo n).stop i H/\Fin ys H) \/
   ((Itr lo n).go i H/\i<m/\∀x H',(Itr lo n).yld i H x H'->tt (some x::bl) H' λc H2=>if c=true then te (some x::bl) H2 λy H3=>W (i+1) (ys++[y]) H3 else W (i+1) ys H2):=by
 refine ⟨λi ys H=>i<=n/\d i ys H,n,⟨ϖ _,h0⟩,h,?_⟩
 rintro i ys H ⟨l,p⟩
 by_cases hlt:i<n
 .refine .inr ⟨hlt,hlt,λx H' y=>?_⟩
  obtain ⟨e,y⟩:=y
  subst e
  subst y
  have z:=j i ys _ hlt p
  have f:(λ(c:Bool) (H2:Hp)=>if c=true then te (some (.int (lo+i))::bl) H2 λy H3=>i+1<=n/\d (i+1) (ys++[y]) H3 else i+1<=n/\d (i+1) ys H2)=λc H2=>if c=true then te (some (.int (lo+i))::bl) H2 λy H3=>d (i+1) (ys++[y]) H3 else d (i+1) ys H2:=by
   have g:(i+1<=n)=True:=eq_true hlt
   funext c H2
   simp only [g,true_and]
  show tt _ _ _
  exact f▸z
 .have e:i=n:=by lia
  subst e
  exact .inl ⟨ι _,k ys H p⟩
def iK{n:Nat}(Pv:Nat->î V->Hp->Prop)(h0:Pv 0 [] H)(hn:n<=sizeLine)
  (hs:∀(i:Nat) ys H,i<n->Pv i ys H->tt (some (.int i)::bl) H λc H2=>if c=true then te (some (.int i)::bl) H2 λy H3=>Pv (i+1) (ys++[y]) H3 else Pv (i+1) ys H2)
  (hd:∀ys H,Pv n ys H->Fin ys H) :
  ∃(W:Nat->î V->Hp->Prop) (m:Nat),W 0 [] H/\m<=sizeLine/\∀i ys H,W i ys H->((Itr 0 n).stop i H/\Fin ys H) \/
   ((Itr 0 n).go i H/\i<m/\∀x H',(Itr 0 n).yld i H x H'->tt (some x::bl) H' λc H2=>if c=true then te (some x::bl) H2 λy H3=>W (i+1) (ys++[y]) H3 else W (i+1) ys H2) :=
 pV (lo:=0) Pv h0 hn (λi ys H hi p=>by rw [ĕ];exact hs i ys H hi p) hd
end
end L2
namespace Lo
open PySem L2
inductive Kd where
 | read | mean | change
 deriving DecidableEq
def kdS:Kd->Str
 | .read=>"read"
 | .mean=>"mean"
 | .change=>"change"
abbrev Lk:=Kd×Int×Int
abbrev Pa:=Int×Int
def cPa:Cod Pa:=cT2 cInt cInt
def Do{K:ò}{H:Hp}{a:ø}{k:Pa}(h:H a=some (.tup [.int k.1,.int k.2])):cPa.rp K H k (.ref a):=⟨a,_,_,ϱ,.inl h,ϱ,ϱ⟩
def aa{H:Hp}{p:ø}{o:HO}(h:H p=none):NI H (upd H p o):=λb u e=>by
 exact am (ap e h)▸e
def Kp(p:ø)(H H':Hp):Prop:=∀b o,b≠p->H b=some o->H' b=some o
def Kp.of{p:ø}{H H':Hp}(h:NI H H'):Kp p H H':=λb o _ e=>h b o e
def Kp.trans{p:ø}{H H1 H2:Hp}(a:Kp p H H1)(b:Kp p H1 H2):Kp p H H2:=λc o n e=>b c o n (a c o n e)
def oN{p:ø}{H:Hp}{o:HO}:Kp p H (upd H p o):=λb u n e=>by
 exact am n▸e
def fl:¬(("first":Str)="last"):=by decide +kernel
def lf(f l:Int):List (Str×V):=aK "last" (.int l) (aK "first" (.int f) [])
def ze(f l:Int):(lf f l).lookup ("first":Str)=some (.int f):=by
 unfold lf
 rw [aV,ŵ fl,aV,ů rfl]
def Bb(f l:Int):(lf f l).lookup ("last":Str)=some (.int l):=by
 unfold lf
 rw [aV,ů rfl]
def pU(f l:Int){m:Str}(h1:¬m="last")(d:¬m="first"):(lf f l).lookup m=none:=by
 unfold lf
 rw [aV,ŵ h1,aV,ŵ d]
 rfl
def LkO(C:Kd->ø)(H:Hp)(k:Lk)(v:V):Prop:=∃a dx,v=.ref a/\H a=some (.ins (C k.1) dx (lf k.2.1 k.2.2))
def sX{X:Cx}{x:Str}{i:Int}{pos:Pos}(d:∃t,X.mg x=some (.int i t))(f:Gl X x)(g:(x==("__debug__":Str))=false:=by decide):PE X (.Name x pos) (tC (.int i)):=by
 obtain ⟨t,e⟩:=d
 exact dZ f e ⟨t,ϱ⟩ g
structure TxB(mg:ď):Prop where
 isi:mg "isinstance"=none
 int:mg "int"=none
 bool:mg "bool"=none
 str:mg "str"=none
 len:mg "len"=none
 range:mg "range"=none
 tuple:mg "tuple"=none
 list:mg "list"=none
 any:mg "any"=none
 all:mg "all"=none
 max:mg "max"=none
 sorted:mg "sorted"=none
structure TxK(K:ò)(C:Kd->ø):Prop where
 cl:∀k,Cls K (C k)
 nF:∀k,Zo K (C k) "first"
 nL:∀k,Zo K (C k) "last"
def BU{K:ò}{a:ø}{d:Array DictEntry}{n:Nat}{D:î (Str×PyProof.Rows.KTD.Dat)}(h:K.lookup a=some ⟨.type "dict",none,.dict d n,#[]⟩)(z:(a==sysModules)=false)(r:PyProof.Rows.KTD.rowsLook Bl d.toList D=true):TabK K a D:=by
 unfold TabK PyProof.Rows.KTD.tabLook
 rw [z]
 show (true&&(match K.lookup a with | some o=>_ | none=>false))=true
 rw [h]
 simp [r]
def kdN:Kd->Str
 | .read=>"Read"
 | .mean=>"Mean"
 | .change=>"Change"
inductive kq (k:Kd) (vs:î V) (H:Hp) (Q:VK) (E:XK):Prop|mk v:vs=[v]->Q (.str (kdS k)) H->kq k vs H Q E
inductive gs (C:Kd->ø) (vs:î V) (H:Hp) (Q:VK) (E:XK):Prop|mk a dx k f l:vs=[.ref a,.int f,.int l]->H a=some (.ins (C k) dx [])->Q .non (upd (upd H a (.ins (C k) dx (aK "first" (.int f) []))) a (.ins (C k) dx (lf f l)))->gs C vs H Q E
inductive g9 (C:Kd->ø) (vs:î V) (H:Hp) (Q:VK) (E:XK):Prop|mk v k:vs=[v]->LkO C H k v->(∀a,H a=none->Q (.ref a) (upd H a (.tup [.str (kdS k.1),.int k.2.1,.int k.2.2])))->g9 C vs H Q E
def jQ{H:Hp}{x dx:ø}{o1 o2 o3 o4:HO}(nx:H x=none)(nd:H dx=none):NI H (upd (upd (upd (upd H dx o1) x o2) x o3) x o4):=λb o e=>by
 have n1:b≠x:=ap e nx
 have n2:b≠dx:=ap e nd
 rw [am n1,am n1,am n1,am n2]
 exact e
def cT(ns:ć)(k:Nat):Int:=(ns[k]?).getD 0
inductive nN (K:ò) (vs:î V) (H:Hp) (Q:VK) (E:XK):Prop|mk a ns k:vs=[.ref a,.int (k:Nat)]->NO K H a ((ns:ć).map V.int)->Q (.int (cT ns k)) H->nN K vs H Q E
section
variable {K:ò}
def uK:PySem.W.kitOne K (.type "int") (.type "int")=some true:=rfl
def uL:PySem.W.kitOne K (.type "int") (.type "bool")=some false:=by kernel_rfl
end
def yi{X:Cx}{st:î ð}{t:TS}(u:TS)(h:PSs X st t)(hw:∀D σ H,u D σ H->t D σ H):PSs X st u:=λpins s σ H D I q=>h pins s σ H D I (hw D σ H q)
def jT{n j:Nat}(h:j<n):ixN n (j:Int)=some j:=by
 unfold ixN
 rw [ů ω,ů ω,ğ]
end Lo
namespace L2
open PySem PySem.Spec PyProof.Rows
section
variable {κ:Type} [DecidableEq κ]
def jf(kvs:î (κ×V))(k:κ):Option V:=(kvs.find? λkv=>decide (kv.1=k)).map (·.2)
def xh{p:κ×V}{r:î (κ×V)}{k:κ}(e:p.1=k):jf (p::r) k=some p.2:=by simp [jf,List.find?_cons,e]
def xi{p:κ×V}{r:î (κ×V)}{k:κ}(e:¬p.1=k):jf (p::r) k=jf r k:=by simp [jf,List.find?_cons,e]
end
def Ez{P:ù}{w:ö}{k:Key}{u:ó}(r:NP (kV k) u):(ci P w).is k u=true:=by
 cases k with
 | inl i=>obtain ⟨t,e⟩:=(show ∃t,u=Value.int i t from r);subst e;exact sP P w i t
 | inr x=>obtain ⟨t,e⟩:=(show ∃t,u=Value.str x t from r);subst e;exact sO P w x t
theorem qj{P:ù}{w:ö}:∀{ks:List Key} {us:Ċ},NQ (ks.map kV) us->ItemsAre (ci P w) ks us
 | [],_,r=>by cases List.map_nil▸r;exact .nil
 | k::ks,_,r=>by
  rw [Ŗ] at r
  cases r with
  | cons h t=>exact .cons (Ez h) (qj t)
abbrev KT(H:Hp):List (List Key×V)->î (î Key×Addr×ó)->Prop:=Paired λp q=>p.1=q.1/\H q.2.1=some (.tup (p.1.map kV))/\NP p.2 q.2.2
def KT.val{H:Hp}{d:List (List Key×V)}{xs:î (î Key×Addr×ó)}(r:KT H d xs)(k:List Key):RelO (jf d k) ((atKey xs k).map (·.2)):=by
 induction r with
 | nil=>exact ϰ
 | @cons p q ps qs h t ih =>
  obtain ⟨h1,_,g⟩:=h
  by_cases e:p.1=k
  .have f:q.1=k:=h1.symm.trans e
   have b:atKey (q::qs) k=some q.2:=by simp [atKey,List.find?_cons,f]
   rw [xh e,b];exact g
  .have f:¬q.1=k:=λz=>e (h1.trans z)
   have b:atKey (q::qs) k=atKey qs k:=by simp [atKey,List.find?_cons,f]
   rw [xi e,b];exact ih
def KT.keeps{H H':Hp}{kvs:List (List Key×V)}{xs:î (î Key×Addr×ó)}(r:KT H kvs xs)(ht:∀b ys,H b=some (.tup ys)->H' b=some (.tup ys)):KT H' kvs xs :=
 NB r λ_ _ z=>⟨z.1,ht _ _ z.2.1,z.2.2⟩
section
variable {P:ù}{w:ö}{H:Hp}{h:ñ}{a:ø}
def BC{u:HO}(ok:NS P w H h)(e:Rd H a u):NR P w H h a u:=e.ok ok
def EL{kvs:List (Key×V)}(ok:NS P w H h)(e:Rd H a (.dK kvs)):kvs.length<=sizeLine/\(a==sysModules)=false/\∃vs,KV kvs vs/\h.DictOf (ci P w) a vs :=
 show NR P w H h a (.dK kvs) from BC ok e
def zm{f:List Key}(ok:NS P w H h)(e:H a=some (.tup (f.map kV))):(tupleKind (ci P w)).is h f a:=by
 obtain ⟨_,d,r,o,h1,g,n,j⟩:=(show NR P w H h a (.tup (f.map kV)) from ok a _ e)
 exact ⟨o,d.toArray,n,h1,g,j,by simpa using qj r⟩
def BJ{d:List (List Key×V)}(ok:NS P w H h)(e:Rd H a (.dT d)):d.length<=sizeLine/\(a==sysModules)=false /\
  ∃xs,KT H d xs/\h.DictOfH (tupleKind (ci P w)) a xs:=by
 obtain ⟨z,y,xs,r,o,f,g,h1,j,k,u,C⟩:=(show NR P w H h a (.dT d) from BC ok e)
 refine ⟨z,y,xs,r,o,f,g,h1,j,k,u,λx hx=>?_,C⟩
 have all:∀{l:List (List Key×V)} {m:î (î Key×Addr×ó)},KT H l m->∀x∈m,(tupleKind (ci P w)).is h x.1 x.2.1:=by
  intro l m q
  induction q with
  | nil=>intro x hx;exact nomatch hx
  | @cons p q ps qs hq t ih =>
   intro x hx
   rcases ϕ.mp hx with e | hx
   .subst e
    exact zm ok (hq.1▸hq.2.1)
   .exact ih x hx
 exact all r x hx
def EJ{kvs:List (List Key×V)}(ok:NS P w H h)(e:H a=some (.dT kvs)):kvs.length<=sizeLine/\(a==sysModules)=false /\
  ∃xs,KT H kvs xs/\h.DictOfH (tupleKind (ci P w)) a xs:=BJ ok (.inl e)
end
section
variable {X:Cx}{pins:đ}{σ:St}{H:Hp}{s:ú}{a:ø}{y v:V}{u r:ó}{o:Option V}{A:ô}{E:Đ}
def NM.big(I:NM X pins σ H s):sysModules<s.heap.objs.size:=by
 have h:mainGlobals<s.heap.objs.size:=(I.mod.glob.keeps I.bk).lt
 exact Nat.lt_trans ζ h
def Bm{h':ñ}{t':Nat}{ob:HO}(I:NM X pins σ H s)(mu:Mut (H a))(hs:Heap.SameBut a s.heap h')(he:∃q,h'.get? a=some q)(new:NR X.prog X.w (upd H a ob) h' a ob) :
  NM X pins σ (upd H a ob) {s with heap:=h',toks:=t'} :=
 I.write (x:=a) (e:=a) mu (.inl rfl) (λb q hb z=>(hs.2 b hb).trans z) he new
end
def zJ{P:ù}{w:ö}{H:Hp}(h:ñ)(hb:sysModules<h.objs.size):NR P w H (h.push {cls:=.type "dict",data:=.dict #[]}) h.objs.size (.dT []) :=
 ⟨ϖ _,Ň.mpr (Ne.symm (Φ hb)),[],.nil,_,#[],0,ψ _ rfl,⟨ϱ,ϱ,ϱ⟩,ϱ,ϱ,List.nodup_nil⟩
def B3:TE:=λ_ H Q=>∀p,H p=none->Q (.ref p) (upd H p (.dT []))
section
variable {X:Cx}{pos:Pos}
def yo:PE X (.Dict [] [] pos) B3:=λpins s σ H Q I h =>
 wpAny_Dict_empty ⟨.ref s.heap.objs.size,_,I.laid (a:=s.heap.objs.size) (o:=.dT []) (t':=s.toks) (λ_ _ q=>ρ _ q) (ι _) (zJ s.heap I.big),ϱ,h _ (I.hok.fresh (ι _))⟩
end
structure M1(X:Cx)(o:ï)(m:Str)(apos:Pos)(e:ï)(cpos:Pos):Prop where
 base:attributeBase o m X.env (eval o X.env)=eval o X.env
 few:((backTo cpos (starEach [e] X.env)).all (λx=>!x.1)&&(backToKw cpos (keywordEach [] X.env)).all (λx=>x.1.isSome)
  && decide (([e]:Ą).length+([]:î Keyword).length+(if ([]:î Keyword).isEmpty then 0 else 1)<30))=true
 line:(apos.endLine==cpos.line)=true
 trees:backTo cpos (starEach [e] X.env)=[(false,eval e X.env)]
structure M2(X:Cx)(o:ï)(m:Str)(apos:Pos)(e f:ï)(cpos:Pos):Prop where
 base:attributeBase o m X.env (eval o X.env)=eval o X.env
 few:((backTo cpos (starEach [e,f] X.env)).all (λx=>!x.1)&&(backToKw cpos (keywordEach [] X.env)).all (λx=>x.1.isSome)
  && decide (([e,f]:Ą).length+([]:î Keyword).length+(if ([]:î Keyword).isEmpty then 0 else 1)<30))=true
 line:(apos.endLine==cpos.line)=true
 trees:backTo cpos (starEach [e,f] X.env)=[(false,eval e X.env),(false,eval f X.env)]
def IsD(H:Hp)(a:ø):Prop:=(∃kvs,Rd H a (.dK kvs))\/∃kvs,Rd H a (.dT kvs)
def Dg{X:Cx}{g:đ}{σ:St}{H:Hp}{s:ú}{a:ø}(I:NM X g σ H s)(d:IsD H a) :
  s.TypeIs (.ref a) "dict"/\(∀b,Value.ref a=.ref b->∃ob,s.heap.get? b=some ob/\ob.dict=none)/\(a==sysModules)=false:=by
 rcases d with ⟨kvs,e⟩ | ⟨kvs,e⟩
 .obtain ⟨_,h,vs,_,f⟩:=EL I.hok e
  refine ⟨f.typeIs,λb q=>?_,h⟩
  cases q
  obtain ⟨ob,_,_,h1,j,_⟩:=f
  exact ⟨ob,h1,j.2.1⟩
 .obtain ⟨_,h,xs,_,f⟩:=BJ I.hok e
  refine ⟨f.typeIs,λb q=>?_,h⟩
  cases q
  obtain ⟨ob,_,_,h1,j,_⟩:=f
  exact ⟨ob,h1,j.2.1⟩
end L2
namespace Lo
open PySem L2
def pk(x:Pa):List Key:=[.inl x.1,.inl x.2]
end Lo
namespace L2
open PySem PySem.Spec PyProof.Rows
open Builtin Builtin.Str
theorem oO{y:Str}(d:1<=y.length):∀ys:Ĉ,ys.length<=(Str.join y ys).length+1
 | []=>ϖ _
 | [_]=>by simp
 | a::u::ys=>by
  have ih:=oO d (u::ys)
  rw [join_cons_cons]
  have e:(a++y++Str.join y (u::ys)).length=a.length+y.length+(Str.join y (u::ys)).length:=by
   show ((a.cps++y.cps)++(Str.join y (u::ys)).cps).size=_
   rw [Ť,Ť]
   rfl
  rw [e,Ŷ]
  lia
section
variable {X:Cx}
def wI:MtR X "str.split" (λx vs H Q=>∃(z y:Str),x=.str z/\vs=[.str y]/\1<=y.length/\z.length<=1000000/\∀p,H p=none->Q (.ref p) (upd H p (.lst ((Txt.split z y).map V.str)))):=by
 intro j s σ H x xs v P Q I K r h
 obtain ⟨z,y,rfl,rfl,C,L,q⟩:=h
 obtain ⟨t,rfl⟩:=K
 obtain ⟨u,rfl,⟨D,rfl⟩⟩:=cJ r
 have O:(1000002:Nat)<=sizeLine:=by decide
 have d:(Txt.split z y).length<=sizeLine:=by
  have:=oO C (Txt.split z y)
  rw [StrLaws.join_split] at this
  lia
 have f:∀(l:î (Str×Tok)) (k:Nat),l.map (·.1)=Txt.split z y->EP X j σ Q (.ref s.heap.objs.size) {s with toks:=k,heap:=s.heap.push {cls:=.type "list",data:=.seq (strValues l).toArray}}:=λl k J =>
  ⟨.ref s.heap.objs.size,_,I.laid (t':=k) (o:=.lst ((Txt.split z y).map V.str)) (λb o e=>ρ _ e) (ι _)
   (show NR X.prog X.w _ _ _ (.lst ((Txt.split z y).map V.str)) from ⟨by rw [ν];exact d,strValues l,0,J▸kj l,ψ _ rfl⟩),ϱ,q _ (I.hok.fresh (ι _))⟩
 have G:(y.length==0)=false:=by
  cases e:y.length with
  | zero=>lia
  | succ n=>rfl
 cases h1:(decide (z.length<y.length)||decide (strKind z<strKind y)) with
 | true =>
  have g:Txt.split z y=[z]:=by unfold Txt.split;rw [if_pos h1]
  exact ę İ (Ī _ _ _) ĳ (ĸ _ _) (meets_str_split_cannot_occur z y t D h1) (f [(z,t)] s.toks g.symm)
 | false =>
  cases hf:(occurrences z y 0 z.length (z.length+1)).isEmpty with
  | true =>
   have g:Txt.split z y=[z]:=by unfold Txt.split;rw [if_neg (by rw [h1];decide),if_pos hf]
   exact ę İ (Ī _ _ _) ĳ (ĸ _ _) (meets_str_split_not_found z y t D h1 G hf) (f [(z,t)] s.toks g.symm)
  | false =>
   have g:Txt.split z y=partsBetween z (occurrences z y 0 z.length (z.length+1)) y.length:=by unfold Txt.split;rw [if_neg (by rw [h1];decide),if_neg (by rw [hf];decide)]
   refine ę İ (Ī _ _ _) ĳ (ĸ _ _) (meets_str_split_sep z y t D h1 G hf ω (g▸d)) ?_
   rw [strsFrom_eq]
   exact f _ _ ((numbered_texts _ _).trans g.symm)
def vG:MtR X "str.partition" (λx vs H Q=>∃(z y:Str),x=.str z/\vs=[.str y]/\(y.length==0)=false/\z.length<=sizeLine /\
  ∀p,H p=none->Q (.ref p) (upd H p (.tup [.str (Txt.partition z y).1,.str (Txt.partition z y).2.1,.str (Txt.partition z y).2.2]))):=by
 intro f s σ H x xs v J Q I G r h
 obtain ⟨z,y,rfl,rfl,j,l,q⟩:=h
 obtain ⟨t,rfl⟩:=G
 obtain ⟨u,rfl,⟨C,rfl⟩⟩:=cJ r
 have d:∀(a b c:Str) (ta tb g:Tok) (k:Nat),(∀p,H p=none->Q (.ref p) (upd H p (.tup [.str a,.str b,.str c]))) ->
   EP X f σ Q (.ref s.heap.objs.size) {s with toks:=k,heap:=s.heap.push {cls:=.type "tuple",data:=.seq [Value.str a ta,Value.str b tb,Value.str c g].toArray}}:=λa b c ta tb g k D =>
  ⟨.ref s.heap.objs.size,_,I.laid (t':=k) (o:=.tup [.str a,.str b,.str c]) (λb o e=>ρ _ e) (ι _)
   (show NR X.prog X.w _ _ _ (.tup [.str a,.str b,.str c]) from ⟨by show 3<=sizeLine;decide,_,.cons ⟨ta,ϱ⟩ (.cons ⟨tb,ϱ⟩ (.cons ⟨g,ϱ⟩ .nil)),IsTup.new _ _⟩),ϱ,D _ (I.hok.fresh (ι _))⟩
 refine ę F.slot_str_partition (Ī _ _ _) F.entry_str_partition (F.args_str_partition_2 _ _) (meets_str_partition z y t C j l) ?_
 unfold Txt.partition at q
 cases e:occurrences z y 0 z.length 1 with
 | nil=>rw [e] at q;exact d _ _ _ _ _ _ _ q
 | cons i r=>rw [e] at q;exact d _ _ _ _ _ _ _ q
end
end L2
namespace Km
open PySem PySem.NumText PyProof.Rows
def sU(c:Nat):Bool:=decide (48<=c)&&decide (c<=57)
def uz(c:Nat):Bool:=decide (32<=c)&&decide (c<=126)&&decide (c≠37)
def bQ(m:Nat):Ć:=(Nat.toDigits 10 m).map Char.toNat
def cj(n:Int):Ć:=if n<0 then 45::bQ n.natAbs else bQ n.natAbs
def jZ(m:Nat):AllDigits (bQ m):=by
 intro c f
 obtain ⟨g,d,e⟩:=ϑ.mp f
 have r:=digit_range (Nat.isDigit_of_mem_toDigits ζ ζ d)
 exact e▸r
def rR(m:Nat):bQ m≠[]:=by
 intro e
 have h:=toDigits_len_ge 10 m
 rw [List.map_eq_nil_iff.mp e] at h
 exact absurd h ζ
def oY(m:Nat):digitsVal (bQ m)=m:=PySem.W.KIN.val_back m
def wU:bQ 0=[48]:=rfl
def wV(m:Nat)(h:m≠0):∀c r,bQ m=c::r->c≠48:=by
 induction m using Nat.strongRecOn with
 | _ m ih =>
  intro c r e
  by_cases hm:m<10
  .unfold bQ at e
   rw [Nat.toDigits_of_lt_base hm] at e
   have g:(Nat.digitChar m).toNat=c:=by simpa using (List.cons.inj e).1
   have f:∀d:Nat,d<10->d≠0->(Nat.digitChar d).toNat≠48:=by decide
   exact g▸f m hm h
  .have t:Nat.toDigits 10 (m/10)++Nat.toDigits 10 (m%10)=Nat.toDigits 10 (10*(m/10)+m%10):=Nat.toDigits_append_toDigits ζ ω (Nat.mod_lt m ζ)
   rw [Nat.div_add_mod] at t
   have j:bQ m=bQ (m/10)++bQ (m%10):=by unfold bQ;rw [← t,List.map_append]
   cases q:bQ (m/10) with
   | nil=>exact absurd q (rR _)
   | cons c' r' =>
    rw [j,q] at e
    have:c'=c:=(ē e).1
    exact this▸ih (m/10) ω ω c' r' q
def oZ{m k:Nat}(j:1<=k)(h:m<10 ^ k):(bQ m).length<=k:=by
 induction k generalizing m with
 | zero=>lia
 | succ k ih =>
  by_cases hm:m<10
  .unfold bQ
   rw [Nat.toDigits_of_lt_base hm]
   simp
  .have d:1<=k:=by
    cases k with
    | zero=>exfalso;simp at h;lia
    | succ k=>lia
   have t:Nat.toDigits 10 (m/10)++Nat.toDigits 10 (m%10)=Nat.toDigits 10 (10*(m/10)+m%10):=Nat.toDigits_append_toDigits ζ ω (Nat.mod_lt m ζ)
   rw [Nat.div_add_mod] at t
   have e:bQ m=bQ (m/10)++bQ (m%10):=by unfold bQ;rw [← t,List.map_append]
   have f:bQ (m%10)=[(Nat.digitChar (m%10)).toNat]:=by unfold bQ;rw [Nat.toDigits_of_lt_base (Nat.mod_lt m ζ)];rfl
   have g:m/10<10 ^ k:=by
    rw [Nat.pow_succ] at h
    exact Nat.div_lt_of_lt_mul (by rw [Nat.mul_comm];exact h)
   have:=ih d g
   rw [e,f,Ž]
   simpa using this
def qG(n:Int):(Str.ofString (toString n)).cps.toList=cj n:=by
 cases n with
 | ofNat m =>
  unfold cj
  exact ŵ (show ¬Int.ofNat m<0 from Int.not_lt.mpr (Int.natCast_nonneg m))▸PySem.W.KIN.signs_num m
 | negSucc m =>
  unfold cj
  rw [ů ω]
  have e:toString (Int.negSucc m)="-"++Nat.repr (m+1):=rfl
  rw [e,signs_ofString,String.toList_append,ż,Nat.toList_repr]
  rfl
end Km
namespace Km
open PySem PySem.NumText L2
open PyProof.Rows
def cS(c:Nat):î (Ć)->Ć
 | []=>[]
 | [x]=>x
 | x::y::r=>x++c::cS c (y::r)
theorem cG(c:Nat):∀ys:Ĉ,(Str.join ⟨#[c]⟩ ys).cps.toList=cS c (ys.map λy=>y.cps.toList)
 | []=>rfl
 | [y]=>rfl
 | y::u::ys=>by
  have ih:=cG c (u::ys)
  rw [join_cons_cons]
  show ((y.cps++#[c])++(Str.join ⟨#[c]⟩ (u::ys)).cps).toList=_
  rw [Ļ,Ļ,ih]
  simp [cS]
def qt{c:Nat}{a b d g:Ć}(j:c∉a)(f:c∉d)(e:a++c::b=d++c::g):a=d/\b=g:=by
 induction a generalizing d with
 | nil =>
  cases d with
  | nil=>exact ⟨rfl,(ē e).2⟩
  | cons x d=>exact absurd (ϕ.mpr (.inl (ē e).1)) f
 | cons x a ih =>
  cases d with
  | nil=>exact absurd (ϕ.mpr (.inl (ē e).1.symm)) j
  | cons y d =>
   obtain ⟨k,l⟩:=ē e
   obtain ⟨o,q⟩:=ih (λh=>j (Θ _ h)) (λh=>f (Θ _ h)) l
   exact ⟨by rw [k,o],q⟩
theorem p8{c:Nat}:∀{xs ys:î (Ć)},xs≠[]->ys≠[]->(∀x∈xs,c∉x)->(∀y∈ys,c∉y)->cS c xs=cS c ys->xs=ys
 | [],_,h,_,_,_,_=>absurd rfl h
 | _::_,[],_,h,_,_,_=>absurd rfl h
 | [x],[y],_,_,_,_,e=>by rw [show x=y from e]
 | [x],y::u::ys,_,_,hx,_,e=>by
  have e':x=y++c::cS c (u::ys):=e
  exact absurd (by rw [e'];simp) (hx x List.mem_cons_self)
 | x::u::xs,[y],_,_,_,hy,e=>by
  have e':x++c::cS c (u::xs)=y:=e
  exact absurd (by rw [← e'];simp) (hy y List.mem_cons_self)
 | x::u::xs,y::v::ys,_,_,hx,hy,e=>by
  have e':x++c::cS c (u::xs)=y++c::cS c (v::ys):=e
  obtain ⟨e1,e2⟩:=qt (hx x Ω) (hy y Ω) e'
  rw [e1,p8 (by simp) (by simp) (λz hz=>hx z (List.mem_cons_of_mem _ hz)) (λz hz=>hy z (List.mem_cons_of_mem _ hz)) e2]
def xG{z:Str}{c:Nat}{ps:î (Ć)}(l:z.cps.toList=cS c ps)(h0:ps≠[])(o:∀p∈ps,c∉p):Txt.split z ⟨#[c]⟩=ps.map λp=>(⟨p.toArray⟩:Str):=by
 have f:=cG c (Txt.split z ⟨#[c]⟩)
 rw [StrLaws.join_split,l] at f
 have g:(Txt.split z ⟨#[c]⟩).map (λy=>y.cps.toList)≠[]:=by
  intro e
  have:=split_pos z ⟨#[c]⟩
  rw [List.map_eq_nil_iff.mp e] at this
  exact absurd this ζ
 have h:=p8 h0 g o (λy k=>by
  obtain ⟨p,d,rfl⟩:=ϑ.mp k
  exact StrLaws.split_free z c p d) f
 rw [h,Ĕ]
 have j:((λp:Ć=>(⟨p.toArray⟩:Str))∘λy:Str=>y.cps.toList)=id:=by
  funext y
  obtain ⟨a⟩:=y
  simp
 rw [j,List.map_id]
end Km
namespace St
open PySem L2 Lo Km PySem.NumText
inductive Wd where
 | take | mean | sum | give | add | plus | need
 deriving DecidableEq
def wS:Wd->Str
 | .take=>"take" | .mean=>"mean" | .sum=>"sum" | .give=>"give" | .add=>"add" | .plus=>"plus" | .need=>"need"
def wN:Wd->Str
 | .take=>"TakeStep" | .mean=>"MeanStep" | .sum=>"SumStep" | .give=>"GiveStep" | .add=>"AddStep" | .plus=>"PlusStep" | .need=>"NeedStep"
def inN(i:Int):Prop:=0<=i/\i<10 ^ 40
def inV(i:Int):Prop:=i.natAbs<10 ^ 40
def inN.v{i:Int}(h:inN i):inV i:=by
 unfold inN at h
 unfold inV
 lia
def Ar:Wd->ć->Prop
 | .take,[h,c]=>inN h/\inN c
 | .mean,[h,c]=>inN h/\inN c
 | .give,[h,c]=>inN h/\inN c
 | .sum,[h,a,b]=>inN h/\inN a/\inN b/\a<=b
 | .add,[h,c,v]=>inN h/\inN c/\inV v
 | .plus,[v]=>inV v
 | .need,[v]=>inV v
 | _,_=>False
inductive ArI:Wd->ć->Prop
 | tk {a c:Int} (h:inN a/\inN c):ArI .take [a,c]
 | mn {a c:Int} (h:inN a/\inN c):ArI .mean [a,c]
 | gv {a c:Int} (h:inN a/\inN c):ArI .give [a,c]
 | sm {a b c:Int} (h:inN a/\inN b/\inN c/\b<=c):ArI .sum [a,b,c]
 | ad {a b c:Int} (h:inN a/\inN b/\inV c):ArI .add [a,b,c]
 | pl {a:Int} (h:inV a):ArI .plus [a]
 | nd {a:Int} (h:inV a):ArI .need [a]
def Ar.i{w:Wd}{ns:ć}(h:Ar w ns):ArI w ns:=by
 rcases ns with _ | ⟨a,_ | ⟨b,_ | ⟨c,_ | ⟨d,r⟩⟩⟩⟩<;>cases w<;>first | exact .tk h | exact .mn h | exact .gv h | exact .sm h | exact .ad h | exact .pl h | exact .nd h | exact False.elim h
def Ar.all{w:Wd}{ns:ć}(h:Ar w ns):∀i∈ns,inV i:=by
 rcases h.i with h | h | h | h | h | h | h
 .intro i d;simp only [List.mem_cons,List.mem_nil_iff,or_false] at d;rcases d with rfl | rfl<;>first | exact h.1.v | exact h.2.v
 .intro i d;simp only [List.mem_cons,List.mem_nil_iff,or_false] at d;rcases d with rfl | rfl<;>first | exact h.1.v | exact h.2.v
 .intro i d;simp only [List.mem_cons,List.mem_nil_iff,or_false] at d;rcases d with rfl | rfl<;>first | exact h.1.v | exact h.2.v
 .intro i d;simp only [List.mem_cons,List.mem_nil_iff,or_false] at d;rcases d with rfl | rfl | rfl<;>first | exact h.1.v | exact h.2.1.v | exact h.2.2.1.v
 .intro i d;simp only [List.mem_cons,List.mem_nil_iff,or_false] at d;rcases d with rfl | rfl | rfl<;>first | exact h.1.v | exact h.2.1.v | exact h.2.2
 .intro i d;simp only [List.mem_cons,List.mem_nil_iff,or_false] at d;rcases d with rfl;exact h
 .intro i d;simp only [List.mem_cons,List.mem_nil_iff,or_false] at d;rcases d with rfl;exact h
def iS(i:Int):Str:=Str.ofString (toString i)
def zp{i:Int}(h:inV i):(iS i).length<=41:=by
 have e:(iS i).length=(cj i).length:=by
  unfold iS
  rw [← qG]
  simp [Str.length]
 rw [e]
 unfold cj
 have:=oZ (k:=40) ζ h
 split
 .rw [Ŷ];lia
 .lia
def C7(i:Int):32∉cj i:=by
 have f:∀m,32∉bQ m:=λm d=>by
  have:=jZ m
  have h:=this 32 d
  lia
 unfold cj
 split
 .intro d
  rcases ϕ.mp d with e | e
  .cases e
  .exact f _ e
 .exact f _
def txt(w:Wd)(ns:ć):Str:=Str.join (" ":Str) (wS w::ns.map iS)
def Dz(w:Wd):32∉(wS w).cps.toList:=by cases w<;>decide +kernel
def BQ(w:Wd):(wS w).length<=4:=by cases w<;>decide +kernel
def jj:(" ":Str)=⟨#[32]⟩:=by decide +kernel
def wq(w:Wd)(ns:ć):Txt.split (txt w ns) ⟨#[32]⟩=wS w::ns.map iS:=by
 have e:=cG 32 (wS w::ns.map iS)
 have d:(txt w ns).cps.toList=cS 32 ((wS w::ns.map iS).map λy=>y.cps.toList):=by
  unfold txt
  rw [jj]
  exact e
 rw [xG d (by simp) (λp h=>?_)]
 .rw [Ĕ]
  have f:((λp:Ć=>(⟨p.toArray⟩:Str))∘λy:Str=>y.cps.toList)=id:=by
   funext y
   obtain ⟨a⟩:=y
   simp
  rw [f,List.map_id]
 .obtain ⟨y,hy,rfl⟩:=ϑ.mp h
  rcases ϕ.mp hy with e | hy
  .rw [e];exact Dz w
  .obtain ⟨i,_,rfl⟩:=ϑ.mp hy
   have g:(iS i).cps.toList=cj i:=qG i
   rw [g]
   exact C7 i
def Ar.len{w:Wd}{ns:ć}(h:Ar w ns):1<=ns.length/\ns.length<=3:=by
 rcases h.i with h | h | h | h | h | h | h<;>(constructor<;>simp)
def xF{ys:Ĉ}{k:Nat}(h:∀y∈ys,y.length<=k):(ys.map (·.length)).sum<=ys.length*k:=by
 induction ys with
 | nil=>simp
 | cons y ys ih =>
  have h1:=h y Ω
  have e:=ih λy d=>h y (Θ _ d)
  rw [Ŗ,List.sum_cons,Ŷ,Nat.succ_mul]
  lia
def xf{w:Wd}{ns:ć}(h:Ar w ns):∀y∈wS w::ns.map iS,y.length<=41:=λy hy=>by
 rcases ϕ.mp hy with e | hy
 .rw [e];exact Λ (BQ w) ζ
 .obtain ⟨i,hi,rfl⟩:=ϑ.mp hy
  exact zp (h.all i hi)
def ki{w:Wd}{ns:ć}(h:Ar w ns):((wS w::ns.map iS).map (·.length)).sum+(wS w::ns.map iS).length*(" ":Str).length<=1000:=by
 have h1:=xF (xf h)
 have f:=h.len
 have d:(" ":Str).length=1:=by decide +kernel
 rw [d]
 have e:(wS w::ns.map iS).length<=4:=by rw [Ŷ,ν];lia
 have g:(wS w::ns.map iS).length*41<=4*41:=Nat.mul_le_mul_right _ e
 lia
def kZ:Wd->ć->List (Str×V)
 | .take,[h,c]=>aK "cell" (.int c) (aK "where" (.int h) [])
 | .mean,[h,c]=>aK "cell" (.int c) (aK "where" (.int h) [])
 | .give,[h,c]=>aK "cell" (.int c) (aK "where" (.int h) [])
 | .sum,[h,a,b]=>aK "high" (.int b) (aK "low" (.int a) (aK "where" (.int h) []))
 | .add,[h,c,v]=>aK "amount" (.int v) (aK "cell" (.int c) (aK "where" (.int h) []))
 | .plus,[v]=>aK "amount" (.int v) []
 | .need,[v]=>aK "amount" (.int v) []
 | _,_=>[]
def StO(C:Wd->ø)(H:Hp)(w:Wd)(ns:ć)(v:V):Prop:=∃a dx,v=.ref a/\H a=some (.ins (C w) dx (kZ w ns))
def StO.keep{C:Wd->ø}{H H':Hp}{w:Wd}{ns:ć}{v:V}(e:NI H H')(h:StO C H w ns v):StO C H' w ns v:=by
 obtain ⟨a,d,rfl,q⟩:=h
 exact ⟨a,d,ϱ,e _ _ q⟩
def tSt(H:Hp)(w:Wd)(ns:ć)(v:V):Prop:=∃a,v=.ref a/\H a=some (.tup (.str (wS w)::ns.map V.int))
def tSt.keep{H H':Hp}{w:Wd}{ns:ć}{v:V}(e:NI H H')(h:tSt H w ns v):tSt H' w ns v:=by
 obtain ⟨a,rfl,q⟩:=h
 exact ⟨a,ϱ,e _ _ q⟩
def aI:Wd->ć->V
 | .plus,_=>.non
 | .need,_=>.non
 | _,h::_=>.int h
 | _,[]=>.non
def vJ:Wd->ć->Option Lk
 | .take,[_,c]=>some (.read,c,c)
 | .mean,[_,c]=>some (.mean,c,c)
 | .give,[_,c]=>some (.change,c,c)
 | .sum,[_,a,b]=>some (.read,a,b)
 | .add,[_,c,_]=>some (.change,c,c)
 | _,_=>none
def orl(K:ò)(H:Hp):Option Lk->V->Prop
 | none,v=>v=.non
 | some k,v=>∃a,v=.ref a/\H a=some (.tup [.str (kdS k.1),.int k.2.1,.int k.2.2])
end St
namespace L2
open PySem PySem.Spec PyProof.Rows
section
variable {X:Cx}{CX:CXT}{E:XK}{k:Nat}{C f:ø}{fd:õ}{ps:Ĉ}{sp:Sp}{m:Str}{o e:ï}{es:Ą}{t:TA}{ty:TE}{pos apos cpos p:Pos}{mc:ó}
structure BN(K:ò)(C:ø)(m:Str)(f:ø):Prop where
 ga:PySem.W.specialIn K (.ref C) "__getattribute__"=some (some (.builtin "type.__getattribute__"))
 rd:PySem.W.readsIn K C (.type "type")=true
 fc:PySem.W.findCls K (.ref C) (.type "type") m=some (.val (.ref f))
 hi:PySem.W.handedIn (.ref f)=true
 kp:PySem.W.keepIn K (.ref f)=true
def AH{pl:Sem Bool}(L:PE X o (tC (.ref C)))(c:BN X.K C m f)(F:NH X.prog X.w X.K X.mg X.base CX k f fd ps sp)(O:NU k X.A)(P:NT X.K fd ps [])(hx:b8 CX X E)(U:PA X (e::es) t)
  (j:starEach (e::es) X.env=(false,eval e X.env)::starEach es X.env:=by rfl)(l:(backTo pos (starEach es X.env)).any (·.1)=false:=by rfl)
  (Y:eval (.Call (.Attribute o m apos) (e::es) [] pos) X.env=(do
   let ov ← eval o X.env
   standAt apos.atName
   let (f,first) ← holding [ov] (getMethod ov m pl)
   callWith pos f first (backTo pos (starEach (e::es) X.env)) (backToKw pos (keywordEach [] X.env))):=by rfl) :
  PE X (.Call (.Attribute o m apos) (e::es) [] pos) (xx sp [] E t):=by
 intro d s σ H Q I h
 refine Ģ (pl:=pl) (Zg (L d s σ H (λx H1=>x=.ref C/\t σ H1 λvs y=>sp (vs++[]) y Q E) I ⟨ϱ,h⟩) λu z ⟨x,H1,g,J,ex,q⟩=>?_) Y
 subst ex
 obtain rfl:u=Value.ref C:=J
 refine PySem.W.method_cls g.kIn c.ga (PySem.W.cls_value g.kIn c.rd c.fc c.hi ?_)
 have G:NM X d σ H1 {z with toks:=z.toks+1}:=g.tok _
 refine Ń (first:=[]) (h₀:=X.base) I.ok.mod.kin c.kp (Zg (U pos d _ σ H1 _ G q) λus Z ⟨vs,y,D,r,q2⟩=>⟨D.kIn,?_⟩) j l
 exact rk (us:=us) (vs:=vs) F O P .nil hx D r q2
def AE{a:ø}{D:î (Str×KTD.Dat)}(O:PE X o (tC (.ref a)))(P:PE X e ty)(f:M1 X o "get" apos e cpos)(t:TabK X.K a D) :
  PE X (.Call (.Attribute o "get" apos) [e] [] cpos) (fun σ H Q=>ty σ H λy H1=>∃k z,y=.str k/\KTD.datumAt k D=some (.flat (.str z))/\Q (.str z) H1):=by
 intro d s σ H Q I h
 refine wpAny_Call_method f.base f.few f.line PySem.F.plainAttrs_dict PySem.F.slot_dict_get PySem.F.type_dict_get (Zg (O d s σ H (λx H1=>x=.ref a/\ty σ H1 λy H1=>∃k z,y=.str k/\KTD.datumAt k D=some (.flat (.str z))/\Q (.str z) H1) I ⟨ϱ,h⟩) λu g ⟨x,H1,l,w,ex,q1⟩=>?_)
 subst ex
 obtain rfl:u=Value.ref a:=w
 have j:KTD.Here g.heap g.heap a D:=⟨t.at l.kIn,λ_ _ e=>e⟩
 refine ⟨j.typeIs,j.noDict,?_⟩
 rw [f.trees]
 refine ĩ rfl (Ě (ō (Zg (P d g σ H1 _ l q1) λiv C ⟨y,G,q,J,k,z,L,r,q2⟩=>Calls.spliced_nil ?_)))
 subst L
 obtain ⟨U,rfl⟩:=J
 refine KTD.get1_textL (h₀:=C.heap) ⟨t.at q.kIn,λ_ _ e=>e⟩ ?_ (vY r (KTD.opened_str λW=>⟨.str z,G,q.tok _,⟨_,ϱ⟩,q2⟩))
 rw [← KTD.isSome_datumAt,r]
 rfl
def uB:MtR X "str.lstrip" (λx vs H Q=>∃z y,x=.str z/\vs=[.str y]/\z.length<=sizeLine/\Q (.str (Txt.lstripChars z y)) H):=by
 intro d s σ H x xs v l Q I f r h
 obtain ⟨z,y,rfl,rfl,e,q⟩:=h
 obtain ⟨t,rfl⟩:=f
 obtain ⟨u,rfl,⟨g,rfl⟩⟩:=cJ r
 exact SC.lstripChars (λj k=>⟨.str _,H,I.tok _,⟨_,ϱ⟩,q⟩) e
def Ct{f:TE}(h:PE X.nox e f):PEX X e (fun σ H Q _=>f σ H Q):=by
 intro d s σ H Q E I q
 exact nox (h d s σ H _ (I.wish _) q) λv j ⟨x,H1,g,r,q1⟩=>⟨x,H1,g.unwish,r,q1⟩
end
end L2
namespace St
open PySem L2 Lo Km PySem.NumText
structure TxW(K:ò)(CW:Wd->ø):Prop where
 cl:∀w,Cls K (CW w)
 nW:∀w,Zo K (CW w) "where"
 nC:∀w,Zo K (CW w) "cell"
 nL:∀w,Zo K (CW w) "low"
 nH:∀w,Zo K (CW w) "high"
 nA:∀w,Zo K (CW w) "amount"
def isC:Wd->Bool
 | .take=>true | .mean=>true | .give=>true | _=>false
def bg{f:Str}{v:V}{fs:List (Str×V)}:(aK f v fs).lookup f=some v:=by rw [aV,ů rfl]
def bp{f g:Str}{v:V}{fs:List (Str×V)}(h:¬g=f):(aK f v fs).lookup g=fs.lookup g:=by rw [aV,ŵ h]
section
variable (CW:Wd->ø)
inductive gp (w:Wd) (vs:î V) (H:Hp) (Q:VK) (E:XK):Prop|mk a dx ns:vs=.ref a::(ns:ć).map V.int->Ar w ns->H a=some (.ins (CW w) dx [])->(∀H',H' a=some (.ins (CW w) dx (kZ w ns))->Kp a H H'->Q .non H')->gp w vs H Q E
inductive mC (vs:î V) (H:Hp) (Q:VK) (E:XK):Prop|mk a dx w h c:vs=[.ref a,.int h,.int c]->H a=some (.ins (CW w) dx [])->(∀H',H' a=some (.ins (CW w) dx (aK "cell" (.int c) (aK "where" (.int h) [])))->Kp a H H'->Q .non H')->mC vs H Q E
inductive cK (w:Wd) (vs:î V) (H:Hp) (Q:VK) (E:XK):Prop|mk v ns:vs=[v]->Ar w ns->StO CW H w ns v->Q (aI w ns) H->cK w vs H Q E
inductive dX (K:ò) (w:Wd) (vs:î V) (H:Hp) (Q:VK) (E:XK):Prop|mk v ns:vs=[v]->Ar w ns->StO CW H w ns v->(∀u H',NI H H'->orl K H' (vJ w ns) u->Q u H')->dX K w vs H Q E
inductive ko (w:Wd) (vs:î V) (H:Hp) (Q:VK) (E:XK):Prop|mk v:vs=[v]->Q (.bl (decide (w=.give))) H->ko w vs H Q E
end
def Et{i:Int}(h:inV i):i.natAbs.log2<1920:=by
 by_cases h0:i.natAbs=0
 .rw [h0];decide
 .exact (Nat.log2_lt h0).mpr (Nat.lt_trans h θ)
def Ar.c{w:Wd}{ns:ć}(hw:isC w=true)(h:Ar w ns):∃a b,ns=[a,b]/\inN a/\inN b/\kZ w ns=aK "cell" (.int b) (aK "where" (.int a) []):=by
 cases w<;>first | cases hw | skip
 all_goals
  match ns,h with
  | [a,b],h=>exact ⟨a,b,rfl,h.1,h.2,rfl⟩
def Ar.s{ns:ć}(h:Ar .sum ns):∃a b c,ns=[a,b,c]/\inN a/\inN b/\inN c/\b<=c:=by
 match ns,h with
 | [a,b,c],h=>exact ⟨a,b,c,rfl,h⟩
def Ar.a{ns:ć}(h:Ar .add ns):∃a b c,ns=[a,b,c]/\inN a/\inN b/\inV c:=by
 match ns,h with
 | [a,b,c],h=>exact ⟨a,b,c,rfl,h⟩
def Ar.p{ns:ć}(h:Ar .plus ns):∃a,ns=[a]/\inV a:=by
 match ns,h with
 | [a],h=>exact ⟨a,rfl,h⟩
def Ar.n{ns:ć}(h:Ar .need ns):∃a,ns=[a]/\inV a:=by
 match ns,h with
 | [a],h=>exact ⟨a,rfl,h⟩
open PySem.Spec PyProof.Rows
section
variable {K:ò}{H:Hp}{a:ø}{bl:L2.St}{te:TE}{Fin:î V->Hp->Prop}
def zh{g:Int->V}{ns:ć}(j:H a=some (.tup (ns.map V.int)))(d:ns.length<=sizeLine)
  (k:∀i H1 (Q:VK),i∈ns->NI H H1->(∀H2,NI H1 H2->Q (g i) H2)->te (some (.int i)::bl) H1 Q)
  (l:∀H1,NI H H1->Fin (ns.map g) H1) :
  ∃(W:Nat->î V->Hp->Prop) (n:Nat),W 0 [] H/\n<=sizeLine/\∀i ys H,W i ys H->((Itt K a).stop i H/\Fin ys H) \/
   ((Itt K a).go i H/\i<n/\∀x H',(Itt K a).yld i H x H'->wn (some x::bl) H' λc H2=>if c=true then te (some x::bl) H2 λy H3=>W (i+1) (ys++[y]) H3 else W (i+1) ys H2):=by
 refine Da (tt:=wn) (xs:=ns.map V.int) (λi ys H1=>NI H H1/\ys=(ns.take i).map g) ⟨NC _,ϱ⟩ (by rw [ν];exact d) (λi ys H1 _ z=>NA (z.1 _ _ j)) ?_ ?_
 .rintro i x ys H1 f ⟨e,rfl⟩
  rw [Ż] at f
  obtain ⟨n,d,rfl⟩:=ř.mp f
  refine fW (k n H1 _ (ž d) e λH2 h=>⟨e.trans h,?_⟩)
  rw [Ų,d]
  simp
 .rintro ys H1 ⟨e,rfl⟩
  rw [ν,Ū]
  exact l H1 e
end
def at0{x:V}{xs:î V}:atI (x::xs) 0=some x:=ay (j:=0) rfl
def at1{x y:V}{xs:î V}:atI (x::y::xs) 1=some y:=ay (j:=1) rfl
def at2{x y z:V}{xs:î V}:atI (x::y::z::xs) 2=some z:=ay (j:=2) rfl
def BR{a b:Wd}(h:wS a=wS b):a=b:=by
 cases a<;>cases b<;>first | rfl | exact absurd h θ
def cD{a b:Wd}(c:decide (V.str (wS a)=V.str (wS b))=true):a=b:=BR (V.str.inj (Ξ c))
def br{a b:Wd}(c:¬decide (V.str (wS a)=V.str (wS b))=true):a≠b:=λe=>c (by rw [e];exact τ rfl)
def BO{a:Wd}(h1:a≠.take)(d:a≠.mean)(e:a≠.sum)(f:a≠.give)(g:a≠.add)(h:a≠.plus):a=.need:=by
 cases a<;>first | rfl | contradiction
def shp:Wd->Str
 | .take=>"HC" | .mean=>"HC" | .sum=>"HAB" | .give=>"HC" | .add=>"HCV" | .plus=>"V" | .need=>"V"
def mD:î (Str×PyProof.Rows.KTD.Dat):=[("take",.flat (.str "HC")),("mean",.flat (.str "HC")),("sum",.flat (.str "HAB")),("give",.flat (.str "HC")),("add",.flat (.str "HCV")),("plus",.flat (.str "V")),("need",.flat (.str "V"))]
def xS(w:Wd):PyProof.Rows.KTD.datumAt (wS w) mD=some (.flat (.str (shp w))):=by
 cases w<;>kernel_rfl
def Aw{w:Wd}{ns:ć}(h:Ar w ns):(shp w).length=ns.length:=by
 rcases h.i with h | h | h | h | h | h | h<;>kernel_rfl
def nS(w:Wd):(shp w).length<=sizeLine:=by cases w<;>decide +kernel
def eU{i:Int}{p:Prop}(h:inN i):i<0->p:=λz=>absurd z (by unfold inN at h;lia)
def Ce{w:Wd}{ns:ć}{k:Nat}{i:Int}(h:Ar w ns)(d:ns[k]?=some i):∃c,(shp w).cps.toList[k]?=some c/\(i<0->c=86):=by
 rcases h.i with h | h | h | h | h | h | h
 .rcases k with _ | _ | k
  .cases d;exact ⟨72,θ,eU h.1⟩
  .cases d;exact ⟨67,θ,eU h.2⟩
  .simp at d
 .rcases k with _ | _ | k
  .cases d;exact ⟨72,θ,eU h.1⟩
  .cases d;exact ⟨67,θ,eU h.2⟩
  .simp at d
 .rcases k with _ | _ | k
  .cases d;exact ⟨72,θ,eU h.1⟩
  .cases d;exact ⟨67,θ,eU h.2⟩
  .simp at d
 .rcases k with _ | _ | _ | k
  .cases d;exact ⟨72,θ,eU h.1⟩
  .cases d;exact ⟨65,θ,eU h.2.1⟩
  .cases d;exact ⟨66,θ,eU h.2.2.1⟩
  .simp at d
 .rcases k with _ | _ | _ | k
  .cases d;exact ⟨72,θ,eU h.1⟩
  .cases d;exact ⟨67,θ,eU h.2.1⟩
  .cases d;exact ⟨86,θ,λ_=>rfl⟩
  .simp at d
 .rcases k with _ | k
  .cases d;exact ⟨86,θ,λ_=>rfl⟩
  .simp at d
 .rcases k with _ | k
  .cases d;exact ⟨86,θ,λ_=>rfl⟩
  .simp at d
def sV(i:Int):(iS i).cps.toList=cj i:=qG i
def yV{i:Int}{c:Nat}(h:c∈cj i):c=45\/(48<=c/\c<=57):=by
 have d:∀m,c∈bQ m->48<=c/\c<=57:=λm f=>jZ m c f
 unfold cj at h
 split at h
 .rcases ϕ.mp h with e | e
  .exact .inl e
  .exact .inr (d _ e)
 .exact .inr (d _ h)
def uG{i:Int}(h:inV i):(Txt.lstripChars (iS i) ("-":Str)).length<=40:=by
 have e:("-":Str)=⟨#[45]⟩:=by decide +kernel
 have d:=oZ (k:=40) ζ h
 have g:(iS i).cps.size=(cj i).length:=by rw [← sV];simp
 rw [e]
 unfold Txt.lstripChars
 rw [stripBy_eq]
 generalize hL:stripLo ((⟨#[45]⟩:Str).cps.contains) true (iS i)=lo
 show ((iS i).cps.extract lo (iS i).length).size<=40
 rw [Array.size_extract]
 by_cases hi:i<0
 .have h1:1<=lo:=by
   rw [← hL]
   show 1<=((iS i).cps.toList.takeWhile (λc=>(⟨#[45]⟩:Str).cps.contains c)).length
   rw [sV]
   unfold cj
   rw [ů hi,List.takeWhile_cons,ů θ]
   simp
  have f:(cj i).length<=41:=by
   unfold cj
   rw [ů hi,Ŷ]
   lia
  lia
 .have f:(cj i).length<=40:=by
   unfold cj
   rw [ŵ hi]
   exact d
  lia
def Be{i:Int}(h:inV i):(iS i).length<=100000:=Λ (zp h) ζ
theorem kY(c:Nat):∀ls:î (Ć),(cS c ls).length<=(ls.map (·.length)).sum+ls.length
 | []=>ϖ _
 | [x]=>by simp [cS]
 | x::y::r=>by
  have h:=kY c (y::r)
  show (x++c::cS c (y::r)).length<=_
  rw [Ž,Ŷ,Ŗ,List.sum_cons,Ŷ (a:=x)]
  lia
def Ah{wd:Wd}{ns:ć}(h:Ar wd ns):(txt wd ns).length<=1000000:=by
 have d:(txt wd ns).cps.toList=cS 32 ((wS wd::ns.map iS).map λy=>y.cps.toList):=by
  unfold txt
  rw [jj]
  exact cG 32 _
 have e:(txt wd ns).length=(txt wd ns).cps.toList.length:=by simp [Str.length]
 have h1:=kY 32 ((wS wd::ns.map iS).map λy=>y.cps.toList)
 have f:=ki h
 have g:((wS wd::ns.map iS).map λy=>y.cps.toList).map (·.length)=(wS wd::ns.map iS).map (·.length):=by
  rw [Ĕ]
  refine List.map_congr_left λy _=>?_
  simp [Str.length]
 have j:(" ":Str).length=1:=by decide +kernel
 rw [g,ν] at h1
 rw [j,Nat.mul_one] at f
 rw [e,d]
 lia
def Bn(x:V)(xs:î V):bn (x::xs) (some 1) none=xs:=by
 unfold bn
 rw [HT.on,show (some (1:Int))=some ((1:Nat):Int) from rfl,HT.cP,Ŷ,ņ ω]
 simp
def uR(x:V)(xs:î V):¬(HT.sIx (x::xs).length 0 (some (1:Int))=0/\HT.sIx (x::xs).length (x::xs).length none=(x::xs).length):=by
 rintro ⟨h,_⟩
 rw [show (some (1:Int))=some ((1:Nat):Int) from rfl,HT.cP,Ŷ] at h
 lia
def Ar.home{w:Wd}{ns:ć}(h1:w≠.plus)(d:w≠.need)(h:Ar w ns):∃x r,ns=x::r/\aI w ns=.int x:=by
 rcases h.i with h | h | h | h | h | h | h<;>first | contradiction | exact ⟨_,_,rfl,rfl⟩
def Ar.homeless{w:Wd}{ns:ć}(h1:w=.plus\/w=.need):aI w ns=.non:=by
 rcases h1 with rfl | rfl<;>rfl
def BP(w:Wd):decide (V.str (wS w)=V.str (wS .give))=decide (w=.give):=by
 cases w<;>first | rfl | (refine (Γ λh=>?_).trans (Γ (by intro h;cases h)).symm;exact absurd (cD (τ h)) (by intro h;cases h))
def EY(i:Int)(h0:0<=i)(d:i<7):∃w,atI ([.str "take",.str "mean",.str "sum",.str "give",.str "add",.str "plus",.str "need"]:î V) i=some (.str (wS w)):=by
 have:i=0\/i=1\/i=2\/i=3\/i=4\/i=5\/i=6:=by lia
 rcases this with rfl | rfl | rfl | rfl | rfl | rfl | rfl
 .exact ⟨.take,ϱ⟩
 .exact ⟨.mean,ϱ⟩
 .exact ⟨.sum,ϱ⟩
 .exact ⟨.give,ϱ⟩
 .exact ⟨.add,ϱ⟩
 .exact ⟨.plus,ϱ⟩
 .exact ⟨.need,ϱ⟩
def jW{m:Str}(h1:¬m="where")(d:¬m="cell")(e:¬m="low")(f:¬m="high")(g:¬m="amount")(w:Wd)(ns:ć):(kZ w ns).lookup m=none:=by
 unfold kZ
 split<;>simp only [bp h1,bp d,bp e,bp f,bp g,List.lookup_nil]
def lN{H H':Hp}{x dx:ø}{o1 o2:HO}(nx:H x=none)(nd:H dx=none)(k:Kp x (upd (upd H dx o1) x o2) H'):NI H H':=λb o e=>by
 have hx:b≠x:=λz=>by rw [z,nx] at e;cases e
 have hd:b≠dx:=λz=>by rw [z,nd] at e;cases e
 exact k b o hx (by rw [am hx,am hd];exact e)
structure WI(P:ù)(w:ö)(K:ò)(mg:ď)(base:ñ)(CW:Wd->ø)(wd:Wd) where
 fI:ø
 dI:õ
 ps:Ĉ
 M:Mk K (CW wd) fI
 ok:NH P w K mg base Za 2 fI dI ps (gp CW wd)
 b:NT K dI ps []
 m:mg (wN wd)=some (.ref (CW wd))
section
variable (CW:Wd->ø)
inductive ud (vs:î V) (H:Hp) (Q:VK) (E:XK):Prop|mk wd q ns:vs=[.str (wS wd),.ref q]->H q=some (.lst ((ns:ć).map V.int))->Ar wd ns->(∀v H',NI H H'->StO CW H' wd ns v->Q v H')->ud vs H Q E
inductive ue (vs:î V) (H:Hp) (Q:VK) (E:XK):Prop|mk x y z:vs=[.int x,.int y,.int z]->Ar .sum [x,y,z]->(∀v H',NI H H'->StO CW H' .sum [x,y,z] v->Q v H')->ue vs H Q E
inductive qK (vs:î V) (H:Hp) (Q:VK) (E:XK):Prop|mk wd ns:vs=[.str (txt wd ns)]->Ar wd ns->(∀v H',NI H H'->StO CW H' wd ns v->Q v H')->qK vs H Q E
end
inductive ub (vs:î V) (H:Hp) (Q:VK) (E:XK):Prop|mk i c:vs=[.str (iS i),.str ⟨#[c]⟩]->inV i->((i<0->c=86))->(∀H',NI H H'->Q (.int i) H')->ub vs H Q E
inductive mz (vs:î V) (H:Hp) (Q:VK) (E:XK):Prop|mk c k:vs=[.int c,.int k]->(∀r,0<=r->r<2147483647->Q (.int r) H)->mz vs H Q E
end St
namespace Km
open PySem PySem.NumText L2 PyProof.Rows
open Builtin Builtin.Str
def gf(c d:Nat):î (Ć)->Ć
 | []=>[]
 | [x]=>x
 | x::y::r=>x++c::d::gf c d (y::r)
theorem iL(c d:Nat):∀ys:Ĉ,(Str.join ⟨#[c,d]⟩ ys).cps.toList=gf c d (ys.map λy=>y.cps.toList)
 | []=>rfl
 | [y]=>rfl
 | y::u::ys=>by
  have ih:=iL c d (u::ys)
  rw [join_cons_cons]
  show ((y.cps++#[c,d])++(Str.join ⟨#[c,d]⟩ (u::ys)).cps).toList=_
  rw [Ļ,Ļ,ih]
  simp [gf]
theorem pZ{c d:Nat}:∀{xs ys:î (Ć)},xs≠[]->ys≠[]->(∀x∈xs,c∉x)->(∀y∈ys,c∉y)->gf c d xs=gf c d ys->xs=ys
 | [],_,h,_,_,_,_=>absurd rfl h
 | _::_,[],_,h,_,_,_=>absurd rfl h
 | [x],[y],_,_,_,_,e=>by rw [show x=y from e]
 | [x],y::u::ys,_,_,hx,_,e=>by
  have e':x=y++c::d::gf c d (u::ys):=e
  exact absurd (by rw [e'];simp) (hx x List.mem_cons_self)
 | x::u::xs,[y],_,_,_,hy,e=>by
  have e':x++c::d::gf c d (u::xs)=y:=e
  exact absurd (by rw [← e'];simp) (hy y List.mem_cons_self)
 | x::u::xs,y::v::ys,_,_,hx,hy,e=>by
  have e':x++c::d::gf c d (u::xs)=y++c::d::gf c d (v::ys):=e
  obtain ⟨e1,e2⟩:=qt (hx x Ω) (hy y Ω) e'
  rw [e1,pZ (by simp) (by simp) (λz hz=>hx z (List.mem_cons_of_mem _ hz)) (λz hz=>hy z (List.mem_cons_of_mem _ hz)) (List.cons.inj e2).2]
def Dv(c d:Nat)(l:Ć):Prop:=∀k,l[k]?=some c->l[k+1]?=some d
theorem qm{c d:Nat}(hcd:c≠d):∀{ps:î (Ć)},(∀p∈ps,c∉p)->Dv c d (gf c d ps)
 | [],_,k,h=>by cases h
 | [x],hp,k,h=>absurd (ž h) (hp x Ω)
 | x::y::r,hp,k,h=>by
  have ih:=qm hcd (ps:=y::r) λp hp'=>hp p (Θ _ hp')
  have h':(x++c::d::gf c d (y::r))[k]?=some c:=h
  show (x++c::d::gf c d (y::r))[k+1]?=some d
  by_cases h1:k<x.length
  .rw [Ŕ h1] at h'
   exact absurd (ž h') (hp x Ω)
  .rw [ū ω] at h' ⊢
   obtain ⟨m,hm⟩:∃m,k=x.length+m:=⟨k-x.length,ω⟩
   subst hm
   rw [Nat.add_sub_cancel_left] at h'
   rw [show x.length+m+1-x.length=m+1 from by lia]
   match m,h' with
   | 0,_=>rfl
   | 1,h'=>exact absurd (Δ h').symm hcd
   | m+2,h'=>exact ih m h'
def wo(x:Str)(c d i:Nat):(i+(⟨#[c,d]⟩:Str).length<=x.length/\subAt x ⟨#[c,d]⟩ i=true)↔(x.cps.toList[i]?=some c/\x.cps.toList[i+1]?=some d):=by
 rw [StrLaws.subAt_eq]
 have j:x.length=x.cps.toList.length:=by simp [Str.length]
 have k:(⟨#[c,d]⟩:Str).length=2:=rfl
 rw [k,j]
 generalize x.cps.toList=l
 show (i+2<=l.length/\(((l.drop i).take 2)==[c,d])=true)↔_
 rw [Ĭ]
 constructor
 .rintro ⟨h1,f⟩
  have g:((l.drop i).take 2)[0]?=l[i]?:=by rw [Ĳ ω,Ĩ,Nat.add_zero]
  have h:((l.drop i).take 2)[1]?=l[i+1]?:=by rw [Ĳ ω,Ĩ]
  rw [f] at g h
  exact ⟨g.symm,h.symm⟩
 .rintro ⟨h1,f⟩
  have q:=(ſ.mp f).1
  refine ⟨ω,?_⟩
  have e:=œ (l:=l) (i:=i) ω
  have o:=œ (l:=l) (i:=i+1) ω
  rw [e,o,(ſ.mp h1).2,(ſ.mp f).2]
  rfl
section
variable {x:Str}{c d:Nat}(hF:Dv c d x.cps.toList)
include hF
def ES{k:Nat}(h:x.cps.toList[k]?=some c):StrLaws.At x ⟨#[c,d]⟩ x.length k:=(wo x c d k).mpr ⟨h,hF k h⟩
def jo(a b:Nat)(l:b<=x.length)(h:∀k,a<=k->k<b->¬StrLaws.At x ⟨#[c,d]⟩ x.length k):c∉(strSub x a b).cps.toList:=by
 intro g
 rw [StrLaws.strSub_toList] at g
 obtain ⟨j,e⟩:=ť g
 have f:j<b-a:=by
  have h1:j<((x.cps.toList.drop a).take (b-a)).length:=(ſ.mp e).1
  rw [ŷ] at h1
  lia
 rw [Ĳ f,Ĩ] at e
 exact h (a+j) ω ω (ES hF e)
theorem lJ:∀(cuts:Ć) (a f:Nat),StrLaws.ChainG x ⟨#[c,d]⟩ x.length a cuts f->(∀k,f<=k->¬StrLaws.At x ⟨#[c,d]⟩ x.length k)->∀p∈StrLaws.partsFrom x (⟨#[c,d]⟩:Str).length a cuts,c∉p.cps.toList
 | [],a,f,h,hn,p,hp=>by
  have e:f=a:=h
  subst e
  rw [ϵ.mp hp]
  exact jo hF f x.length (ι _) λk h1 _=>hn k h1
 | i::r,a,f,h,hn,p,hp=>by
  rcases ϕ.mp hp with rfl | hp'
  .exact jo hF a i (by have:=h.2.1.1;lia) h.2.2.1
  .exact lJ r _ f h.2.2.2 hn p hp'
def sh(u:Builtin.Str.strKind x<Builtin.Str.strKind ⟨#[c,d]⟩->False):∀p∈Txt.split x ⟨#[c,d]⟩,c∉p.cps.toList:=by
 obtain ⟨f,e,l⟩:=StrLaws.occ_tight x ⟨#[c,d]⟩ (by show 1<=2;decide)
 unfold Txt.split
 split
 .rename_i hc
  intro p g
  rw [ϵ.mp g]
  intro t
  obtain ⟨j,o⟩:=ť t
  have q:=ES hF o
  rw [Bool.or_eq_true,decide_eq_true_eq,decide_eq_true_eq] at hc
  rcases hc with h | h
  .have:=q.1;lia
  .exact u h
 .split
  .rename_i he
   intro p g
   rw [ϵ.mp g]
   have e0:occurrences x ⟨#[c,d]⟩ 0 x.length (x.length+1)=[]:=List.isEmpty_iff.mp he
   rw [e0] at e
   have r:f=0:=e
   subst r
   rw [← StrLaws.sub_whole x]
   exact jo hF 0 x.length (ι _) λk h1 _=>l k h1
  .rw [StrLaws.partsBetween_eq]
   exact lJ hF _ 0 f e l
end
def uM{c d:Nat}(hc:c<256)(e:d<256)(x:Str):¬Builtin.Str.strKind x<Builtin.Str.strKind ⟨#[c,d]⟩:=by
 have k1:(#[c,d]:Array Nat).all (·<256)=true:=by simp [hc,e]
 unfold Builtin.Str.strKind
 rw [ů k1]
 split
 .lia
 .split<;>lia
def wr{z:Str}{c d:Nat}{ps:î (Ć)}(g:c≠d)(hc:c<256)(u:d<256)(j:z.cps.toList=gf c d ps)(h0:ps≠[])(k:∀p∈ps,c∉p):Txt.split z ⟨#[c,d]⟩=ps.map λp=>(⟨p.toArray⟩:Str):=by
 have h:=iL c d (Txt.split z ⟨#[c,d]⟩)
 rw [StrLaws.join_split,j] at h
 have l:(Txt.split z ⟨#[c,d]⟩).map (λy=>y.cps.toList)≠[]:=by
  intro e
  have:=split_pos z ⟨#[c,d]⟩
  rw [List.map_eq_nil_iff.mp e] at this
  exact absurd this ζ
 have o:Dv c d z.cps.toList:=by rw [j];exact qm g k
 have q:=pZ h0 l k (λy t=>by
  obtain ⟨p,f,rfl⟩:=ϑ.mp t
  exact sh o (uM hc u z) p f) h
 rw [q,Ĕ]
 have r:((λp:Ć=>(⟨p.toArray⟩:Str))∘λy:Str=>y.cps.toList)=_root_.id:=by
  funext y
  obtain ⟨a⟩:=y
  simp
 rw [r,List.map_id]
def AI{z x y:Str}{c:Nat}(d:z.cps.toList=x.cps.toList++c::y.cps.toList)(hx:c∉x.cps.toList):Txt.partition z ⟨#[c]⟩=(x,⟨#[c]⟩,y):=by
 have f:x.length=x.cps.toList.length:=by simp [Str.length]
 have C:z.length=x.length+1+y.length:=by
  have g:z.length=z.cps.toList.length:=by simp [Str.length]
  have j:y.length=y.cps.toList.length:=by simp [Str.length]
  rw [g,d,j,f,Ž,Ŷ]
  lia
 have D:z.cps.toList[x.length]?=some c:=by rw [d,f,ū (ι _),ĺ];rfl
 have t:=(StrLaws.subAt_one z c x.length).mpr D
 have F:∀k,k<x.length->¬StrLaws.At z ⟨#[c]⟩ z.length k:=λk o l=>by
  have e:=(StrLaws.subAt_one z c k).mp l
  rw [d,Ŕ ω] at e
  exact hx (ž e)
 obtain ⟨i,r,e,w,o⟩:∃i r,occurrences z ⟨#[c]⟩ 0 z.length 1=i::r/\StrLaws.At z ⟨#[c]⟩ z.length i/\∀k,k<i->¬StrLaws.At z ⟨#[c]⟩ z.length k :=
  (StrLaws.occ_head z ⟨#[c]⟩ 1 (ι _)).resolve_left λh=>h.2 _ t
 have G:i=x.length:=by
  rcases Nat.lt_trichotomy i x.length with h | h | h
  .exact absurd w (F _ h)
  .exact h
  .exact absurd t (o _ h)
 subst G
 unfold Txt.partition
 rw [e]
 have u:z.cps=(x.cps.toList++c::y.cps.toList).toArray:=by
  apply į.mp
  rw [d]
 have g:strSub z 0 x.length=x:=by
  unfold strSub
  rw [u,f]
  obtain ⟨xs⟩:=x
  congr 1
  apply į.mp
  simp
 have j:strSub z (x.length+(⟨#[c]⟩:Str).length) z.length=y:=by
  unfold strSub
  rw [u,C]
  have H:(⟨#[c]⟩:Str).length=1:=rfl
  rw [H]
  obtain ⟨xs⟩:=x
  obtain ⟨q⟩:=y
  congr 1
  apply į.mp
  simp [Str.length]
  have I:xs.toList++c::q.toList=(xs.toList++[c])++q.toList:=by simp
  rw [I,List.drop_left' (by simp)]
  exact List.take_of_length_le (by simp)
 show (strSub z 0 x.length,(⟨#[c]⟩:Str),strSub z (x.length+(⟨#[c]⟩:Str).length) z.length)=_
 rw [g,j]
end Km
namespace Tb
open PySem PySem.SetTable
end Tb
namespace L2
open PySem PySem.Spec PyProof.Rows PySem.W Tb
end L2
namespace St
open PySem PySem.Spec PyProof.Rows L2 Lo Km PySem.NumText
def tEx{ι:Type}(t:ι->TE):TE:=fun σ H Q=>∃i,t i σ H Q
def lI{X:Cx}{e:ï}{ι:Type}{t:ι->TE}(h:∀i,PE X e (t i)):PE X e (tEx t):=λpins s σ H Q I q=>by
 obtain ⟨i,q⟩:=q
 exact h i pins s σ H Q I q
abbrev Zc:=Wd×ć
def StsP(CW:Wd->ø)(H:Hp)(xs:î Zc)(us:î V):Prop:=Paired (λ(x:Zc) v=>StO CW H x.1 x.2 v) xs us
def StsP.keep{CW:Wd->ø}{H H':Hp}{xs:î Zc}{us:î V}(e:NI H H')(h:StsP CW H xs us):StsP CW H' xs us:=NB h λ_ _ z=>z.keep e
def ArS(xs:î Zc):Prop:=∀x∈xs,Ar x.1 x.2
def sx(x:Zc):Str:=txt x.1 x.2
def pf(m:Str)(sl tp:ø):List (Str×V):=aK "parts" (.ref tp) (aK "steps" (.ref sl) (aK "manner" (.str m) []))
def kR(m:Str)(sl tp:ø):(pf m sl tp).lookup ("parts":Str)=some (.ref tp):=bg
def Cs(m:Str)(d tp:ø):(pf m d tp).lookup ("manner":Str)=some (.str m):=by
 unfold pf
 rw [bp θ,bp θ,bg]
structure PaU(CP:ø)(CW:Wd->ø)(H:Hp)(m:Str)(xs:î Zc)(a dx sl tp:ø)(us:î V):Prop where
 ins:H a=some (.ins CP dx (pf m sl tp))
 sl:H sl=some (.lst us)
 tp:H tp=some (.tup us)
 st:StsP CW H xs us
def PaU.keep{CP:ø}{CW:Wd->ø}{H H':Hp}{m:Str}{xs:î Zc}{a dx sl tp:ø}{us:î V}(e:NI H H')(h:PaU CP CW H m xs a dx sl tp us):PaU CP CW H' m xs a dx sl tp us:=⟨e _ _ h.ins,e _ _ h.sl,e _ _ h.tp,h.st.keep e⟩
def PaO(CP:ø)(CW:Wd->ø)(H:Hp)(m:Str)(xs:î Zc)(v:V):Prop:=∃a dx sl tp us,v=.ref a/\PaU CP CW H m xs a dx sl tp us
def PaO.keep{d:ø}{f:Wd->ø}{H H':Hp}{m:Str}{xs:î Zc}{v:V}(e:NI H H')(h:PaO d f H m xs v):PaO d f H' m xs v:=by
 obtain ⟨a,g,j,tp,k,rfl,h⟩:=h
 exact ⟨a,g,j,tp,k,ϱ,h.keep e⟩
structure TxP(K:ò)(CP:ø):Prop where
 cl:Cls K CP
 nm:Zo K CP "manner"
 ns:Zo K CP "steps"
 np:Zo K CP "parts"
def Zf(m:Str)(xs:î Zc):Str:=m++(" ":Str)++Str.join ("; ":Str) (xs.map sx)
def wf{x:Zc}(h:Ar x.1 x.2):(sx x).length<=1000:=by
 obtain ⟨wd,ns⟩:=x
 have d:(txt wd ns).cps.toList=cS 32 ((wS wd::ns.map iS).map λy=>y.cps.toList):=by
  unfold txt
  exact jj▸cG 32 _
 have e:(txt wd ns).length=(txt wd ns).cps.toList.length:=by simp [Str.length]
 have h1:=kY 32 ((wS wd::ns.map iS).map λy=>y.cps.toList)
 have f:=ki (w:=wd) (ns:=ns) h
 have g:((wS wd::ns.map iS).map λy=>y.cps.toList).map (·.length)=(wS wd::ns.map iS).map (·.length):=by
  rw [Ĕ]
  refine List.map_congr_left λy _=>?_
  simp [Str.length]
 have j:(" ":Str).length=1:=by decide +kernel
 rw [g,ν] at h1
 rw [j,Nat.mul_one] at f
 show (txt wd ns).length<=1000
 rw [e,d]
 lia
theorem sT(y:Str):∀ys:Ĉ,(Str.join y ys).length<=(ys.map (·.length)).sum+ys.length*y.length
 | []=>ϖ _
 | [x]=>by simp [Str.join]
 | a::u::ys=>by
  have ih:=sT y (u::ys)
  rw [join_cons_cons]
  have e:(a++y++Str.join y (u::ys)).length=a.length+y.length+(Str.join y (u::ys)).length:=by
   show ((a.cps++y.cps)++(Str.join y (u::ys)).cps).size=_
   rw [Ť,Ť]
   rfl
  rw [e,Ŗ,List.sum_cons,Ŷ (a:=a),Nat.succ_mul]
  lia
def E6:("; ":Str)=⟨#[59,32]⟩:=by decide +kernel
def xD{xs:î Zc}(h:ArS xs):((xs.map sx).map (·.length)).sum<=xs.length*1000:=by
 have:=xF (ys:=xs.map sx) (k:=1000) λy e=>by
  obtain ⟨x,d,rfl⟩:=ϑ.mp e
  exact wf (h x d)
 rw [ν] at this
 exact this
def jr{xs:î Zc}(h:ArS xs)(f:xs.length<=20):(Str.join ("; ":Str) (xs.map sx)).length<=30000:=by
 have h1:=sT ("; ":Str) (xs.map sx)
 have d:=xD h
 have e:("; ":Str).length=2:=by decide +kernel
 rw [e,ν] at h1
 lia
def DS(x:Zc):59∉(sx x).cps.toList:=by
 obtain ⟨wd,e⟩:=x
 have k:(txt wd e).cps.toList=cS 32 ((wS wd::e.map iS).map λy=>y.cps.toList):=by
  unfold txt
  exact jj▸cG 32 _
 show 59∉(txt wd e).cps.toList
 rw [k]
 have f:∀d:î (Ć),(∀l∈d,59∉l)->59∉cS 32 d:=by
  intro d
  induction d with
  | nil=>intro _ h;cases h
  | cons a r ih =>
   intro h j
   cases r with
   | nil=>exact h a Ω j
   | cons b r =>
    rcases ź.mp (show 59∈a++32::cS 32 (b::r) from j) with z | z
    .exact h a Ω z
    .rcases ϕ.mp z with z | z
     .cases z
     .exact ih (λl g=>h l (Θ _ g)) z
 refine f _ λl g=>?_
 obtain ⟨y,hy,rfl⟩:=ϑ.mp g
 rcases ϕ.mp hy with rfl | hy
 .cases wd<;>decide +kernel
 .obtain ⟨i,_,rfl⟩:=ϑ.mp hy
  rw [sV]
  intro z
  rcases yV z with z | z<;>lia
def wt{xs:î Zc}(h0:xs≠[]):Txt.split (Str.join ("; ":Str) (xs.map sx)) ("; ":Str)=xs.map sx:=by
 rw [E6]
 rw [wr (c:=59) (d:=32) (ps:=(xs.map sx).map λy=>y.cps.toList) ζ ζ ζ (iL 59 32 _) (by simp [h0]) λp g=>by
  obtain ⟨y,e,rfl⟩:=ϑ.mp g
  obtain ⟨x,_,rfl⟩:=ϑ.mp e
  exact DS x]
 rw [Ĕ]
 have f:((λp:Ć=>(⟨p.toArray⟩:Str))∘λy:Str=>y.cps.toList)=id:=by
  funext y
  obtain ⟨a⟩:=y
  simp
 rw [f,List.map_id]
def mS(b:Bool):Str:=if b then "walked" else "held"
def Es(b:Bool):32∉(mS b).cps.toList:=by cases b<;>decide +kernel
def zb(b:Bool):(mS b).length<=6:=by cases b<;>decide +kernel
def sG(b:Bool)(xs:î Zc):Txt.partition (Zf (mS b) xs) (" ":Str)=(mS b,(" ":Str),Str.join ("; ":Str) (xs.map sx)):=by
 rw [jj]
 have e:(Zf (mS b) xs).cps.toList=(mS b).cps.toList++32::(Str.join ("; ":Str) (xs.map sx)).cps.toList:=by
  unfold Zf
  rw [jj]
  show (((mS b).cps++#[32])++(Str.join ("; ":Str) (xs.map sx)).cps).toList=_
  rw [Ļ,Ļ]
  simp
 rw [AI e (Es b)]
section
variable (CP:ø)(CW:Wd->ø)
inductive qM (vs:î V) (H:Hp) (Q:VK) (E:XK):Prop|mk l dx m q us:vs=[.ref l,.str m,.ref q]->H l=some (.ins CP dx [])->H q=some (.lst us)->(∀sl tp H',H' l=some (.ins CP dx (pf m sl tp))->H' sl=some (.lst us)->H' tp=some (.tup us)->H sl=none->H tp=none->Kp l H H'->Q .non H')->qM vs H Q E
inductive qL (vs:î V) (H:Hp) (Q:VK) (E:XK):Prop|mk x k:vs=[.str (sx x),.int k]->Ar x.1 x.2->(∀v H',NI H H'->StO CW H' x.1 x.2 v->Q v H')->qL vs H Q E
def hvI:V->Option Int
 | .int i=>some i
 | _=>none
def bO(xs:î Zc):Nat:=xs.findIdx λx=>decide (x.1=.give)
inductive t8 (vs:î V) (H:Hp) (Q:VK) (E:XK):Prop|mk v b xs:vs=[v]->PaO CP CW H (mS b) xs v->xs.length<=20->Q (.int (bO xs:Nat)) H->t8 vs H Q E
end
end St
namespace XA
open PySem
def KD(od:Option ø)(e:ø)(h:ñ):Prop:=∃o,h.get? e=some o/\o.dict=od
def wX(o:Obj)(f):(o.mapFields f).dict=o.dict:=by
 unfold Obj.mapFields
 split<;>rfl
def tbO(head:ó)(L:ø)(pl:Ċ):Obj :=
 {cls:=.type "traceback",dict:=none,
   data:=.fields ([head,.ref L,.none,rawInt L,.none]++(if pl.isEmpty then List.replicate 6 Value.none else pl)).toArray}
section
variable {M:Model}{A:ô}{E:Đ}{s:ú}{base:ñ}{env:Env}{outer:ą}{L e:ø}{od:Option ø}{cls a0:ó}
def zF{r:Obj}{vs:û}{d:ó}{f:Bool}{Q:Unit->ú->Prop}(y:A.frames=some (env::outer))
  (u:s.heap.FunFrames base (env::outer))(W:env.frame=some L)(C:s.heap.get? e=some r)(X:r.dict=od)(D:base.StaysIn s.heap)
  (F:base.get? e=none)(w:r.data=.fields vs)(hsz:1<vs.size)(h0:vs[0]?=some a0)
  (k:∀h',Heap.NotedW base (env::outer) e r.cls a0 (rawInt L) s.heap h'->KD od e h'->Q () {s with heap:=h'}) :
  wpAny M A (do let a ← frameOf env;let pl ← entryPlaceOf L f;let b ← EntryCells.newEntry d a .none (rawInt L) .none pl;setField (.ref e) 1 b) Q E s:=by
 have U:e∉(env::outer).filterMap (·.frame):=λz=>by
  obtain ⟨_,o,q,j⟩:=u.mem z
  rw [C] at q;injection q with q;subst q;exact j vs w
 refine ε (wpAny_frameOf_fun y u W λg t=>ε (wpAny_entryPlaceOf λpl l=>?_))
 unfold EntryCells.newEntry newFields
 refine ε (Ğ ?_ (l.sizeOk5 _ _ _ _ _))
 have H:g.get? e=some r:=(t.2.1 e U).trans C
 have k1:base.StaysIn g:=λb o q=>(t.2.1 b λz=>by cases (u.mem z).1▸q).trans (D b o q)
 have I:=ρ (h:=g) (tbO d L pl) H
 refine wpAny_setField I w hsz ?_
 have J:g.objs.size≠e:=Nat.ne_of_gt (η H)
 have K:=Obj.data_mapFields w (·.setIfInBounds 1 (Value.ref g.objs.size))
 have O:=Ķ (Obj.mapFields (·.setIfInBounds 1 (Value.ref g.objs.size))) I (Obj.isFreed_of_fields K)
 have T3:=(Š (g.push (tbO d L pl)) (Obj.mapFields (·.setIfInBounds 1 (Value.ref g.objs.size))) (Ne.symm J)).trans (ψ g rfl)
 have x:∀b o,b≠e->g.get? b=some o->((g.push (tbO d L pl)).update e (Obj.mapFields (·.setIfInBounds 1 (Value.ref g.objs.size)))).get? b=some o:=λb o n q=>by
  rw [Š _ _ (Ne.symm n)]
  exact ρ _ q
 have P:∀b o,s.heap.get? b=some o->(∀vs,o.data≠.fields vs)->b≠e:=λb o q j z=>by
  rw [z,C] at q;injection q with q;subst q;exact j vs w
 refine k _ ⟨λb o q=>x b o (λz=>by rw [z,F] at q;cases q) (k1 b o q),u.of_keeps λb o q j=>?_,?_,λb o q j=>?_⟩ ⟨_,O,(wX _ _).trans X⟩
 .obtain ⟨G,z⟩:=t.2.2 b o q
  exact ⟨_,x b _ (P b o q j) z,ϱ⟩
 .refine ⟨_,_,g.objs.size,_,_,O,⟨Obj.cls_mapFields _ _,?_⟩,K,by simp [hsz],k1.fresh,J,T3,ϱ,?_⟩
  .rw [Array.getElem?_setIfInBounds_ne ζ];exact h0
  .first | (simp;done) | (rcases l with rfl | ⟨_,_,_,_,_,_,_,rfl⟩<;>simp)
 .obtain ⟨G,z⟩:=t.2.2 b o q
  exact ⟨G,x b _ (P b o q j) z⟩
def C8{d:Obj}{vs:û}{Q:Unit->ú->Prop}(f:A.frames=some (env::outer))(q:s.heap.FunFrames base (env::outer))(j:env.frame=some L)
  (l:s.heap.get? e=some d)(r:d.dict=od)(g:base.StaysIn s.heap)(h:base.get? e=none)(o:d.data=.fields vs)(h1:vs[1]?=some .none)(h0:vs[0]?=some a0)
  (k:∀h',Heap.NotedW base (env::outer) e d.cls a0 (rawInt L) s.heap h'->KD od e h'->Q () {s with heap:=h'}):wpAny M A (noteFrame (.ref e) env) Q E s:=by
 unfold noteFrame
 simp only [j]
 refine ε (Ē l o h1 ?_)
 rw [ŵ ζ]
 exact zF f q j l r g h o (ķ.mp h1).1 h0 k
def Eo{Q:Unit->ú->Prop}(t:A.frames=some (env::outer))(O:s.heap.FunFrames base (env::outer))(D:env.frame=some L)(P:s.heap.TracedW base e cls a0)(U:KD od e s.heap)(u:base.StaysIn s.heap)(w:base.get? e=none)
  (k:∀h',Heap.NotedW base (env::outer) e cls a0 (rawInt L) s.heap h'->KD od e h'->Q () {s with heap:=h'}):wpAny M A (noteFrame (.ref e) env) Q E s:=by
 obtain ⟨W,vs,T,X,ts,h,⟨rfl,h0⟩,x,h1,j,l,r,d,y⟩:=P
 obtain ⟨Y,F,G⟩:=U
 cases h▸F
 unfold noteFrame
 simp only [D]
 refine ε (Ē h x h1 ?_)
 rw [if_pos (show (Value.ref T != Value.none)=true from by simp)]
 refine ε (Ē r d y ?_)
 rw [if_neg (show ¬((Value.none==rawInt L)=true) from by simp [rawInt])]
 refine ε (wpAny_setField r d (ķ.mp y).1 ?_)
 have g:∀b,b≠T->(s.heap.update T (Obj.mapFields (·.setIfInBounds 3 Value.none))).get? b=s.heap.get? b:=λb n=>Š _ _ (Ne.symm n)
 have C:∀b o,s.heap.get? b=some o->(∀vs,o.data≠.fields vs)->b≠T:=λb o q f z=>by
  rw [z,r] at q;injection q with q;subst q;exact f ts d
 refine zF t (O.of_keeps λb o q f=>⟨o,(g b (C b o q f)).trans q,ϱ⟩) D ((g e (Ne.symm l)).trans h) G
  (λb o q=>(g b λz=>by rw [z,j] at q;cases q).trans (u b o q)) w x (ķ.mp h1).1 h0 λh' ⟨H,I,J,K⟩=>k h' ⟨H,I,J,λb o q f=>K b o ((g b (C b o q f)).trans q) f⟩
def vV{l:ą}{fl:ó}{Q:Unit->ú->Prop}(y:base.StaysIn s.heap)(K:s.heap.FunFrames base l)(L:s.heap.TracedAtW base e cls a0 fl)(O:KD od e s.heap)
  (k:∀h',base.StaysIn h'->h'.FunFrames base l->h'.TracedW base e cls a0->KD od e h'->(∀b o,s.heap.get? b=some o->(∀vs,o.data≠.fields vs)->h'.get? b=some o)->Q () {s with heap:=h'}) :
  wpAny M A (setFlight (.ref e) none) Q E s:=by
 obtain ⟨C,vs,T,P,ts,w,g,D,h1,h,j,x,d,H⟩:=L
 obtain ⟨U,I,J⟩:=O
 cases w▸I
 have r:3<ts.size:=(ķ.mp H).1
 have u:∀b,b≠T->(s.heap.update T (Obj.mapFields (·.setIfInBounds 3 ((none:Option ø).elim Value.none λf=>rawInt f)))).get? b=s.heap.get? b:=λb n=>Š _ _ (Ne.symm n)
 have F:∀b o,s.heap.get? b=some o->(∀vs,o.data≠.fields vs)->b≠T:=λb o q t z=>by
  rw [z,x] at q;injection q with q;subst q;exact t ts d
 unfold setFlight
 refine ε (Ē w D h1 ?_)
 rw [if_pos (show (Value.ref T != Value.none)=true from by simp)]
 have G:=(u e (Ne.symm j)).trans w
 refine wpAny_setField x d r (k _ (λb o q=>(u b λz=>by rw [z,h] at q;cases q).trans (y b o q)) (K.of_keeps λb o q t=>⟨o,(u b (F b o q t)).trans q,ϱ⟩) ?_ ⟨C,G,J⟩ λb o q t=>(u b (F b o q t)).trans q)
 exact ⟨C,vs,T,_,_,G,g,D,h1,h,j,Heap.get?_update_self _ x (Obj.isFreed_of_fields (Obj.data_mapFields d _)),Obj.data_mapFields d _,by simp [r]⟩
def pF(base:ñ)(l:ą)(e:ø)(cls a0:ó)(od:Option ø)(h:ñ):Prop:=Heap.FlyingW base l e cls a0 h/\KD od e h
def BM(base:ñ)(l:ą)(e:ø)(cls a0:ó)(od:Option ø)(L:ø)(h:ñ):Prop:=Heap.HeldW base l e cls a0 L h/\KD od e h
def zc{Q:Unit->ú->Prop}(d:A.frames=some (env::outer))(j:env.frame=some L)(fl:pF base (env::outer) e cls a0 od s.heap)
  (k:∀h',BM base (env::outer) e cls a0 od L h'->s.heap.UpToSlots h'->Q () {s with heap:=h'}):wpAny M A (noteFrame (.ref e) env) Q E s:=by
 obtain ⟨⟨f1,f2,f3,f⟩,g⟩:=fl
 exact Eo d f3 j f g f1 f2 λh' ⟨k1,k2,k3,h⟩ z=>k h' ⟨⟨k1,f2,k2,k3⟩,z⟩ h
def uJ{l:ą}{Q:Unit->ú->Prop}(r:BM base l e cls a0 od L s.heap)(k:∀h',pF base l e cls a0 od h'->s.heap.UpToSlots h'->Q () {s with heap:=h'}):wpAny M A (setFlight (.ref e) none) Q E s:=by
 obtain ⟨⟨f1,f2,f3,d⟩,f⟩:=r
 exact vV f1 f3 d f λh' k1 k2 k3 g h=>k h' ⟨⟨k1,f2,k2,k3⟩,g⟩ λb o q j=>⟨o.slots,h b o q j⟩
def Dr{l:ą}{Q:Unit->ú->Prop}(r:pF base l e cls a0 od s.heap)(k:∀h',pF base l e cls a0 od h'->s.heap.UpToSlots h'->Q () {s with heap:=h'}):wpAny M A (setFlight (.ref e) none) Q E s:=by
 obtain ⟨⟨f1,f2,f3,d⟩,f⟩:=r
 exact vV f1 f3 d.at f λh' k1 k2 k3 g h=>k h' ⟨⟨k1,f2,k2,k3⟩,g⟩ λb o q j=>⟨o.slots,h b o q j⟩
def Bc{Q:Unit->ú->Prop}(d:A.frames=some (env::outer))(g:env.frame=some L)(fl:pF base (env::outer) e cls a0 od s.heap)
  (k:∀h',pF base outer e cls a0 od h'->s.heap.UpToSlots h'->Q () {s with heap:=h'}):wpAny M A (leaving env (.ref e)) Q E s:=by
 unfold leaving
 refine ε (zc d g fl λh1 f u1=>uJ f λh2 ⟨⟨k1,k2,⟨_,_,k3⟩,k4⟩,k5⟩ u2=>k h2 ⟨⟨k1,k2,k3,k4⟩,k5⟩ (u1.trans u2))
def zf{f:Obj}{vs:û}{Q:Unit->ú->Prop}(g:A.frames=some (env::outer))(q:env.frame=some L)(r:s.heap.FunFrames base (env::outer))
  (t:s.heap.get? e=some f)(u:f.dict=od)(h:base.StaysIn s.heap)(d:base.get? e=none)(w:f.data=.fields vs)(h1:vs[1]?=some .none)(h0:vs[0]?=some a0)
  (k:∀h',pF base outer e f.cls a0 od h'->s.heap.UpToSlots h'->Q () {s with heap:=h'}):wpAny M A (leaving env (.ref e)) Q E s:=by
 unfold leaving
 refine ε (C8 g r q t u h d w h1 h0 λh1 ⟨k1,k2,k3,j⟩ o=>?_)
 exact uJ (L:=L) (l:=env::outer) ⟨⟨k1,d,k2,k3⟩,o⟩ λh2 ⟨⟨j1,j2,⟨_,_,j3⟩,j4⟩,j5⟩ u2=>k h2 ⟨⟨j1,j2,j3,j4⟩,j5⟩ (Heap.UpToSlots.trans j u2)
end
section
variable {prog:ù}{w:ö}{A:ô}{E:Đ}{h:ñ}{g:Array GenState}{d:Drawn}{t:Nat}{os:OsState}
variable {nm q:Str}{C N:ø}{bs tl bmB:Ċ}{hdct:Bool}{sn:Ĉ}{sub:Ċ}{ab:Bool}{col:Option Bool}{dd:Option ø}{k0 k1 k2 k3 k5:ý}{B new init:String}
abbrev tN(vs:Ċ):Obj:={cls:=.type "tuple",data:=.seq vs.toArray}
abbrev gV(C:ø)(od:Option ø)(t:ø):Obj:={cls:=.ref C,dict:=od,data:=.fields #[.ref t,.none,.none,.none,.bool false,.none]}
def tT(j:ExcBaseFacts B new init bmB)(T:OwnTail h bmB tl){mN:ď}{vs:Ċ}{x:ø}{F:Obj}{Q:Fin->ú->Prop}
  (l:h.get? C=some (excClassObj nm q C N bs tl hdct sn sub ab col dd k0 k1 k2 k3 k5 new))(hN:h.Ns N mN)(L:mN "__init__"=some (.ref x))(O:h.get? x=some F)(hc:F.cls=.type "function")(P:vs.length<=sizeLine)
  (k:∀h' e,Heap.MadeExcOf h h' e (.ref C) vs->wpAny (model prog w) A (call (.ref x) (.ref e::vs)) (λr s'=>r=.none/\Q (.done (.ret (.ref e))) s') E ⟨h',g,d,t,os⟩) :
  wpAny (model prog w) A (Builtin.«type.__call__» ⟨.ref C :: vs, []⟩) Q E ⟨h, g, d, t, os⟩ := by
 repeat (first | with_reducible refine ľ l ?_ | with_reducible refine wpAny_madeBy_exc l ?_ | wp_step)
 refine codeAny_call_builtin_code (Code.quiet_builtin _ j.quiet) (wpAny_check_new_subT j T l (codeAny_exc_new_subT j T l ?_ P))
 show wpAny _ _ _ _ _ _
 have f:∀{b:ø} {o:Obj},h.get? b=some o->((h.push (tN vs)).push (gV C none h.objs.size)).get? b=some o:=λe=>ρ _ (ρ _ e)
 have y:=f l
 have H:((h.push (tN vs)).push (gV C none h.objs.size)).Ns N mN:=let ⟨o,es,ep,e,r⟩:=hN;⟨o,es,ep,f e,r⟩
 have I:OwnTail ((h.push (tN vs)).push (gV C none h.objs.size)) bmB tl:=T.keeps λb o e=>f e
 have D:((h.push (tN vs)).push (gV C none h.objs.size)).get? (h.objs.size+1)=some (gV C none h.objs.size):=by heap_get
 have u:(Value.ref C::tl).contains (.ref C)=true:=by simp
 unfold isInstance
 repeat (first | with_reducible refine ľ D ?_ | (with_reducible refine wpAny_isSubtype_exc y ?_;rw [u]) | wp_step)
 show wpAny _ _ (typeLookup (.ref C) _) _ _ _
 refine wpAny_typeLookup_tail y H I j.mroIs j.init.lookup ?_
 rw [L]
 refine ŗ (ε ?_)
 unfold bindSpecial
 refine ε (wpAny_typeOf (T:="function") ⟨_,f O,hc⟩ ?_)
 rw [ů ζ]
 have J:Heap.MadeExcOf h ((h.push (tN vs)).push (gV C none h.objs.size)) (h.objs.size+1) (.ref C) vs :=
  ⟨λb o e=>f e,Heap.get?_none_of_le (Nat.le_succ _),h.objs.size,D,Heap.get?_none_of_le (ι _),ρ _ (Heap.get?_push_at rfl rfl)⟩
 refine π (ε (Ŭ (k _ _ J) (λr s' K=>?_) λ_ _ z=>z))
 obtain ⟨rfl,G⟩:=K
 wp_walk
 exact G
def EO(u:ExcBaseFacts B new init bmB)(T:OwnTail h bmB tl){mN:ď}{vs:Ċ}{j:ø}{l:Obj}{Q:Đ}
  (f:h.get? C=some (excClassObj nm q C N bs tl hdct sn sub ab col dd k0 k1 k2 k3 k5 new))(hN:h.Ns N mN)(x:mN "__init__"=some (.ref j))(y:h.get? j=some l)(hc:l.cls=.type "function")(z:vs.length<=sizeLine)
  (k:∀h' e,Heap.MadeExcOf h h' e (.ref C) vs->wpAny (model prog w) (A.under (.builtin "type.__call__" ⟨.ref C::vs,[]⟩)) (call (.ref j) (.ref e::vs)) (λr s'=>r=.none/\Q (.ref e) s') E ⟨h',g,d,t,os⟩) :
  wpAny (model prog w) A (call (.ref C) vs) Q E ⟨h,g,d,t,os⟩:=by
 have f1:=tc_lookup
 have f2:=tc_bind (.ref C)
 have D:(⟨h,g,d,t,os⟩:ú).TypeIs (.ref C) "type":=⟨_,f,ϱ⟩
 refine ī (codeAny_of_tree ?_)
 show wpAny _ _ (callAny (.ref C) _) _ _ _
 repeat (any_goals (first | assumption | with_reducible refine ľ f ?_ | wp_step))
 exact ⟨ϱ,codeAny_call_builtin_at (Code.quiet_builtin _ θ) entry_typeCall (wpAny_check_type_call_sub f (tT u T f hN x y hc z λh' e o=>k h' e o))⟩
end
section
variable {prog:ù}{w:ö}{M:Model}{A:ô}{E:Đ}{env:Env}
variable {nm q:Str}{C N:ø}{bs tl:Ċ}{hdct:Bool}{sn:Ĉ}{sub:Ċ}{ab:Bool}{col:Option Bool}{dd:Option ø}{k0 k1 k2 k3 k5:ý}{new:String}
def rq{s:ú}{x:Sem ó}{Q:Flow->ú->Prop}(r:A.handled=none)
  (k:wpAny M A x (λv s1=>∃e t od tl N nm q bs hdct sn sub ab col dd k0 k1 k2 k3 k5 new,v=.ref e/\s1.heap.get? C=some (excClassObj nm q C N bs tl hdct sn sub ab col dd k0 k1 k2 k3 k5 new)/\tl.contains (.type "BaseException")=true /\
   s1.heap.get? e=some (gV C od t)/\E (.ref e) s1) E s):wpAny M A (raiseStmt env (some x) none) Q E s:=by
 unfold raiseStmt
 refine ε (Ŭ k (λv s1 h1=>?_) λ_ _ z=>z)
 obtain ⟨e,t,od,tl,N,nm,q,bs,hdct,sn,sub,ab,col,dd,k0,k1,k2,k3,k5,new,rfl,f,h,j,l⟩:=h1
 have o:(Value.ref C::tl).contains (.type "BaseException")=true:=by rw [List.contains_cons,h,Bool.or_true]
 obtain ⟨u,g,d,w,y⟩:=s1
 repeat (first | with_reducible refine ľ j ?_ | with_reducible refine ľ f ?_ | (with_reducible refine wpAny_isSubtype_exc f ?_;rw [o]) | wp_step)
 exact wpAny_raiseNew_none r l
def sZ{s:ú}{e:ï}{pos:Pos}{Q:Flow->ú->Prop}(d:A.handled=none)
  (k:wpAny (model prog w) A (eval e env) (λv s1=>∃e t od tl N nm q bs hdct sn sub ab col dd k0 k1 k2 k3 k5 new,v=.ref e/\s1.heap.get? C=some (excClassObj nm q C N bs tl hdct sn sub ab col dd k0 k1 k2 k3 k5 new)/\tl.contains (.type "BaseException")=true /\
   s1.heap.get? e=some (gV C od t)/\E (.ref e) s1) E s):wpAny (model prog w) A (exec (.Raise (some e) none pos) env) Q E s:=by
 rw [arm_exec_Raise]
 first
  | refine ε (Ĥ (rq (C:=C) d (ε (Ŭ k (λv g f=>ε (Ĥ (π f))) λ_ _ x=>x))))
  | (simp only [evalOpt,Option.map];refine wpAny_bind (wpAny_standAt (rq (C:=C) d (wpAny_bind (wpAny_mono k (λv g f=>wpAny_bind (wpAny_standAt (wpAny_pure f))) λ_ _ x=>x)))))
  | (simp only [evalOpt,Option.map];exact wpAny_bind (wpAny_standAt (rq (C:=C) d k)))
  | exact ε (Ĥ (rq (C:=C) d k))
end
abbrev bmX:Ċ:=[.type "ValueError",.type "Exception",.type "BaseException",.type "object"]
def sM:Ċ->Bool
 | .ref _::r=>sM r
 | l=>l==bmX
def oE{v:ó}{r:Ċ}(e:sM (v::r)=true):(∃c,v=.ref c/\sM r=true)\/v::r=bmX:=by
 unfold sM at e
 split at e
 .rename_i c r' z
  cases z
  exact .inl ⟨_,ϱ,e⟩
 .exact .inr (Ĭ.mp e)
def oC:sM []=false:=by decide +kernel
theorem lM(self:ó):∀{l:Ċ},sM l=true->refuseLoop self "__setattr__" l=pure ()
 | [],e=>by cases oC▸e
 | v::r,e=>by
  rcases oE e with ⟨c,rfl,e2⟩ | z
  .rw [refuseLoop_ref]
   exact lM self e2
  .exact z▸F.store_ValueError.passes self
theorem sL{n:String}(hn:bmX.contains (.type n)=true):∀{l:Ċ},sM l=true->l.contains (.type n)=true
 | [],e=>by cases oC▸e
 | v::r,e=>by
  rcases oE e with ⟨c,rfl,e2⟩ | z
  .rw [List.contains_cons,sL hn e2,Bool.or_true]
  .rw [z];exact hn
end XA
namespace L2.XA
open PySem PySem.Spec PyProof.Rows _root_.XA PySem.Builtin PySem.Builtin.ObjectAttr
def wY(K:ò)(C:ø):Bool:=(PySem.W.clsIn K C).any λcd=>sM cd.mro&&cd.hasDict
structure lF(K:ò)(C:ø):Prop where
 cl:wY K C=true
 sa:PySem.W.findIn K (.ref C) "__setattr__"=some (some (.builtin "object.__setattr__"))
 na:PySem.W.findIn K (.ref C) "at"=some none
 ek:uV K C
section
variable {prog:ù}{w:ö}{A:ô}{E:Đ}{s:ú}{K:ò}{x C:ø}{v:ó}
def Ff{r:Obj}{t:Option Obj}{name:Str}{g:Tok}{R:Result->ú->Prop}(X:K.In s.heap)(I:PySem.W.InstAt s.heap x r C t)(u:wY K C=true)(y:PySem.W.findIn K (.ref C) name=some none)
  (k:wpAny (model prog w) A.in1 (storeInOwnDict (.ref x) (.ref C) (.str name g) name v false)
   (λfin s'=>match fin with | .done f=>R (.ok f) s' | .again c'=>c'.quiet=true/\codeAny (model prog w) A c' R s') (λe s'=>R (.error e) s') s) :
  codeAny (model prog w) A (.call (.builtin "object.__setattr__") ⟨[.ref x,.str name g,v],[]⟩) R s:=by
 obtain ⟨h,j,q⟩:=PySem.W.any_some u
 obtain ⟨d,_⟩:=(ł _ _).mp q
 have l:h.mro.isEmpty=false:=by
  cases z:h.mro with
  | nil=>rw [z,oC] at d;cases d
  | cons _ _=>rfl
 have sub:PySem.W.Looks (model prog w) s.heap (isInstance (.ref x) (.type "object")) true :=
  I.type.andThen (PySem.W.looks_mroIn X (by unfold PySem.W.mroIn;rw [j,Option.bind_some,if_neg (by rw [l];decide),sL θ d]))
 refine Ę PySem.F.store_object.slot.plain PySem.F.store_object.entry (@PySem.W.check_slot (model prog w) _ _ s "object.__setattr__" "object" "__setattr__" (.ref x) [.str name g,v] [] _ PySem.F.store_object.kind PySem.F.store_object.split sub (PySem.F.store_object.args (.ref x) (.str name g) v) ?_)
 have o:PySem.W.Looks (model prog w) s.heap (mroOf (.ref C)) h.mro:=(PySem.W.looks_clsIn X j).andThen .now
 rw [PySem.W.osa_eq,refuse_eq]
 refine ε (ε (I.type.here (ε (o.here ?_))))
 rw [lM _ d]
 refine π (ε (I.type.here (ε ((Ŋ X y).here (ε (π ?_))))))
 exact k
def E5{t:ø}{Q:Unit->ú->Prop}(X:K.In s.heap)(hx:s.heap.get? x=some (gV C none t))(c:lF K C)
  (k:∀h',h'.Ns1 s.heap.objs.size (λy=>if y="at" then some v else none)->h'.get? x=some (gV C (some s.heap.objs.size) t)->(∀b ob,b≠x->s.heap.get? b=some ob->h'.get? b=some ob)->Q () {s with heap:=h',toks:=s.toks+2}) :
  wpAny (model prog w) A (setAttr (.ref x) "at" v) Q E s:=by
 have J:PySem.W.InstAt s.heap x (gV C none t) C none:=⟨hx,ϱ,ϱ,ϰ⟩
 refine PySem.W.set_plain X J c.sa (Ff (s:={s with toks:=s.toks+1}) X J c.cl c.na ?_)
 obtain ⟨I,l,q⟩:=PySem.W.any_some c.cl
 obtain ⟨_,r⟩:=(ł _ _).mp q
 have h:(s.heap.push PySem.W.emptyDict).get? x=some (gV C none t):=ρ _ hx
 have xs:x≠s.heap.objs.size:=Φ (η hx)
 refine ε (π (ε (ε (wpAny_loadPart hx (ε (PySem.W.Looks.here (s:={s with toks:=s.toks+1}) (PySem.W.looks_clsIn X l) ?_))))))
 rw [r]
 refine ε (wpAny_alloc (s:={s with toks:=s.toks+1}) (ε (wpAny_update h (π ?_))))
 have D:=Ķ (λo:Obj=>{o with dict:=some s.heap.objs.size}) h rfl
 have F:((s.heap.push PySem.W.emptyDict).update x λo=>{o with dict:=some s.heap.objs.size}).get? s.heap.objs.size=some PySem.W.emptyDict :=
  (Š _ _ xs).trans (Heap.get?_push_at rfl rfl)
 have nd:((s.heap.push PySem.W.emptyDict).update x λo=>{o with dict:=some s.heap.objs.size}).Ns s.heap.objs.size (λ_=>none):=⟨_,#[],_,F,ϱ,λe G=>absurd G (by simp),λ_=>rfl⟩
 refine ε (π (ε ?_))
 refine wpAny_nsSet1 (Heap.Ns1.of_empty nd) λh' j sb=>?_
 obtain ⟨L,u,z,d,f,g⟩:=j.count (PySem.Within.cons "at" v PySem.Within.nil)
 refine ε (wpAny_lookBehind d (by rw [f];exact pastItsLine_dict (Λ g (by rw [Ŷ,List.length_nil,sizeLine_eq];lia))) ?_)
 refine π (k _ j ((sb.2 x xs).trans D) λb ob H e=>?_)
 exact (sb.2 b (Φ (η e))).trans ((Š _ _ (Ne.symm H)).trans (ρ _ e))
def Fm{f:Obj}{o:ø}{r:ď}{e:Bool}{Q:Đ}(X:K.In s.heap)(hx:s.heap.get? x=some f)(hc:f.cls=.ref C)(P:PySem.W.notCls f=true)(U:f.dict=some o)
  (n:s.heap.Ns1 o r)(Y:r "at"=some v)(Z:PySem.W.handedIn v=true)(c:lF K C)(k:Q v {s with toks:=s.toks+1}):wpAny (model prog w) A (getAttr (.ref x) "at" e) Q E s:=by
 obtain ⟨l,u,y⟩:=pS n
 have J:PySem.W.InstAt s.heap x f C (some l):=⟨hx,hc,P,by rw [U];exact u⟩
 obtain ⟨cd,h,q⟩:=PySem.W.any_some c.cl
 obtain ⟨_,j⟩:=(ł _ _).mp q
 have D:PySem.W.findObj K C (some l) "at"=some (.value v):=by
  unfold PySem.W.findObj PySem.W.ownOf
  rw [h,c.na]
  simp only [Option.bind_some,j,if_true,y,Y]
 have G:=J.type (M:=model prog w)
 have H:=Ŋ (M:=model prog w) X c.ek.ga
 have L2:=Ŋ (M:=model prog w) X c.ek.gh
 have L3:=PySem.W.looks_find (M:=model prog w) X J D
 obtain ⟨h0,g,d,t,z⟩:=s
 have f3:=F.excAttr_ValueError.ga.bind (.ref x)
 have I:(Value.builtin "BaseException.__getattribute__"==Value.builtin "object.__getattribute__")=false:=by decide +kernel
 have L:(onTheHeap (Value.ref C)&&Value.builtin "BaseException.__getattribute__"==Value.builtin "object.__getattribute__")=false:=by rw [I];rfl
 unfold getAttr getAttrBy
 refine ε (wpAny_mkText (ŗ (ε (G.at (ε (H.at ?_))))))
 dsimp only
 rw [ŵ (by rw [L];decide)]
 unfold getAttrByItsOwn hookBefore
 refine ε ?_
 rw [ů (show onTheHeap (Value.ref C)=true from rfl)]
 refine L2.at (ε (wpAny_attempt ?_))
 refine ŗ ?_
 unfold callGetattribute boundAndCalled
 have O:¬((e&&onTheHeap (Value.builtin "BaseException.__getattribute__"))=true):=by cases e<;>decide
 rw [ŵ O,f3]
 refine ε (π (ī (Ę F.excAttr_ValueError.ga.plain F.entry_bexc_ga (jY (s:=⟨h0,g,d,t+1,z⟩) c.ek X hx hc ?_))))
 unfold Builtin.«object.__getattribute__»
 repeat (first | with_reducible refine PySem.W.Looks.at (by assumption) ?_ | with_reducible refine ε ?_ | lk)
 repeat (any_goals (first | assumption | wp_step))
 show wpAny _ _ (handedOut v) _ _ _
 exact PySem.W.handedOut_of Z▸π k
end
def uU(ea C:ø):HO:=.ext λh=>∃t,h.get? ea=some (gV C none t)
def sd(ea C dd:ø):HO:=.ext λh=>∃t,h.get? ea=some (gV C (some dd) t)
def uW(ea C dd:ø):HO:=.ext λh=>∃o,h.get? ea=some o/\o.cls=.ref C/\o.dict=some dd/\PySem.W.notCls o=true
def IsX(H:Hp)(ea C dd:ø):Prop:=H ea=some (sd ea C dd)\/H ea=some (uW ea C dd)
def atX(n:Int):HO:=.xd [("at",.int n)]
def vK{f:Str}{v:V}:List.lookup f [(f,v)]=some v:=by simp [List.lookup]
def zd{f g:Str}{v:V}(h:¬g=f):List.lookup g [(f,v)]=none:=by
 have b:(g==f)=false:=Ň.mpr h
 simp only [List.lookup,b]
section
variable {P:ù}{w:ö}{H:Hp}{h:ñ}{ea C dd:ø}
def NS.raw(x:NS P w H h)(e:H ea=some (uU ea C)):∃t,h.get? ea=some (gV C none t):=(x ea _ e).1
def NS.made(x:NS P w H h)(e:H ea=some (sd ea C dd)):∃t,h.get? ea=some (gV C (some dd) t):=(x ea _ e).1
def NS.isX(x:NS P w H h)(e:IsX H ea C dd):∃o,h.get? ea=some o/\o.cls=.ref C/\o.dict=some dd/\PySem.W.notCls o=true:=by
 rcases e with e | e
 .obtain ⟨t,q⟩:=NS.made x e
  exact ⟨_,q,ϱ,ϱ,ϱ⟩
 .exact (x ea _ e).1
def AZ{t:ø}(e:h.get? ea=some (gV C (some dd) t)):NR P w H h ea (sd ea C dd):=⟨⟨t,e⟩,⟨_,e⟩,λh1 h2 ⟨t,q⟩ k=>⟨t,k _ q⟩⟩
def AY{t:ø}(e:h.get? ea=some (gV C none t)):NR P w H h ea (uU ea C):=⟨⟨t,e⟩,⟨_,e⟩,λh1 h2 ⟨t,q⟩ k=>⟨t,k _ q⟩⟩
def A1{o:Obj}(e:h.get? ea=some o)(hc:o.cls=.ref C)(hd:o.dict=some dd)(hn:PySem.W.notCls o=true):NR P w H h ea (uW ea C dd):=⟨⟨o,e,hc,hd,hn⟩,⟨_,e⟩,λh1 h2 ⟨o,q,r⟩ k=>⟨o,k _ q,r⟩⟩
end
section
variable {X:Cx}{pins:đ}{σ:St}{H:Hp}{s:ú}{a C dd:ø}{A:ô}{E:Đ}
def xU{n:Int}{u:ó}{Q:Unit->ú->Prop}(I:NM X pins σ H s)(e:H a=some (uU a C))(c:lF X.K C)(F:NP (.int n) u)
  (k:∀dd s',H dd=none->dd≠a->NM X pins σ (upd (upd H dd (atX n)) a (sd a C dd)) s'->Q () s'):wpAny (model X.prog X.w) A (setAttr (.ref a) "at" u) Q E s:=by
 obtain ⟨t,d⟩:=NS.raw I.hok e
 refine E5 I.kIn d c λg y h D=>?_
 have nd:s.heap.objs.size≠a:=Nat.ne_of_gt (η d)
 refine k s.heap.objs.size _ (I.hok.fresh (ι _)) nd ?_
 have l:=Ķ (λo:Obj=>{o with dict:=none}) h rfl
 have other:∀b,b≠a->(g.update a λo=>{o with dict:=none}).get? b=g.get? b:=λb z=>Š _ _ (Ne.symm z)
 have r:NM X pins σ (upd H s.heap.objs.size (atX n)) {s with heap:=g.update a λo=>{o with dict:=none},toks:=s.toks+1}:=by
  refine I.laid (λb j q=>?_) (ι _) ⟨_,y.at λo q=>(other _ nd).trans q,λf=>?_⟩
  .by_cases z:b=a
   .subst z
    rw [d] at q
    cases q
    exact l
   .exact (other b z).trans (D b j z q)
  .by_cases z:f="at"
   .subst z
    rw [ů rfl,vK]
    exact F
   .rw [ŵ z,zd z]
    exact ϰ
 refine r.write (x:=a) (e:=a) ?_ (.inl rfl) (λb j z q=>?_) ⟨_,h⟩ (AZ h)
 .rw [am (Ne.symm nd),e]
  exact ϰ
 .exact (other b z).symm.trans q
def zu{n:Int}{b:Bool}{Q:Đ}(I:NM X pins σ H s)(e:IsX H a C dd)(x:H dd=some (atX n))(c:lF X.K C)(k:∀u s',NM X pins σ H s'->NP (.int n) u->Q u s') :
  wpAny (model X.prog X.w) A (getAttr (.ref a) "at" b) Q E s:=by
 obtain ⟨o,h,j,d,l⟩:=NS.isX I.hok e
 obtain ⟨y,q,r⟩:=(show NR X.prog X.w H s.heap dd (.xd [("at",.int n)]) from I.hok dd _ x)
 have g:=r "at"
 rw [vK] at g
 obtain ⟨u,t,f⟩:=RelO.some_of g
 exact Fm I.kIn h j l d q t (ql f) c (k u _ (I.tok _) f)
end
end L2.XA
namespace L2.XA
open PySem PySem.Spec PyProof.Rows _root_.XA
def E8(K:ò)(ta tv:TE):TS:=λD σ H=>tv σ H λy H1=>ta σ H1 λx H2=>∃a C n,y=.int n/\x=.ref a/\H2 a=some (uU a C)/\lF K C /\
 ∀dd,H2 dd=none->dd≠a->D.nx σ (upd (upd H2 dd (atX n)) a (sd a C dd))
def E4(K:ò)(ta:TE):TE:=fun σ H Q=>ta σ H λx H1=>∃a C dd n,x=.ref a/\IsX H1 a C dd/\H1 dd=some (atX n)/\lF K C/\Q (.int n) H1
section
variable {X:Cx}{o e value:ï}{pos pos':Pos}{ta tv:TE}
def Cp(G:PE X o ta)(J:PE X value tv)(L:swapsWith value (some (.Attribute o "at" pos')) pos.line X.env=pure false):PS X (.Assign [.Attribute o "at" pos'] value pos) (E8 X.K ta tv):=by
 intro d s σ H D I h
 refine plainObj_wpAny_Assign_Attribute (Zg (J d s σ H _ I h) λu e ⟨y,H1,f,g,q⟩=>Zg (G d e σ H1 _ f q) λj O ⟨x,P,k,l,a,C,n,r,ex,t,c,q2⟩=>?_) L
 subst ex r
 obtain rfl:j=Value.ref a:=l
 exact xU k t c g λw Q h1 z F=>⟨σ,_,F,q2 w h1 z⟩
def Cy{f:Str}{K:ò}(t:PE X e ta)(w:attributeBase e f X.env (eval e X.env)=eval e X.env)(y:X.K=K:=by rfl)(z:f="at":=by rfl):PE X (.Attribute e f pos) (E4 K ta):=by
 subst z y
 intro d s σ H Q I h
 refine v8 w (Zg (t d s σ H _ I h) λu D ⟨x,H1,g,j,a,C,F,n,ex,k,l,c,q⟩=>?_)
 subst ex
 obtain rfl:u=Value.ref a:=j
 exact zu g k l c λG J o r=>⟨.int n,H1,o,r,q⟩
def Fc(K:ò):î V->Hp->VK->Prop:=λxs H Q=>∃ea C dd t b,(xs=[.ref ea,.ref t]/\PySem.W.kitOne K (.ref C) (.ref t)=some b\/∃n,xs=[.ref ea,.ty n]/\PySem.W.kitOne K (.ref C) (.type n)=some b)/\IsX H ea C dd/\lF K C/\Q (.bl b) H
def o9{K:ò}(D:X.K=K):cV X (.builtin "isinstance") (Fc K):=by
 subst D
 intro w s σ H xs G Q I r h
 obtain ⟨j,C,F,t,b,d,x,c,q⟩:=h
 obtain ⟨o,k,l,_,_⟩:=NS.isX I.hok x
 rcases d with ⟨rfl,ek⟩ | ⟨n,rfl,ek⟩
 .obtain ⟨u,e,rfl,f,g⟩:=mY r
  cases (show e=Value.ref t from g)
  cases (show u=Value.ref j from f)
  exact ś (sS c.ek) I.kIn ⟨o,k,l⟩ ek (λz=>nomatch z) λy=>⟨.bl b,H,I.tok _,ϱ,q⟩
 .obtain ⟨u,e,rfl,f,g⟩:=mY r
  cases (show e=Value.type n from g)
  cases (show u=Value.ref j from f)
  exact ś (sS c.ek) I.kIn ⟨o,k,l⟩ ek (λz=>nomatch z) λy=>⟨.bl b,H,I.tok _,ϱ,q⟩
end
def tj(K:ò)(C fI:ø)(new:String):Bool:=match K.lookup C with
 | none=>false
 | some ob=>ob.cls==.type "type"&&(match ob.data with
  | .cls cd=>(match cd.mro with
   | .ref C2::tl=>(match ob.slots.toList with
    | [_,_,_,_,some (.builtin n),_]=>C2==C&&n==new&&!cd.hasDel&&PySem.W.tailIn K bmX tl&&PySem.W.nsOkIn K cd.ns&&PySem.W.nsIn K cd.ns "__init__"==some (some (.ref fI))
    | _=>false)
   | _=>false)
  | _=>false)
def yW{K:ò}{h:ñ}{N:ø}{m:ď}{n:Str}{v:ó}(X:K.In h)(G:h.Ns N m)(e:PySem.W.nsIn K N n=some (some v)):m n=some v:=by
 obtain ⟨o,k,l,f,g,_,j⟩:=G
 unfold PySem.W.nsIn at e
 split at e
 .rename_i c d es' n' sl q
  have z:=X _ _ q
  rw [f] at z
  cases z
  cases g
  split at e
  .rename_i y hy
   cases e
   rw [← j n]
   unfold nsFind findBy
   rw [← Array.find?_toList,hy]
   rfl
  .split at e<;>cases e
 .cases e
def yt{K:ò}{h:ñ}{C j:ø}{new:String}(e:K.In h)(q:tj K C j new=true) :
  ∃tl N nm qn bs hdct sn sub ab col dd k0 k1 k2 k3 k5 mN,h.get? C=some (excClassObj nm qn C N bs tl hdct sn sub ab col dd k0 k1 k2 k3 k5 new)/\h.Ns N mN/\mN "__init__"=some (.ref j)/\OwnTail h bmX tl:=by
 unfold tj at q
 cases lk:K.lookup C with
 | none=>cases lk▸q
 | some ob =>
  rw [lk] at q
  obtain ⟨w,k,l,f⟩:=ob
  dsimp only at q
  obtain ⟨q0,d⟩:=(ł _ _).mp q
  clear q
  split at d
  .rename_i cd
   obtain ⟨nm,bs,o,r,qn,t,sn,sub,ab,col,u⟩:=cd
   dsimp only at d
   split at d
   .rename_i C2 tl
    split at d
    .rename_i k0 k1 k2 k3 n2 k5 es
     simp only [Bool.and_eq_true,beq_iff_eq,Bool.not_eq_true'] at d q0
     obtain ⟨⟨⟨⟨⟨q1,q2⟩,q3⟩,q4⟩,q5⟩,q6⟩:=d
     subst q1 q2 q3 q0
     have g:f=#[k0,k1,k2,k3,some (.builtin n2),k5]:=į.mp es
     subst g
     have G:=Heap.Ns.of_isNs (PySem.W.isNs_of_in e q5)
     exact ⟨tl,r,nm,qn,bs,t,sn,sub,ab,col,k,k0,k1,k2,k3,k5,_,e _ _ lk,G,yW e G q6,PySem.W.tail_of_in e q4⟩
    .cases d
   .cases d
  .cases d
structure MkX(K:ò)(C fI:ø):Prop where
 own:tj K C fI "ValueError.__new__"=true
 fn:PySem.W.isFn K (.ref fI)=true
 kp:PySem.W.keepIn K (.ref C)=true
 cx:lF K C
inductive qH (C:ø) (vs:î V) (H:Hp) (Q:VK) (E:XK):Prop|mk ea n:vs=[.ref ea,.int n]->H ea=some (uU ea C)->(∀dd,H dd=none->dd≠ea->Q .non (upd (upd H dd (atX n)) ea (sd ea C dd)))->qH C vs H Q E
section
variable {X:Cx}{pins:đ}{σ:St}{H:Hp}{s:ú}
def NM.track{d:ø}{φ:ñ->Prop}(I:NM X pins σ H s)(hx:H d=none)(ok:∀H',NR X.prog X.w H' s.heap d (.ext φ))(h0:X.s₀.heap.get? d=none)(t:d≠X.env.locals)(h:∀y c,X.env.cells.lookup y=some c->c≠d)
  (x:∀p∈X.pn++pins,p.1≠d):NM X pins σ (upd H d (.ext φ)) s:=by
 refine ⟨I.ok,I.os,I.bare,⟨I.base.keep,I.base.slot,λb o e z j=>?_,I.base.there,λb xs e=>?_,λb o u e=>?_,λb k e=>?_⟩,I.loc,I.cell,?_,λy c e=>?_,λp g=>?_,λb u e=>?_,I.len⟩
 .rw [am (λl=>by rw [l,h0] at e;cases e)]
  exact I.base.free b o e z j
 .have q:=I.base.tups b xs e
  exact am (ap q hx)▸q
 .have q:=I.base.frzs b o u e
  exact am (ap q hx)▸q
 .obtain ⟨more,q⟩:=I.base.tbls b k e
  refine ⟨more,?_⟩
  exact am (ap q hx)▸q
 .exact am t.symm▸I.free
 .exact am (h y c e)▸I.freeC y c e
 .obtain ⟨e,f,r⟩:=I.pin p g
  refine ⟨e,?_,r⟩
  exact am (x p g)▸f
 .by_cases hb:b=d
  .subst hb
   rw [Ny] at e
   cases e
   exact ok _
  .rw [am hb] at e
   refine (I.hok b u e).stay (λc v _ q=>q) (λc q=>?_) λc xs q=>?_
   .rw [am (ap q hx)];exact q
   .rw [am (ap q hx)];exact q
def NM.drop{d:ø}{φ:ñ->Prop}(I:NM X pins σ (upd H d (.ext φ)) s)(hx:H d=none)(h0:X.s₀.heap.get? d=none):NM X pins σ H s:=by
 have dn:∀{b:ø},upd H d (.ext φ) b=none->H b=none:=λ{b} q=>by
  by_cases hb:b=d
  .rw [hb];exact hx
  .rw [am hb] at q;exact q
 have g:∀{b:ø} {u:HO},upd H d (.ext φ) b=some u->u≠.ext φ->H b=some u:=λ{b u} q n=>by
  by_cases hb:b=d
  .rw [hb,Ny] at q
   exact absurd (Δ q).symm n
  .rw [am hb] at q;exact q
 refine ⟨I.ok,I.os,I.bare,⟨I.base.keep,I.base.slot,λb o e z l=>dn (I.base.free b o e z l),I.base.there,λb xs e=>g (I.base.tups b xs e) (by intro z;cases z),λb o u e=>g (I.base.frzs b o u e) (by intro z;cases z),λb t e=>?_⟩,
  I.loc,I.cell,dn I.free,λy c e=>dn (I.freeC y c e),λp h=>?_,λb u e=>?_,I.len⟩
 .obtain ⟨more,q⟩:=I.base.tbls b t e
  exact ⟨more,g q (by intro z;cases z)⟩
 .obtain ⟨e,f,r⟩:=I.pin p h
  exact ⟨e,dn f,r⟩
 .have j:b≠d:=ap e hx
  have k:upd H d (.ext φ) b=some u:=by rw [am j];exact e
  exact (I.hok b u k).stay (λc v _ q=>q) (λc q=>g q (by intro z;cases z)) λc xs q=>g q (by intro z;cases z)
variable {C fI:ø}{fd:õ}{k:Nat}
def oz{d:ø}(I:NM X pins σ H s)(g:X.ex=[])(h1:s.heap.get? d=none):H d=none/\X.s₀.heap.get? d=none/\d≠X.env.locals/\(∀y c,X.env.cells.lookup y=some c->c≠d)/\∀p∈X.pn++pins,p.1≠d:=by
 refine ⟨?_,?_,?_,λy c e z=>?_,λp j z=>?_⟩
 .cases q:H d with
  | none=>rfl
  | some u =>
   obtain ⟨o,e⟩:=(I.hok d u q).there
   cases h1▸e
 .cases q:X.s₀.heap.get? d with
  | none=>rfl
  | some u =>
   obtain ⟨k,f⟩:=I.base.there d u q (by rw [g];simp)
   rw [h1] at f;cases f
 .obtain ⟨m,⟨o,_,_,h,_⟩,_⟩:=I.loc
  intro z
  rw [z,h] at h1;cases h1
 .obtain ⟨v,o,f,_⟩:=I.cell y c e
  rw [z,h1] at f;cases f
 .have:=(I.pin p j).1
  rw [z,h1] at this;cases this
def ww{n:Int}{u:ó}{Q:Đ}{E:Đ}(M:MkX X.K C fI)(F:NH X.prog X.w X.K X.mg X.base Za k fI fd vT (qH C))(hb:NT X.K fd vT [])(hr:NU (k+1) X.A)(J:X.ex=[])
  (I:NM X pins σ H s)(r:NP (.int n) u)
  (h:∀ea dd s',s.heap.get? ea=none->H ea=none->H dd=none->dd≠ea->NM X pins σ (upd (upd H dd (atX n)) ea (sd ea C dd)) s'->Q (.ref ea) s'):wpAny (model X.prog X.w) X.A (call (.ref C) [u]) Q E s:=by
 obtain ⟨tl,N,nm,qn,bs,L,sn,sub,ab,U,Y,k0,k1,k2,k3,k5,mN,Z,hN,hi,T⟩:=yt I.kIn M.own
 obtain ⟨f,hI,l⟩:∃f,s.heap.get? fI=some f/\f.cls=.type "function":=by
  have z:=Ĭ.mp M.fn
  unfold PySem.W.typeIn at z
  obtain ⟨f,e1,e2⟩:=ř.mp z
  exact ⟨f,I.kIn _ _ e1,e2⟩
 obtain ⟨s1,o,q,g,x⟩:=s
 refine EO PySem.F.excBase_ValueError T Z hN hi hI l χ λG e j=>?_
 obtain ⟨t,he,a5,ht⟩:=j.there
 obtain ⟨O,o2,o3,o4,o5⟩:=oz I J j.new
 have I1:NM X pins σ H ⟨G,o,q,g,x⟩:=I.kept (t':=g) j.keeps
 have y:NM X pins σ (upd H e (uU e C)) ⟨G,o,q,g,x⟩:=NM.track I1 O (λH'=>AY he) o2 o3 o4 o5
 have D:qH C [.ref e,.int n] (upd H e (uU e C)) (λv H2=>v=.non/\∃dd,H dd=none/\dd≠e/\H2=upd (upd H dd (atX n)) e (sd e C dd)) E0:=by
  refine ⟨e,n,ϱ,Ny,λdd P nd=>⟨ϱ,dd,?_,nd,?_⟩⟩
  .rw [am nd] at P;exact P
  .funext b
   by_cases z:b=e
   .rw [z,Ny,Ny]
   .rw [am z,am z]
    unfold upd
    rw [ŵ z]
 refine ī (Ł (F.run _ X.stack _ _ ⟨[.ref e,u],[]⟩ [.ref e,u] [.ref e,.int n] _ E0 (hr.make C [u] []) (y.env0.make C [u] []) ?_ (.cons rfl (.cons r .nil)) D) λrr s' d=>?_)
 .have z:=hb ⟨G,o,q,g,x⟩ [.ref e,u] y.kIn rfl
  rw [ų] at z
  exact z
 cases rr with
 | error e=>exact False.elim d
 | ok fl =>
  cases fl with
  | ret u2 =>
   obtain ⟨v,H',I3,rv,ev,dd,q1,q2,q3⟩:=y.after d
   subst ev q3
   exact ⟨rv,h e dd s' j.new O q1 q2 I3⟩
  | next=>exact False.elim d
  | brk=>exact False.elim d
  | cont=>exact False.elim d
variable {x:Str}{p pos cpos:Pos}{e:ï}{t:TA}
end
def Aa(l:ą)(h0:ñ)(H:Hp)(ea C dd:ø)(h:ñ):Prop:=∃B a0,pF B l ea (.ref C) a0 (some dd) h/\Cov l h0 H B h
def CXA(P:ù)(w:ö):CXT:=λouter H s E e s'=>∃ea C dd n tk H',e=.ref ea/\s'.os=s.os/\AllBare s'.gens/\Un (frs outer) [] H H' s.heap s'.heap/\NS P w H' s'.heap/\Aa outer s.heap H' ea C dd s'.heap /\
 H' dd=some (atX n)/\E (.int n tk) (some C) H'
structure Ac(X:Cx)(E:XK):Prop where
 stk:X.stack=X.env::X.outer
 fr:X.env.frame=some X.env.locals
 ex:X.ex=[]
 xe:X.xe=λe s'=>wpAny (model X.prog X.w) X.A (leaving X.env e) (λ_ s''=>CXA X.prog X.w X.outer X.H₀ X.s₀ E e s'') (λe' s''=>CXA X.prog X.w X.outer X.H₀ X.s₀ E e' s'') s'
section
variable {X:Cx}{E:XK}{pins:đ}{σ:St}{H H':Hp}{s s':ú}{ea C dd:ø}{n:Int}{tk:Tok}
def vL{B j hc:ñ}{r:ó}(D:Ac X E)(I:NM X pins σ H s)(c:Cov X.stack hc H B s.heap)(f:∀b o,X.s₀.heap.get? b=some o->∃o',hc.get? b=some o')(u:s.heap.FunFrames B X.stack)
  (fl:pF B X.outer ea (.ref C) r (some dd) j)(x:s.heap.UpToSlots j)(F:H dd=some (atX n))(q:E (.int n tk) (some C) H):CXA X.prog X.w X.outer X.H₀ X.s₀ E (.ref ea) {s with heap:=j}:=by
 have g:=fl.1.1
 have h:=jX D.stk D.fr
 have k:Un X.fs [] X.H₀ H X.s₀.heap s.heap:=by
  have z:=I.base
  rw [D.ex] at z
  exact z
 have l:∀b o,X.s₀.heap.get? b=some o->b≠X.env.locals:=λb o e z=>absurd (η e) (z▸Nat.not_lt.mpr I.ok.above)
 refine ⟨ea,C,dd,n,tk,H,ϱ,I.os,I.bare,k.moved c g x u f (λb d=>?_) (λb o e d=>?_),I.hok.moved c g I.stkFree,⟨B,r,fl,c.moved g I.hok k f λb t d=>?_⟩,F,q⟩
 .exact h▸Θ _ d
 .rw [h] at d
  exact (ϕ.mp d).elim (λz=>absurd z (l b o e)) id
 .rw [h]
  intro z
  rcases ϕ.mp z with z | z
  .subst z
   rcases d with y | ⟨o0,y⟩
   .exact y I.free
   .exact l _ o0 y rfl
  .exact t z
def BL{e:ó}{g:XK}(I:NM X pins σ H s)(h:CXA X.prog X.w X.stack H s g e s'):∃ea C dd n tk H',e=.ref ea/\NM X pins σ H' s'/\Aa X.stack s.heap H' ea C dd s'.heap/\H' dd=some (atX n)/\g (.int n tk) (some C) H':=by
 obtain ⟨ea,C,dd,n,tk,H',rfl,j,d,un,f,fl,k,q⟩:=h
 exact ⟨ea,C,dd,n,tk,H',ϱ,I.call' j un f d (λb z=>absurd z (by simp)),fl,k,q⟩
def D6(D:Ac X E)(r:X.A.frames=some X.stack):b8 (CXA X.prog X.w) X E:=by
 intro pins σ H s e s' I h
 obtain ⟨ea,C,dd,n,tk,H',rfl,g,⟨B,t,fl,c⟩,j,q⟩:=BL I h
 rw [D.xe]
 have d:X.A.frames=some (X.env::X.outer):=by rw [r,D.stk]
 have k:=fl.1.2.2.1
 rw [D.stk] at fl
 refine Bc d D.fr fl λu f l=>?_
 have sub:∀b o,X.s₀.heap.get? b=some o->∃o',s.heap.get? b=some o':=λb o e=>I.base.there b o e (by rw [D.ex];simp)
 exact vL D g c sub k f l j q
def Ep(D:Ac X E)(I:NM X pins σ (upd H ea (sd ea C dd)) s)(hx:H ea=none)(h0:X.s₀.heap.get? ea=none)(x:H dd=some (atX n))(q:E (.int n tk) (some C) H):X.xe (.ref ea) s:=by
 rw [D.xe]
 obtain ⟨t,l⟩:=NS.made I.hok Ny
 have r:NM X pins σ H s:=NM.drop I hx h0
 have g:X.A.frames=some (X.env::X.outer):=by rw [I.ok.frames,D.stk]
 have h:∀d∈X.stack,∀b,d.frame=some b->b∈ea::frs X.stack:=λd z b k=>Θ _ (ĭ.mpr ⟨d,z,k⟩)
 have j:s.heap.FunFrames (PySem.W.hideAll s.heap (ea::frs X.stack)) X.stack:=PySem.W.funFrames_hide I.stack h
 have f:=j
 rw [D.stk] at f
 rw [← D.stk] at f
 refine zf (base:=PySem.W.hideAll s.heap (ea::frs X.stack)) g D.fr (D.stk▸j) l rfl (λb o e=>PySem.W.of_hideAll _ e) (PySem.W.hideAll_none _ Ω) rfl rfl rfl λF fl u=>?_
 refine vL (hc:=X.s₀.heap) D r (λb o e w k=>PySem.W.hideAll_get _ e λz=>?_) (λb o e=>⟨o,e⟩) j fl u x q
 rcases ϕ.mp z with z | z
 .subst z
  rcases k with y | ⟨o0,y⟩
  .exact y hx
  .cases h0▸y
 .exact w z
end
def j0{P:ù}{w:ö}{K:ò}{mg:ď}{base:ñ}{N:Ĉ}{qual:Str}{scope:Scope}{f:ø}{cd:ó}{A:ô}{outer:ą}{s:ú}{H:Hp}{E:XK} :
  Ac (gW (CXA P w) P w K mg base N qual scope f cd A outer s H E) E:=⟨ϱ,ϱ,ϱ,ϱ⟩
section
variable {P:ù}{w:ö}{K:ò}{mg:ď}{base:ñ}
def okA{x e:Str}{st:ð}{f:ø}{o:õ}{N ps:Ĉ}{k:Nat}{sp:Sp}(F:Fun K x e st f o)(S:ag N ps (NE st))(len:∀vs H Q E,sp vs H Q E->vs.length=ps.length)
  (h:∀(g:ó) (A:ô) (d:ą) (s:ú) (H:Hp) (vs:î V) (Q:VK) (E:XK),NU k (A.deeper (envOfC e (NE st) s.heap.objs.size f g))->sp vs H Q E ->
   ∃t,PSs (gW (CXA P w) P w K mg base N e (NE st) f g A d s H E) (NF st) t/\t {nx:=λ_ H'=>Q .non H',rt:=Q} (start N vs) H):NH P w K mg base (CXA P w) (k+1) f o ps sp:=by
 obtain ⟨z,C,kV,q,D,G,g,I,r,rfl,u,j⟩:=F.ex
 exact vU u j S len λA d s H vs Q E y l=>h g A d s H vs Q E y l
def CD{N:Ĉ}{j:Str}{scope:Scope}{f:ø}{o:ó}{A:ô}{d:ą}{s:ú}{H:Hp}{E:XK}:b8 (CXA P w) (gW (CXA P w) P w K mg base N j scope f o A d s H E) E:=by
 intro g σ H1 k e l I h
 exact D6 j0 I.ok.frames g σ H1 k e l I h
end
section
variable {X:Cx}{E:XK}{C fI:ø}{fd:õ}{k:Nat}{x:Str}{p pos cpos:Pos}{e:ï}{t:TA}
def Al(C:ø)(E:XK)(t:TA):TS:=λ_ σ H=>t σ H λvs H1=>∃n,vs=[.int n]/\∀dd tk,H1 dd=none->E (.int n tk) (some C) (upd H1 dd (atX n))
def iV(D:Ac X E)(hc:X.calm=true)(M:MkX X.K C fI)(F:NH X.prog X.w X.K X.mg X.base Za k fI fd vT (qH C))(hb:NT X.K fd vT [])(hr:NU (k+1) X.A)(hg:Gl X x)(hm:X.mg x=some (.ref C))
  (ha:PA X [e] t)(G:(x==("__debug__":Str))=false:=by decide)(l:starEach [e] X.env=(false,eval e X.env)::starEach [] X.env:=by rfl)(J:(backTo cpos (starEach [] X.env)).any (·.1)=false:=by rfl) :
  PS X (.Raise (some (.Call (.Name x p) [e] [] cpos)) none pos) (Al C E t):=by
 intro f s σ H D' I h
 refine sZ (C:=C) (I.ok.hd hc) (ń (cy I hg hm ?_ G))
 refine Ń (h₀:=X.base) I.ok.mod.kin M.kp (Zg (ha cpos f s σ H _ I h) λus s1 ⟨vs,H1,o,r,n,ev,q⟩=>⟨o.kIn,?_⟩) l J
 subst ev
 obtain ⟨u,rfl,O⟩:=cJ r
 refine ww M F hb hr D.ex o O λL y s' e0 h1 h2 h3 z=>?_
 obtain ⟨P,N,nm,Q,bs,d,U,sub,Y,g,j,k0,k1,k2,k3,Z,mN,hC,hN,hi,T⟩:=yt z.kIn M.own
 obtain ⟨t,l⟩:=NS.made z.hok Ny
 have hx:upd H1 y (atX n) L=none:=by rw [am (Ne.symm h3)];exact h1
 exact ⟨L,t,some y,P,N,nm,Q,bs,d,U,sub,Y,g,j,k0,k1,k2,k3,Z,_,ϱ,hC,T.hasType θ,l,Ep D z hx (oz o D.ex e0).2.1 Ny (q y 0 h2)⟩
end
def r8(X:Cx)(C CB:ø)(b:Bool):Prop:=∀(A:ô) (s:ú) (ea:ø) (ob:Obj) (Q:Bool->ú->Prop) (E:Đ),X.K.In s.heap->s.heap.get? ea=some ob->ob.cls=.ref C->Q b s->wpAny (model X.prog X.w) A (excMatches (.ref ea) (.ref CB)) Q E s
section
variable {X:Cx}{C CB:ø}{b:Bool}
def yZ{A:ô}{s:ú}{o:ø}{r:Obj}{Q:Bool->ú->Prop}{E:Đ}{nm x:Str}{N:ø}{bs k:Ċ}{hdct:Bool}{sn:Ĉ}{sub:Ċ}{ab:Bool}{col:Option Bool}{dd:Option ø}{k0 k1 k2 k3 k5:ý}{new:String}
  (l:X.K.In s.heap)(u:s.heap.get? CB=some (excClassObj nm x CB N bs k hdct sn sub ab col dd k0 k1 k2 k3 k5 new))(y:k.contains (.type "BaseException")=true)(z:s.heap.get? o=some r)(e:r.cls=.ref C)
  (D:PySem.W.mroIn X.K C (.ref CB)=some b)(q:Q b s):wpAny (model X.prog X.w) A (excMatches (.ref o) (.ref CB)) Q E s:=by
 obtain ⟨h,g,d,t,F⟩:=s
 have j:(Value.ref CB::k).contains (.type "BaseException")=true:=by rw [List.contains_cons,y,Bool.or_true]
 have f:=tc_notTuple
 have G:=PySem.W.looks_mroIn (M:=model X.prog X.w) l D
 unfold excMatches
 repeat (first | (with_reducible refine ľ z ?_;rw [e]) | with_reducible refine ľ u ?_ | (with_reducible refine wpAny_isSubtype_exc u ?_;rw [j]) | (with_reducible refine PySem.W.Looks.at (by assumption) ?_) | wp_step)
 cases b
 .repeat (first | exact q | wp_step)
 .repeat (first | exact q | wp_step)
def A8{o:ø}{new:String}(q:tj X.K CB o new=true)(r:PySem.W.mroIn X.K C (.ref CB)=some b):r8 X C CB b:=by
 intro A s F G Q E d k e l
 obtain ⟨t,N,nm,u,bs,f,w,sub,x,g,h,k0,k1,k2,k3,y,z,j,hN,D,T⟩:=yt d q
 exact yZ d j (T.hasType θ) k e r l
def yY{x:Str}{new:String}(o:X.mg x=some (.ref CB))(q:PySem.W.excIn X.K CB bmX new=true)(r:PySem.W.mroIn X.K C (.ref CB)=some b):r8 X C CB b:=by
 intro A s G H Q E d k e l
 obtain ⟨t,N,nm,u,bs,f,w,sub,y,g,z,k0,k1,k2,k3,D,F,h,hN,j,T⟩:=(ut d o q).obj
 exact yZ d h (T.hasType θ) k e r l
end
structure AtH(X:Cx)(pins:đ)(σ:St)(H:Hp)(ea C dd:ø)(s:ú):Prop where
 inv:NM X pins σ H s
 new:H ea=none
 old:X.s₀.heap.get? ea=none
 nl:ea≠X.env.locals
 nc:∀y c,X.env.cells.lookup y=some c->c≠ea
 np:∀p∈X.pn++pins,p.1≠ea
 fly:∃B a0,pF B (X.env::X.outer) ea (.ref C) a0 (some dd) s.heap/\∀h',B.StaysIn h'->s.heap.UpToSlots h'->NM X pins σ H {s with heap:=h'}
section
variable {X:Cx}{pins:đ}{σ:St}{H H1:Hp}{s s1:ú}{ea C CB dd:ø}{D:Ends}{E:Đ}
def Dn{Y:î ExceptHandler}{Q:Flow->ú->Prop}(G:NM X pins σ H1 s1)(I:NM X pins σ H s)(d:X.stack=X.env::X.outer)(fr:X.env.frame=some X.env.locals)(f:X.ex=[])(J:Aa X.stack s1.heap H ea C dd s.heap)
  (k:∀h5,AtH X pins σ H ea C dd {s with heap:=h5}->wpAny (model X.prog X.w) X.A (handleBy (.ref ea) X.env Y) Q E {s with heap:=h5}) :
  wpAny (model X.prog X.w) X.A (noteFrame (.ref ea) X.env) (λ_ s₂=>wpAny (model X.prog X.w) X.A (setFlight (.ref ea) none) (λ_ s₃=>wpAny (model X.prog X.w) X.A (handleBy (.ref ea) X.env Y) Q E s₃) E s₂) E s:=by
 obtain ⟨B,Z,fl,c⟩:=J
 have o:X.A.frames=some (X.env::X.outer):=by rw [I.ok.frames,d]
 have q:=fl.1.2.2.1
 have h:=fl
 rw [d] at h
 obtain ⟨K,ws,e,L,g,O⟩:=fl.1.first
 have j:ea∉frs X.stack:=λz=>by
  obtain ⟨_,o',P,d'⟩:=q.mem (show ea∈X.stack.filterMap (·.frame) from z)
  rw [e] at P
  cases P
  exact d' ws g
 have U:=fl.1.2.1
 have r:s1.heap.get? ea=none:=by
  cases z:s1.heap.get? ea with
  | none=>rfl
  | some u =>
   have y:=c ea K e j (.inr ⟨u,z⟩)
   cases U▸y
 have t:H ea=none:=by
  cases z:H ea with
  | none=>rfl
  | some u =>
   have y:=c ea K e j (.inl (by rw [z];intro y;cases y))
   cases U▸y
 obtain ⟨_,o2,o3,o4,o5⟩:=oz G f r
 refine zc o fr h λh4 held x=>uJ held λh5 l D=>?_
 have W:=x.trans D
 exact k h5 ⟨NM.moved G I d fr f c l.1.1 W q,t,o2,o3,o4,o5,B,Z,l,λh' st F=>NM.moved (s:=s) G I d fr f c st (W.trans F) q⟩
def AtH.there(a:AtH X pins σ H ea C dd s):∃ob,s.heap.get? ea=some ob/\ob.cls=.ref C:=by
 obtain ⟨B,d,fl,_⟩:=a.fly
 exact fl.1.there
variable {cx n:Str}{np hpos:Pos}{nm:Option Str}{body:î ð}{rest:î ExceptHandler}{b₀:ð}{suite:î ð}{th:TS}{i:Nat}
def Fl(a:AtH X pins σ H ea C dd s)(hg:Gl X cx)(hm:X.mg cx=some (.ref CB))(mt:r8 X C CB true)(hd:(cx==("__debug__":Str))=false)(hs:∀ev,PSs (X.hnd ev) (b₀::suite) th)(hN:X.N.Nodup)(y:X.N[i]?=some n)(k:X.env.scope.names.lookup n=some .local)
  (q:th (D.gone i) (σ.set i (some (.ref ea))) (upd H ea (uW ea C dd))):wpAny (model X.prog X.w) X.A (handleBy (.ref ea) X.env (.ExceptHandler (some (.Name cx np)) (some n) (b₀::suite) hpos::rest)) (SP X pins D) E s:=by
 obtain ⟨P,Q,U⟩:=a.there
 obtain ⟨B,a0,fl,Y⟩:=a.fly
 refine wpAny_handleBy_cons (codeAny_handlers_test (cy (X:=X.hnd (.ref ea)) (a.inv.hnd (.ref ea)) hg hm ?_ hd)) (by intro z;cases z)
 refine mt _ _ ea P _ _ a.inv.kIn Q U (codeAny_handlers_suite_as ?_)
 refine Dr fl λh6 h J=>?_
 have I6:=Y h6 h.1.1 J
 obtain ⟨Z,ws,l,o,t,L⟩:=h.1.first
 obtain ⟨o2,O,G⟩:=h.2
 rw [l] at O
 cases O
 have u:PySem.W.notCls Z=true:=by
  unfold PySem.W.notCls
  rw [t]
 have I7:=NM.track I6 a.new (λd=>A1 (H:=d) l o G u) a.old a.nl a.nc a.np
 refine jz I7 hN y (.inl k) (v:=.ref ea) rfl (λs7 I8=>?_) (.inr k)
 refine Ŭ (hs (.ref ea) pins _ _ _ (D.gone i) (I8.hnd _) q) (λf s8 h8=>?_) λ_ _ z=>z.elim
 have F:=SP.unhnd a.inv.ok h8
 cases f with
 | next=>obtain ⟨I,d,e,g⟩:=F;exact mU e hN y k λK j=>⟨_,d,j,g⟩
 | brk=>obtain ⟨I,d,e,g⟩:=F;exact mU e hN y k λK j=>⟨_,d,j,g⟩
 | cont=>obtain ⟨I,d,e,g⟩:=F;exact mU e hN y k λK j=>⟨_,d,j,g⟩
 | ret v=>obtain ⟨x,I,d,e,r,g⟩:=F;exact mU e hN y k λK j=>⟨x,_,d,j,r,g⟩
end
def XPA(X:Cx)(pins:đ)(σ:St)(E:XK)(ev:ó)(s':ú):Prop:=∃s1 H1 ea C dd n tk H',NM X pins σ H1 s1/\ev=.ref ea/\NM X pins σ H' s'/\Aa X.stack s1.heap H' ea C dd s'.heap/\H' dd=some (atX n)/\E (.int n tk) (some C) H'
def EU(X:Cx)(e:ï)(t:TX):Prop :=
 ∀(pins:đ) (s:ú) (σ:St) (H:Hp) (Q:VK) (E:XK),NM X pins σ H s->t σ H Q E->wpAny (model X.prog X.w) X.A (eval e X.env) (EP X pins σ Q) (XPA X pins σ E) s
section
variable {X:Cx}{k:Nat}{f C:ø}{fd:õ}{ps:Ĉ}{sp:Sp}{x:Str}{p pos:Pos}{e:ï}{es:Ą}{t:TA}
def pP(F:NH X.prog X.w X.K X.mg X.base (CXA X.prog X.w) k f fd ps sp)(hr:NU k X.A)(hg:Gl X x)(hm:X.mg x=some (.ref f))(hk:PySem.W.keepIn X.K (.ref f)=true)(hb:NT X.K fd ps [])
  (ha:PA X.nox (e::es) t)(y:(x==("__debug__":Str))=false:=by decide)(he:starEach (e::es) X.env=(false,eval e X.env)::starEach es X.env:=by rfl)(z:(backTo pos (starEach es X.env)).any (·.1)=false:=by rfl) :
  EU X (.Call (.Name x p) (e::es) [] pos) (Dx sp [] t):=by
 intro l s σ H Q E I h
 refine ń (cy I hg hm ?_ y)
 refine Ń (h₀:=X.base) I.ok.mod.kin hk (nox (ha pos l s σ H _ (I.wish _) h) λg o ⟨vs,H1,G,r,q⟩=>⟨G.unwish.kIn,?_⟩) he z
 have d:=G.unwish
 have D:NQ (vs++[]) (g++[]):=r.append .nil
 have hl:(g++([]:Ċ)).length=ps.length:=by rw [← D.length];exact F.len _ _ _ _ q
 refine ī (Ł (F.run X.A X.stack o H1 ⟨g,[]⟩ (g++[]) (vs++[]) Q E hr d.env0 (hb o g d.kIn hl) D q) λrr s' j=>?_)
 cases rr with
 | error e =>
  obtain ⟨J,C,L,n,O,P,U,Y,fl,Z,q⟩:=BL d j
  exact ⟨o,H1,J,C,L,n,O,P,d,U,Y,fl,Z,q⟩
 | ok fl =>
  cases fl with
  | ret u=>exact d.after j
  | next=>exact False.elim j
  | brk=>exact False.elim j
  | cont=>exact False.elim j
end
section
variable {X:Cx}{e:ï}{t:TX}{c1 c2 y n:Str}{np np2 hpos hpos2 pos py apos epos:Pos}{b₁ b₂ o₀:ð}{s₁ s₂ os:î ð}{th th2 to:TS}{i j:Nat}{B1 B2:ø}
def xAt(i:Nat)(th:TS)(n:Int)(C:ø)(D:Ends)(σ:St)(H:Hp):Prop:=∀ea dd,H ea=none->H dd=some (atX n)->th (D.gone i) (σ.set i (some (.ref ea))) (upd H ea (uW ea C dd))
def DB(X:Cx)(i:Nat)(B1:ø)(t:TX)(th:TS):TS:=λD σ H=>t σ H (λv H1=>D.nx σ H1) λev c H1=>∃m tk C,ev=.int m tk/\c=some C/\r8 X C B1 true/\xAt i th m C D σ H1
def vm(l:X.stack=X.env::X.outer)(fr:X.env.frame=some X.env.locals)(o:X.ex=[])(hN:X.N.Nodup)(Z:X.N[i]?=some n)(hk:X.env.scope.names.lookup n=some .local)
  (he:EU X e t)(r:Gl X c1)(u:X.mg c1=some (.ref B1))(hs:∀ev,PSs (X.hnd ev) (b₁::s₁) th)(w:(c1==("__debug__":Str))=false:=by decide)(x:swapsWith e none epos.line X.env=pure false:=by rfl) :
  PS X (.Try [.Expr e epos] [.ExceptHandler (some (.Name c1 np)) (some n) (b₁::s₁) hpos] [] [] pos) (DB X i B1 t th):=by
 intro d s σ H D I h
 refine wpAny_Try_except (wpAny_execs_cons (Ŭ (wpAny_Expr_any (Q:=λf g=>f=.next/\SP X d D .next g) (Ŭ (he d s σ H _ _ I h) (λv g ⟨y1,H1,W,r1,q1⟩=>?_) λev g Y=>?_) I.quiet x) (λf g k=>?_) λ_ _ z=>z))
 .exact ⟨ϱ,_,H1,W,q1⟩
 .obtain ⟨s0,H0,y,F,G,m0,J,H',K,rfl,L,fl,j,m,tk,C,O,P,U,q⟩:=Y
  obtain rfl:F=C:=Δ P
  cases O
  exact Dn K L l fr o fl λh5 a=>Fl a r u U w hs hN Z hk (q y G a.new j)
 .obtain ⟨rfl,k⟩:=k
  exact Ŏ (Ŏ k)
end
end L2.XA
namespace St
open PySem PySem.Spec PyProof.Rows L2 Lo Km PySem.NumText
def oM:Wd->ć->Int
 | .sum,[_,_,b]=>b
 | _,_::c::_=>c
 | _,_=>0
def be(sz:ć)(x:Zc):Bool:=match hvI (aI x.1 x.2) with
 | none=>true
 | some h=>decide (h<(sz.length:Nat))&&decide (oM x.1 x.2<(sz[h.toNat]?).getD 0)
def gZ(sz:ć)(xs:î Zc)(k:Nat):Prop:=∀j,j<k->∀x,xs[j]?=some x->be sz x=true
def gH(xs:î Zc)(k:Nat):Prop:=∀j,bO xs<j->j<k->∀x,xs[j]?=some x->x.1≠.need
inductive Due (b:Bool) (sz:ć) (xs:î Zc):Option (Bool×Nat)->Prop
 | place {k:Nat} {x:Zc}:xs[k]?=some x->be sz x=false->gZ sz xs k->Due b sz xs (some (true,k))
 | way {k:Nat} {x:Zc}:gZ sz xs xs.length->b=true->bO xs<k->xs[k]?=some x->x.1=.need->gH xs k->Due b sz xs (some (false,k))
 | calm:gZ sz xs xs.length->(b=true->gH xs xs.length)->Due b sz xs none
def Sz(H:Hp)(q:ø)(sz:ć):Prop:=H q=some (.lst (sz.map V.int))
def sW{x:Zc}(h:Ar x.1 x.2):(aI x.1 x.2=.non/\vJ x.1 x.2=none)\/∃i,aI x.1 x.2=.int i/\0<=i/\∃k f,vJ x.1 x.2=some (k,f,oM x.1 x.2):=by
 obtain ⟨wd,g⟩:=x
 cases wd with
 | take=>obtain ⟨a,b,e,h1,_⟩:=Ar.c (w:=.take) rfl h;have d:g=[a,b]:=e;subst d;exact .inr ⟨a,rfl,h1.1,_,_,rfl⟩
 | mean=>obtain ⟨a,b,e,h1,_⟩:=Ar.c (w:=.mean) rfl h;have d:g=[a,b]:=e;subst d;exact .inr ⟨a,rfl,h1.1,_,_,rfl⟩
 | give=>obtain ⟨a,b,e,h1,_⟩:=Ar.c (w:=.give) rfl h;have d:g=[a,b]:=e;subst d;exact .inr ⟨a,rfl,h1.1,_,_,rfl⟩
 | sum=>obtain ⟨a,b,c,e,h1,_⟩:=Ar.s h;have d:g=[a,b,c]:=e;subst d;exact .inr ⟨a,rfl,h1.1,_,_,rfl⟩
 | add=>obtain ⟨a,b,c,e,h1,_⟩:=Ar.a h;have d:g=[a,b,c]:=e;subst d;exact .inr ⟨a,rfl,h1.1,_,_,rfl⟩
 | plus=>exact .inl ⟨rfl,rfl⟩
 | need=>exact .inl ⟨rfl,rfl⟩
section
variable (CP:ø)(CW:Wd->ø)
inductive qJ (vs:î V) (H:Hp) (Q:VK) (E:XK):Prop|mk v q x sz:vs=[v,.ref q]->Ar x.1 x.2->StO CW H x.1 x.2 v->Sz H q sz->(∀H',NI H H'->Q (.bl (be sz x)) H')->qJ vs H Q E
inductive vc (CB:ø) (vs:î V) (H:Hp) (Q:VK) (E:XK):Prop|mk v b xs:vs=[v]->PaO CP CW H (mS b) xs v->xs.length<=20->((gH xs xs.length->∀H',NI H H'->Q .non H'))->(∀k x H' tk,bO xs<k->xs[k]?=some x->x.1=.need->gH xs k->NI H H'->E (.int (k:Nat) tk) (some CB) H')->vc CB vs H Q E
inductive qN (CA CB:ø) (vs:î V) (H:Hp) (Q:VK) (E:XK):Prop|mk v q b xs sz:vs=[v,.ref q]->PaO CP CW H (mS b) xs v->ArS xs->xs.length<=20->Sz H q sz->((Due b sz xs none->∀H',NI H H'->Q .non H'))->(∀p k H' tk,Due b sz xs (some (p,k))->NI H H'->E (.int (k:Nat) tk) (some (if p then CA else CB)) H')->qN CA CB vs H Q E
end
def pd(sz:ć):Prop:=1<=sz.length/\sz.length<=5/\∀m∈sz,1<=m/\m<=8
end St
namespace L2
open PySem
variable {prog:ù}{w:ö}{A:ô}{E:Đ}{s:ú}
section
variable {κ:Type} [DecidableEq κ] {knd:HeapKind prog w κ}{d a:ø}
def i4{xs:î (κ×Addr×ó)}{k:κ}{v:ó}{Q:Đ}(D:knd.room A)(f:knd.is s.heap k a)(J:s.heap.DictOfH knd d xs)
  (h1:∀p,atKey xs k=some p->Q p.2 {s with toks:=s.toks+knd.draws k})
  (K:atKey xs k=none->∀h',h'.DictOfH knd d (xs++[(k,a,v)])->Heap.SameBut d s.heap h'->Q v {s with heap:=h',toks:=s.toks+knd.draws k})(hsz:xs.length<=sizeLine) :
  wpAny (model prog w) A (dictSetDefault d (.ref a) v) Q E s:=by
 obtain ⟨o,L,F,h,G,g,r,l,t⟩:=J
 unfold dictSetDefault
 try with_reducible refine ŗ ?_
 refine ε (knd.pyHash D f ?_)
 refine ε (wpAny_dictFind_heap (s:={s with toks:=s.toks+knd.draws k}) D f h g r l t (λq=>?_) (λj p C=>?_))
 .have e0:=atKey_none_of_get q
  have H:k∉xs.map (·.1):=not_mem_keys_of_get q
  refine ε (wpAny_rule (ε (wpAny_updateDictKeys (hz:=by have e:=size_of_entries r;lia) (s:={s with toks:=s.toks+knd.draws k}) h g (π (K e0 _ ⟨_,_,F+1,Ķ _ h (Obj.isFreed_of_dict (Obj.data_mapDictKeys g _)),
   G.mapDictKeys _,Obj.data_mapDictKeys g _,?_,λx hx=>?_,?_⟩ (Heap.SameBut.update ..))))))
  .simp [r,entryOfKey]
  .rcases ź.mp hx with hx | hx
   .exact knd.keeps (l x hx) h g (Heap.SameBut.update ..)
   .have u:=ϵ.mp hx
    subst u
    exact knd.keeps f h g (Heap.SameBut.update ..)
  .rw [ż,ĝ]
   refine ⟨t,by simp,λx hx y I u=>?_⟩
   have z:y=k:=by simpa using I
   exact H (z▸u▸hx)
 .refine ε (wpAny_dictEntries (s:={s with toks:=s.toks+knd.draws k}) h g ?_)
  rw [entry_at r j,C]
  exact ε (wpAny_rule (π (h1 p (atKey_of_get t C))))
def jR(knd:HeapKind prog w κ)(d a:ø)(hd:(d==sysModules)=false)(v:ó) :
  MeetsIn prog w (Builtin.«dict.setdefault» ⟨[.ref d, .ref a, v], []⟩) (fun A R s => knd.room A.in1 ∧ ∃ k xs, knd.is s.heap k a ∧ s.heap.DictOfH knd d xs ∧ xs.length ≤ sizeLine ∧
   (∀p,atKey xs k=some p->R (.ok (.ret p.2)) {s with toks:=s.toks+knd.draws k}) /\
   (atKey xs k=none->∀h',h'.DictOfH knd d (xs++[(k,a,v)])->Heap.SameBut d s.heap h'->R (.ok (.ret v)) {s with heap:=h',toks:=s.toks+knd.draws k})) :=
 .of_wp λA R s ⟨hu,k,xs,hkey,hm,hz,h1,h2⟩=>by
  unfold Builtin.«dict.setdefault»
  refine ε ?_
  unfold Builtin.Dict.keyAndDefault
  refine ε (wpAny_notOrdered_dict hm.typeIs ?_)
  show wpAny _ _ (pure (d,Value.ref a,some v)) _ _ s
  refine π ?_
  show wpAny _ _ (if (d==sysModules)=true then _ else (dictSetDefault d (.ref a) v >>= λ_=>_)) _ _ s
  have hne:¬((d==sysModules)=true):=by rw [hd];decide
  rw [ŵ hne]
  exact ε (i4 hu hkey hm (λp hp=>π ⟨_,ϱ,h1 p hp⟩) (λe0 h' hm' hs'=>π ⟨_,ϱ,h2 e0 h' hm' hs'⟩) hz)
end
end L2
namespace L2
open PySem PySem.Spec PyProof.Rows
def DO(td ty tx:TE):TE:=fun σ H Q=>td σ H λx H1=>∃a,x=.ref a/\IsD H1 a/\ty σ H1 λy H2=>tx σ H2 λz H3=>∃kvs k b,H3 a=some (.dT kvs)/\y=.ref b/\H3 b=some (.tup (k.map kV))/\kvs.length<sizeLine /\
 (∀v,jf kvs k=some v->Q v H3)/\(jf kvs k=none->Q z (upd H3 a (.dT (kvs++[(k,z)]))))
section
variable {X:Cx}{o e f i value:ï}{apos cpos pos pos':Pos}{td ty tx tv:TE}
def AG(hu:X.A.units+1<cLine)(ho:PE X o td)(he:PE X e ty)(hf:PE X f tx)(m:M2 X o "setdefault" apos e f cpos):PE X (.Call (.Attribute o "setdefault" apos) [e,f] [] cpos) (DO td ty tx):=by
 intro g s σ H Q I h
 refine wpAny_Call_method m.base m.few m.line PySem.F.plainAttrs_dict PySem.F.slot_dict_setdefault PySem.F.type_dict_setdefault (Zg (ho g s σ H _ I h) λu s1 ⟨x,H1,U,rx,a,ex,d,q1⟩=>?_)
 subst ex
 obtain rfl:u=Value.ref a:=rx
 obtain ⟨t1,t2,_⟩:=Dg U d
 refine ⟨t1,t2,?_⟩
 rw [m.trees]
 refine ĩ rfl (Ě (ō (Zg (he g s1 σ H1 _ U q1) λiv s2 ⟨y,H2,I2,ry,q2⟩ =>
  ō (Zg (hf g s2 σ H2 _ I2 q2) λW s3 ⟨z,Y,D,Z,t,k,b,J,ey,eb,hl,q3,q4⟩=>Calls.spliced_nil ?_))))
 subst ey
 obtain rfl:iv=Value.ref b:=ry
 obtain ⟨hz,L,xs,j,O⟩:=EJ D.hok J
 have G:xs.length<=sizeLine:=by rw [← Paired.length j];exact hz
 refine call_meetsIn PySem.F.slot_dict_setdefault O.typeIs PySem.F.entry_dict_setdefault (PySem.F.args_dict_setdefault_3 _ _ _) (jR (tupleKind (ci X.prog X.w)) a b L W) ⟨tupleKind_room_in1 hu,k,xs,zm D.hok eb,O,G,λp hp=>?_,λhn h' K hs=>?_⟩
 .have r:=j.val k
  rw [hp] at r
  cases l:jf t k with
  | none=>rw [l] at r;exact (show False from r).elim
  | some v =>
   rw [l] at r
   exact ⟨v,Y,D.tok _,r,q3 v l⟩
 .have r:=j.val k
  rw [hn] at r
  have l:jf t k=none:=by
   cases l:jf t k with
   | none=>rfl
   | some v=>rw [l] at r;exact (show False from r).elim
  refine ⟨z,_,?_,Z,q4 l⟩
  obtain ⟨q,es,ep,P,h2,h3,h4,_,h5⟩:=K
  have C:KT Y (t++[(k,z)]) (xs++[(k,b,W)]):=Paired.snoc j ⟨ϱ,eb,Z⟩
  refine Bm D (J▸ϰ) hs ⟨q,P⟩ ⟨by rw [Ž];exact hl,L,_,C.keeps λc ys ec=>?_,q,es,ep,P,h2,h3,h4,h5⟩
  exact am (vD ec J (λz=>nomatch z))▸ec
end
section
variable {X:Cx}
def yu(r:X.A.units<cLine):OpR X (compareOp .NotEq) (λx y H Q=>∃a b us,x=.ref a/\y=.ref b/\NO X.K H a us/\NO X.K H b []/\Q (.bl (!decide (us=[]))) H):=by
 intro o s σ H x y v u Q I F G h
 obtain ⟨a,b,us,rfl,rfl,t,C,q⟩:=h
 cases F
 cases G
 obtain ⟨f,g,k,_⟩:=I.list t
 obtain ⟨J,D,l,_⟩:=I.list C
 cases D
 have l1:=g.length
 by_cases e:us=[]
 .subst e
  cases g
  have z:=SeqAt.RcNeAt.lists (A:=X.A) (s:=s) (e:=λ_=>true) k.isList l.isList rfl r (λj h1 L=>by cases h1)
  rw [τ rfl] at q
  exact z X.prog X.w X.xe _ ⟨.bl false,H,I,ϱ,q⟩
 .have d:(f.toArray.size != ([]:Ċ).toArray.size)=true:=by
   have:f.length≠0:=λz=>e (Ľ.mp (l1▸z))
   simpa using this
  rw [Γ e] at q
  exact SeqAt.RcNeAt.lists_lengths k.isList l.isList d r X.prog X.w X.xe _ ⟨.bl true,H,I,ϱ,q⟩
end
end L2
namespace Lo
open PySem L2
def Dh{k:Nat}{A:ô}(hr:NU k A):A.units+1<cLine:=hun (c:=0) hr
end Lo
namespace L2
open PySem PySem.Spec PyProof.Rows
open PySem.W
section
variable {prog:ù}{w:ö}{A:ô}{E:Đ}{s:ú}
instance:Inhabited ((Int×Int)×Str):=⟨((0,0),Str.empty)⟩
end
end L2
namespace Lo
open PySem L2
end Lo
namespace L2
open PySem PySem.Spec PyProof.Rows PySem.W
open Lo
open Tb
end L2
namespace L2
open PySem PySem.Spec PyProof.Rows
section
variable {X:Cx}
def sH(r:X.A.units<cLine):OpR X (compareOp .Eq) (λx y H Q=>∃a b us,x=.ref a/\y=.ref b/\NO X.K H a us/\NO X.K H b []/\Q (.bl (decide (us=[]))) H):=by
 intro o s σ H x y v u Q I F G h
 obtain ⟨a,b,us,rfl,rfl,t,C,q⟩:=h
 cases F
 cases G
 obtain ⟨f,g,k,_⟩:=I.list t
 obtain ⟨J,D,l,_⟩:=I.list C
 cases D
 have l1:=g.length
 by_cases e:us=[]
 .subst e
  cases g
  have z:=PySem.SeqAt.RcAt.lists (A:=X.A) (s:=s) (e:=λ_=>true) k.isList l.isList rfl r (λj h1 L=>by cases h1)
  rw [τ rfl] at q
  exact z X.prog X.w X.xe _ ⟨.bl true,H,I,ϱ,q⟩
 .have d:(f.toArray.size != ([]:Ċ).toArray.size)=true:=by
   have:f.length≠0:=λz=>e (Ľ.mp (l1▸z))
   simpa using this
  rw [Γ e] at q
  exact PySem.SeqAt.RcAt.lists_lengths k.isList l.isList d r X.prog X.w X.xe _ ⟨.bl false,H,I,ϱ,q⟩
end
end L2
namespace Lo
open PySem L2
end Lo
namespace L2
open PySem PySem.Spec PyProof.Rows Lo
end L2
namespace L2
open PySem PySem.Spec PyProof.Rows
def Bg{K:ò}{H:Hp}{a:ø}(n:Nat):EqIs K n H (.ref a) (.ref a) true:=λP w A s u v hA hok kin r1 r2=>by
 cases r1
 cases r2
 exact SeqAt.EqAt.same _
def eq_int{K:ò}{H:Hp}(n:Nat)(i:Int):EqIs K n H (.int i) (.int i) true:=by
 have z:=(cInt.eq (K:=K) (H:=H) (x:=i) (y:=i) rfl rfl).mono (ϖ n)
 rwa [τ rfl] at z
open PySem.W Lo
def BB(mg:ď)(h:ñ):Prop:=∃bm ob,mg "__builtins__"=some (.ref bm)/\bm≠builtinsNs/\h.get? bm=some ob/\ob.cls=.type "module"/\ob.dict=some builtinsNs/\ob.data=.plain
def iR(c:ø)(q:Str):HO:=.ext λh=>∃o vs t,h.get? c=some o/\o.data=.fields vs/\vs[1]?=some (.str q t)
def pi(p:Pos)(c:ø):û:=#[]++#[rawInt p.line,rawInt p.col,.ref c]
def xq(p:Pos)(c:ø):(pi p c).toList=[rawInt p.line,rawInt p.col,.ref c]:=by simp [pi]
def xr(p:Pos)(c:ø):codeAmong p (pi p c).toList=some (.ref c):=by
 rw [xq]
 simp [codeAmong,rawInt]
def Aj(p:Pos)(c:ø):TriplesOk (pi p c).toList:=by
 rw [xq]
 exact trivial
def Tb(H:Hp)(P:ø)(p:Pos)(q:Str):Prop:=H P=some (.tbl #[])\/∃c,H P=some (.tbl (pi p c))/\H c=some (iR c q)
def noT:HO->Prop
 | .tbl _=>False
 | _=>True
def Tb.keep{H H':Hp}{P:ø}{p:Pos}{q:Str}(e:NI H H')(h:Tb H P p q):Tb H' P p q:=h.elim (λz=>.inl (e _ _ z)) λ⟨c,z,y⟩=>.inr ⟨c,e _ _ z,e _ _ y⟩
def zN{Pg:ù}{w:ö}{H:Hp}{h:ñ}{c:ø}{q:Str}{o:Obj}{vs:û}{t:Tok}(e:h.get? c=some o)(d:o.data=.fields vs)(v:vs[1]?=some (.str q t)) :
  NR Pg w H h c (iR c q):=⟨⟨o,vs,t,e,d,v⟩,⟨_,e⟩,λ_ _ ⟨o,vs,t,e,r⟩ k=>⟨o,vs,t,k _ e,r⟩⟩
end L2
namespace HT
open PySem PyProof.Rows
section
open PySem.SeqAt
open PySem.AutoSeq1 (wpAny_loadPart')
open PySem.MeetsSeq PySem.MeetsSeq2 PySem.MeetsSeq3
end
end HT
namespace L2
open PySem PySem.Spec PyProof.Rows PySem.W Lo
theorem vW{h B f:ñ}:∀{l:ą},h.FunFrames B l->(∀b∈frs l,f.get? b=none)->h.FunFrames f l
 | [],_,_=>trivial
 | env::r,⟨k,⟨L,o,fr,_,e,d⟩,t⟩,n=>by
  have m:frs (env::r)=L::frs r:=by
   show List.filterMap _ (env::r)=_
   rw [List.filterMap_cons,fr]
   rfl
  rw [m] at n
  exact ⟨k,⟨L,o,fr,n L Ω,e,d⟩,vW t λb g=>n b (Θ _ g)⟩
def kh(l:ą)(H:Hp)(h:ñ):ñ:=hideAll h (trk h H++frs l)
def lD{l:ą}{H:Hp}{h:ñ}{b:ø}{o:Obj}(e:h.get? b=some o)(n:H b=none)(nf:b∉frs l):(kh l H h).get? b=some o:=hideAll_get _ e λhm=>by
 rcases ź.mp hm with z | z
 .have q:(H b).isSome=true:=(List.mem_filter.mp z).2
  rw [n] at q
  simp at q
 .exact nf z
def oy{l:ą}{H:Hp}{h:ñ}{b:ø}{o:Obj}(e:(kh l H h).get? b=some o):h.get? b=some o/\H b=none/\b∉frs l:=by
 have d:h.get? b=some o:=of_hideAll _ e
 refine ⟨d,?_,λz=>?_⟩
 .cases q:H b with
  | none=>rfl
  | some x =>
   have f:b∈trk h H++frs l:=List.mem_append_left _ (List.mem_filter.mpr ⟨List.mem_range.mpr (Heap.lt_size d),by simp [q]⟩)
   have z:(kh l H h).get? b=none:=hideAll_none _ f
   rw [z] at e
   cases e
 .have z:(kh l H h).get? b=none:=hideAll_none _ (Ψ _ z)
  rw [z] at e
  cases e
def Bs(pp:đ)(cs:î (Addr×V))(h:ñ):Prop:=(∀p∈pp,h.get? p.1=some p.2)/\∀c∈cs,∃u,NP c.2 u/\h.IsCell c.1 (some u)
def uX(X:Cx)(cs:î (Addr×V))(σ:St):Prop:=∀c∈cs,∃(i:Nat) (x:Str),X.N[i]?=some x/\σ[i]?=some (some c.2)/\X.env.kindOf x=some .cell/\X.env.cells.lookup x=some c.1/\X.fn x=true
section
variable {X:Cx}{pins:đ}{σ:St}{H:Hp}{s:ú}
def NM.nfr2(I:NM X pins σ H s){b:ø}{o:Obj}(e:X.base.get? b=some o):b∉frs X.stack:=λz=>by
 rcases ϕ.mp (I.stkSub b z) with z | z
 .have:=η (I.ok.bs b o e).1
  rw [z] at this
  exact absurd this (Nat.not_lt.mpr I.ok.above)
 .exact I.ok.nofr e z
def NM.baseK(I:NM X pins σ H s):∀b o,X.base.get? b=some o->(kh X.stack H s.heap).get? b=some o:=λb o e=>lD (I.bs b o e).1 (I.bs b o e).2 (I.nfr2 e)
def NM.modB(I:NM X pins σ H s):Mod X.K X.mg (kh X.stack H s.heap):=by
 obtain ⟨k1,k2,⟨e,k3,f⟩,g⟩:=I.ok.mod
 have d:=I.baseK
 exact ⟨k1.keeps d,k2.keeps d,⟨e,k3.keeps d,f⟩,g.keeps d⟩
def NM.env0B(I:NM X pins σ H s):Env0 X.prog X.w X.K X.mg (kh X.stack H s.heap) X.A X.stack s H:=by
 refine ⟨I.ok.frames,I.modB,λb o e=>⟨(oy e).1,(oy e).2.1⟩,Nat.le_of_eq (hideAll_size _ _),vW I.stack λb d=>?_,I.stkFree,I.hok,I.bare⟩
 cases z:(kh X.stack H s.heap).get? b with
 | none=>rfl
 | some o=>exact absurd d (oy z).2.2
def NM.pinB{pp:đ}{cs:î (Addr×V)}(I:NM X pins σ H s)(y:∀p∈pp,p∈X.pn)(hc:uX X cs σ):Bs pp cs (kh X.stack H s.heap):=by
 refine ⟨λp g=>?_,λc g=>?_⟩
 .obtain ⟨e,n,j,k,_⟩:=I.pin p (Ō _ (y p g))
  exact lD e n λz=>(ϕ.mp (I.stkSub _ z)).elim j k
 .obtain ⟨i,x,h1,l,h,d,q⟩:=hc c g
  obtain ⟨m,C,t⟩:=I.loc
  obtain ⟨u,r,w⟩:=t i x c.2 h1 l (.inr (.inl h))
  rcases w with ⟨z,_⟩ | ⟨_,c',e,o,ho,hd⟩
  .rw [h] at z
   cases z
  .rw [d] at e
   cases e
   refine ⟨u,r,o,lD ho (I.freeC x _ d) λz=>?_,hd⟩
   rcases ϕ.mp (I.stkSub _ z) with z | z
   .exact I.cne x _ d z
   .obtain ⟨_,D,f,_⟩:=I.ok.funs.mem z
    exact absurd (η f) (Nat.not_lt.mpr (I.ok.cab x _ q d))
end
structure Ad(N:Ĉ)(x:Str)(sc:Scope)(cl:ċ):Prop where
 kind:sc.kind=.function
 co:sc.isCoroutine=false
 gen:sc.isGenerator=false
 nd:N.Nodup
 pre:N[0]?=some x
 par:sc.names.lookup x=some .local
 nocell:∀y∈sc.names,y.2≠.cell
 free:∀y,sc.names.lookup y=some .free->∃c,cl.lookup y=some c
 inj:∀y z c,cl.lookup y=some c->cl.lookup z=some c->y=z
def zM(CX:CXT)(P:ù)(w:ö)(K:ò)(mg:ď)(base:ñ)(N:Ĉ)(qual:Str)(scope:Scope)(f:ø)(cd:ó)(cl:ċ)(A:ô)(outer:ą)(s:ú)(H:Hp)(E:XK):Cx where
 prog:=P
 w:=w
 K:=K
 mg:=mg
 base:=base
 A:=A.deeper (envX qual scope s.heap.objs.size f cd cl)
 N:=N
 s₀:=s
 H₀:=H
 env:=envX qual scope s.heap.objs.size f cd cl
 outer:=outer
 stack:=envX qual scope s.heap.objs.size f cd cl::outer
 ex:=[]
 calm:=true
 fn:=λ_=>false
 pn:=[]
 xe:=λe s'=>wpAny (model P w) (A.deeper (envX qual scope s.heap.objs.size f cd cl)) (leaving (envX qual scope s.heap.objs.size f cd cl) e) (λ_ s''=>CX outer H s E e s'') (λe' s''=>CX outer H s E e' s'') s'
end L2
namespace L2
open PySem PySem.Spec PyProof.Rows Lo
open PySem.W
def lE(f:ø)(q:Str)(pr:Arguments)(b:ï)(sc:Scope)(cl:ċ)(c:ø):HO:=.ext λh=>∃pm ct,h.get? f=some {cls:=.type "function",data:=.func (kla_fn "<lambda>" q pr b sc cl pm (.ref c) ct)}
def sR{Pg:ù}{w:ö}{H:Hp}{h:ñ}{f:ø}{q:Str}{pr:Arguments}{b:ï}{sc:Scope}{cl:ċ}{c:ø}{pm ct:ó}(e:h.get? f=some {cls:=.type "function",data:=.func (kla_fn "<lambda>" q pr b sc cl pm (.ref c) ct)}) :
  NR Pg w H h f (lE f q pr b sc cl c):=⟨⟨pm,ct,e⟩,⟨_,e⟩,λ_ _ ⟨pm,ct,e⟩ k=>⟨pm,ct,k _ e⟩⟩
def DL(P:ø)(p:Pos)(q:Str)(pr:Arguments)(b:ï)(sc:Scope)(cl:ċ):TE:=λ_ H Q=>Tb H P p q/\∀f c H',Kp P H H'->H' P=some (.tbl (pi p c))->((H P=some (.tbl #[])/\H c=none)\/H P=some (.tbl (pi p c)))->H f=none->H' f=some (lE f q pr b sc cl c)->H' c=some (iR c q)->Q (.ref f) H'
def vv{X:Cx}{cl:ċ}{cc P:ø}{pos:Pos}{q:Str}{L:Arguments}{b:ï}{O:Scope}(D:X.env.code=.ref cc)(hC:codeHdIn X.K cc P=true)(hB:BB X.mg X.base)(hq:X.env.qual++"<lambda>"=q)
  (ab:closureFor O X.env=pure cl)(ad:defaultsOf L X.env=([],[])):PE X (.Lambda L b O pos) (DL P pos q L b O cl):=by
 intro a7 s σ H Q I h
 obtain ⟨F,hQ⟩:=h
 subst hq
 refine kla_eval ad ?_
 have hg:s.heap.Ns mainGlobals X.mg:=I.ok.mod.glob.keeps I.bk
 have C:CodeHd s.heap cc P:=codeHd_of_K I.kIn hC
 obtain ⟨bm,ob,b1,b2,b3,b4,b5,b6⟩:=hB
 have j:=I.bk _ _ b3
 have a0:bm≠mainGlobals:=λz=>by
  obtain ⟨o,es,ep,e,Y,_⟩:=hg
  rw [z,e] at j
  cases j
  rw [Y] at b6
  cases b6
 have nG:∀ps,s.heap.get? P=some (tabObj ps)->mainGlobals≠P/\bm≠P:=λps e=>by
  refine ⟨λz=>?_,λz=>?_⟩
  .obtain ⟨o,es,ep,e',Y,_⟩:=hg
   rw [z,e] at e'
   cases e'
   cases Y
  .rw [z,e] at j
   cases j
   cases b4
 rcases F with e | ⟨c,e,ec⟩
 .have W:s.heap.get? P=some (tabObj #[]):=I.hok P _ e
  obtain ⟨n1,Z⟩:=nG _ W
  refine kla_makeFunction (mg:=X.mg) (clos:=cl) ab I.ok.glob hg D C W trivial rfl n1 ⟨bm,ob,b1,b2,a0,Z,j,b4,b5,b6⟩ λc ct g tk hx w J a6 F=>?_
  obtain ⟨c₂,oc,vs,t,e2,aM,Y,hv⟩:=a6
  cases e2
  have a1:P<s.heap.objs.size:=η W
  have a2:H c=none:=I.hok.fresh w
  have x:H g.objs.size=none:=I.hok.fresh (Į (ħ w J))
  have cf:c≠g.objs.size:=Φ J
  have Pc:P≠c:=Φ (Ÿ a1 w)
  have Pf:P≠g.objs.size:=Φ (Nat.lt_trans (Ÿ a1 w) J)
  let H3:Hp:=upd (upd (upd H P (.tbl (pi pos c))) c (iR c (X.env.qual++"<lambda>"))) g.objs.size (lE g.objs.size (X.env.qual++"<lambda>") L b O cl c)
  have at3:∀d,d≠g.objs.size->d≠c->d≠P->H3 d=H d:=λd n1 Z n3=>(am n1).trans ((am Z).trans (am n3))
  have a3:H3 g.objs.size=some (lE g.objs.size (X.env.qual++"<lambda>") L b O cl c):=Ny
  have a4:H3 c=some (iR c (X.env.qual++"<lambda>")):=(am cf).trans Ny
  have U:H3 P=some (.tbl (pi pos c)):=(am Pf).trans ((am Pc).trans Ny)
  have k:∀d o,d≠P->H d=some o->H3 d=some o:=λd o n z=>(at3 d (ap z x) (ap z a2) n).trans z
  have kp:∀d o,d≠P->s.heap.get? d=some o->(g.push (kla_obj "<lambda>" (X.env.qual++"<lambda>") L b O cl ((X.mg "__name__").getD .none) c ct)).get? d=some o:=λd o n z=>ρ _ (hx d o n z)
  have G:∀d,H d=none->d≠P:=λd z y=>by
   rw [y,e] at z
   cases z
  have f:∀d o,noT o->H d=some o->d≠P:=λd o n z y=>by
   rw [y,e] at z
   cases z
   exact n
  have I3:NM X a7 σ H3 {s with heap:=g.push (kla_obj "<lambda>" (X.env.qual++"<lambda>") L b O cl ((X.mg "__name__").getD .none) c ct),toks:=tk}:=by
   refine I.step (g':=s.gens) (d':=s.drawn) (t':=tk) (ch:=[]) (λ_ z=>nomatch z) (λd o _ _ _ z n=>kp d o (G d n) z) (λd o _ _ _ z n=>⟨o.slots,kp d o (G d n) z⟩) (λd o _ z n=>?_) (λd o _ z=>?_)
    (λd xs z=>k d _ (f d (.tup xs) trivial z) z) (λd o u z=>k d _ (f d (.frz o u) trivial z) z) (λd ps z=>?_) (λm hm=>?_) (λd u z=>?_) I.bare
   .have l:=η z
    exact (at3 d (Φ (Ÿ l (Į (ħ w J)))) (Φ (Ÿ l w)) (G d n)).trans n
   .by_cases y:d=P
    .rw [y]
     exact ⟨_,ρ _ F⟩
    .exact ⟨o,kp d o y z⟩
   .by_cases y:d=P
    .subst y
     rw [e] at z
     cases z
     exact ⟨#[rawInt pos.line,rawInt pos.col,.ref c],U⟩
    .exact ⟨#[],by rw [k d _ y z];simp⟩
   .obtain ⟨o,es,ep,ho,r⟩:=hm
    exact ⟨o,es,ep,kp _ o (G _ I.free) ho,r⟩
   .by_cases y1:d=g.objs.size
    .subst y1
     rw [a3] at z
     cases z
     exact sR (ψ _ rfl)
    .by_cases y2:d=c
     .subst y2
      rw [a4] at z
      cases z
      exact zN (ρ _ aM) Y hv
     .by_cases y3:d=P
      .subst y3
       rw [U] at z
       cases z
       exact ρ _ F
      .rw [at3 d y1 y2 y3] at z
       refine (I.hok d u z).stay (λa v ha q=>kp a v ?_ q) (λa q=>k a _ (f a (.own d) trivial q) q) λa xs q=>k a _ (f a (.tup xs) trivial q) q
       rcases ha with ha | ha
       .exact ha▸y3
       .exact f a (.own d) trivial ha
  exact ⟨.ref g.objs.size,H3,I3,ϱ,hQ _ c H3 (λd o n z=>k d o n z) U (.inl ⟨e,a2⟩) x a3 a4⟩
 .have W:s.heap.get? P=some (tabObj (pi pos c)):=I.hok P _ e
  obtain ⟨n1,Z⟩:=nG _ W
  refine kla_makeFunctionHit (mg:=X.mg) (clos:=cl) (cv:=.ref c) ab I.ok.glob hg D C W (Aj _ _) (xr _ _) ⟨bm,ob,b1,b2,a0,Z,j,b4,b5,b6⟩ λct g tk hk hz=>?_
  have x:H g.objs.size=none:=I.hok.fresh hz
  have sm:=aa (o:=lE g.objs.size (X.env.qual++"<lambda>") L b O cl c) x
  exact ⟨.ref g.objs.size,_,I.laid (o:=lE g.objs.size (X.env.qual++"<lambda>") L b O cl c) (t':=tk) (λd o z=>ρ _ (hk d o z)) hz (sR (ψ _ rfl)),ϱ,
   hQ _ c _ (Kp.of sm) (sm _ _ e) (.inr e) x Ny (sm _ _ ec)⟩
def zj{P:ù}{w:ö}{K:ò}{mg:ď}{base:ñ}{A:ô}{d:ą}{s:ú}{H:Hp}{k:Nat}{f c:ø}{q:Str}{pr:Arguments}{b:ï}{g:Scope}{cl:ċ}{N:Ĉ}{x:Str}{fvs:î V}{cs:î (Addr×V)}{u:ó}{v:V}{Q:VK}
  (hr:NU (k+1) A)(e0:Env0 P w K mg base A d s H)(hB:Bs [] cs base)(S:Ad N x g cl)(W:N.length=fvs.length+1)(a7:∀y a,cl.lookup y=some a->∃v,(a,v)∈cs)
  (ab:∀(j:Nat) (y:Str) (v:V),N[j+1]?=some y->fvs[j]?=some v->g.names.lookup y=some .free/\∃a,cl.lookup y=some a/\∀v',(a,v')∈cs->v'=v)(hf:H f=some (lE f q pr b g cl c))(hc:H c=some (iR c q))(r:NP v u)
  (hb:∀pm ct,BindsTo s (kla_fn "<lambda>" q pr b g cl pm (.ref c) ct) ⟨[u],[]⟩ [(x,u)])(L:∃t,PE (zM Za P w K mg base N q g f (.ref c) cl A d s H E0) b t/\t ((v::fvs).map some) H Q) :
  codeAny (model P w) A (.call (.ref f) ⟨[u],[]⟩) (CR Za d P w H s Q E0) s:=by
 have a3:s.heap.NoLimit:=e0.mod.nolimit.keeps λb o e=>(e0.bs b o e).1
 obtain ⟨⟨pm,ct,C⟩,_⟩:=(show NR P w H s.heap f (lE f q pr b g cl c) from e0.hok f _ hf)
 obtain ⟨⟨oc,ws,t,X,Y,hv⟩,_⟩:=(show NR P w H s.heap c (iR c q) from e0.hok c _ hc)
 obtain ⟨_,Z⟩:=hB
 refine kla_callFunE (by have:=hr.dp;lia) C rfl S.co S.gen rfl ⟨c,oc,ws,t,ϱ,X,Y,hv⟩ (hb pm ct _ _ _ _ ?_)
 refine wpAny_newFunctionEnv S.nocell (λy hy=>by obtain rfl:=ϵ.mp hy;exact S.par) (λh₁ a4 U=>⟨a3.fresh _ U,kla_codeExpr ?_⟩) S.kind
 have l:∀b o,s.heap.get? b=some o->h₁.get? b=some o:=λb o e=>U.extBut b o (Φ (η e)) (ρ _ e)
 obtain ⟨t,ht,hq⟩:=L
 have cT:∀y a,cl.lookup y=some a->∃v,(a,v)∈cs/\∃u,NP v u/\s.heap.IsCell a (some u)/\H a=none:=λy a e=>by
  obtain ⟨v,O⟩:=a7 y a e
  obtain ⟨u,ru,o,C,Y⟩:=Z _ O
  exact ⟨v,O,u,ru,⟨o,(e0.bs _ _ C).1,Y⟩,(e0.bs _ _ C).2⟩
 have F:∀b:ø,b∉(zM Za P w K mg base N q g f (.ref c) cl A d s H E0).ex:=λb z=>absurd (show b∈([]:ĉ) from z) (by simp)
 have I:NM (zM Za P w K mg base N q g f (.ref c) cl A d s H E0) [] ((v::fvs).map some) H {s with heap:=h₁,toks:=s.toks+[(x,u)].length}:=by
  refine ⟨⟨e0.mod,S.kind,ϱ,ϱ,ι _,S.inj,λy hy=>?_,λy c h _=>absurd h (by show ¬(false=true);decide),λ_=>hr.hd,Around.frames_deeper e0.frames,.inr ⟨ϱ,ϱ⟩,λb z=>absurd z (F b),e0.bs,e0.bsz,λb _ _=>F b,λb z=>absurd z (F b),e0.funs,e0.frf⟩,
   rfl,e0.bare,Un.kept l,⟨_,a4,λi y v' h1 h2 h3=>?_⟩,λy a e=>?_,e0.hok.fresh (Nat.le_refl _),λy a e=>?_,λp hp=>absurd (show p∈([]:đ) from hp) (by simp),e0.hok.kept l,?_⟩
  .have hy:g.names.lookup y=some .cell\/g.names.lookup y=some .free:=hy
   rcases hy with hy | hy
   .exact absurd rfl (S.nocell _ (Ũ hy))
   .exact S.free y hy
  .cases i with
   | zero =>
    have e1:some x=some y:=S.pre.symm.trans h1
    cases e1
    have G:some (some v)=some (some v'):=h2
    cases G
    exact ⟨u,r,.inl ⟨S.par,by simp⟩⟩
   | succ j =>
    have G:(fvs.map some)[j]?=some (some v'):=h2
    rw [Ż] at G
    cases e3:fvs[j]? with
    | none =>
     rw [e3] at G
     cases G
    | some v2 =>
     rw [e3] at G
     cases G
     obtain ⟨hf,a,ea,hu⟩:=ab j y _ h1 e3
     obtain ⟨v3,O,u3,r3,⟨o,C,D⟩,_⟩:=cT y a ea
     obtain rfl:=hu _ O
     exact ⟨u3,r3,.inr ⟨.inr hf,a,ea,o,l _ _ C,D⟩⟩
  .obtain ⟨v3,O,u3,r3,⟨o,C,D⟩,_⟩:=cT y a e
   exact ⟨_,o,l _ _ C,D⟩
  .obtain ⟨v3,O,u3,r3,_,n⟩:=cT y a e
   exact n
  .show _=N.length
   rw [W]
   simp
 refine Ŭ (ht [] _ _ H Q I hq) (λu s' hs=>?_) λe s' hs=>hs
 obtain ⟨v,H',J,rv,q⟩:=hs
 exact ⟨v,H',J.os,J.bare,J.base,J.hok,rv,q⟩
structure CloT(P:ù)(w:ö)(K:ò)(mg:ď)(base:ñ)(k:Nat)(f:ø)(sp:Sp)(H:Hp):Prop where
 fn:∃q pr b sc cl c,H f=some (lE f q pr b sc cl c)
 run:∀(H1:Hp) (A:ô) (outer:ą) (s:ú) (v:V) (u:ó) (Q:VK),NI H H1->NU k A->Env0 P w K mg base A outer s H1->NP v u->sp [v] H1 Q E0->codeAny (model P w) A (.call (.ref f) ⟨[u],[]⟩) (CR Za outer P w H1 s Q E0) s
def CloT.keep{P:ù}{w:ö}{K:ò}{mg:ď}{base:ñ}{k:Nat}{f:ø}{sp:Sp}{H H':Hp}(h:CloT P w K mg base k f sp H)(e:NI H H'):CloT P w K mg base k f sp H' :=
 ⟨let ⟨q,pr,b,sc,cl,c,z⟩:=h.fn;⟨q,pr,b,sc,cl,c,e _ _ z⟩,λH1 A outer s v u Q e1 hr e0 r hs=>h.run H1 A outer s v u Q (e.trans e1) hr e0 r hs⟩
section
variable {X:Cx}{CX:CXT}{k:Nat}{f C:ø}{fd:õ}{ps:Ĉ}{E:XK}{x m:Str}{p pos apos:Pos}{e o:ï}{es:Ą}{ta:TE}{t:TA}{cs:î (Addr×V)}
def B5(P:ù)(w:ö)(K:ò)(mg:ď)(base:ñ)(k i:Nat)(sp:Sp)(t:TA):TE:=fun σ H Q=>∃f,σ[i]?=some (some (.ref f))/\(∃q pr b sc cl c,H f=some (lE f q pr b sc cl c))/\t σ H λvs H1=>∃v,vs=[v]/\CloT P w K mg base k f sp H1/\sp [v] H1 Q E0
def jJ{i:Nat}{sp:Sp}(P:ù)(w:ö)(K:ò)(mg:ď)(base:ñ)(hN:X.N[i]?=some x)(hv:Vis X.env.scope x)(hr:NU k X.A)(ha:PA X [e] t)(hP:X.prog=P:=by rfl)(hw:X.w=w:=by rfl)(hK:X.K=K:=by rfl)(C:X.mg=mg:=by rfl)(D:X.base=base:=by rfl)
  (F:(x==("__debug__":Str))=false:=by decide)(G:(x==("__classdict__":Str))=false:=by decide)(he:starEach [e] X.env=(false,eval e X.env)::starEach [] X.env:=by rfl)(L:(backTo pos (starEach [] X.env)).any (·.1)=false:=by rfl) :
  PE X (.Call (.Name x p) [e] [] pos) (B5 P w K mg base k i sp t):=by
 subst hP hw hK C D
 intro d s σ H Q I ⟨f,hσ,hf,h⟩
 have j:∀{σ':St} {g:Hp} {l:ú},NM X d σ' g l->(∃q pr b sc cl c,g f=some (lE f q pr b sc cl c))->FnAt f l.heap:=λ{σ' g l} J ⟨q,pr,b,sc,cl,c,z⟩=>by
  obtain ⟨⟨pm,ct,W⟩,_⟩:=(show NR X.prog X.w g l.heap f (lE f q pr b sc cl c) from J.hok f _ z)
  exact ⟨_,_,_,_,W⟩
 refine ń (Zg ((ym (pos:=p) hN hv F G) d s σ H (λv g=>v=.ref f/\g=H) I ⟨_,hσ,ϱ,ϱ⟩) λu Y ⟨v,H1,O,r,Z,e2⟩=>?_)
 subst Z
 subst e2
 cases r
 refine callWith_F (first:=[]) (j O hf) (Zg (ha pos d Y σ H1 _ O h) λus s2 ⟨vs,H2,y,r,v,ev,U,q⟩=>⟨j y U.fn,?_⟩) he L
 subst ev
 cases r with
 | cons rv rr =>
  cases rr
  refine ī (Ł (U.run H2 X.A X.stack s2 v _ Q (NC _) hr y.env0 rv q) λr l o=>?_)
  cases r with
  | error e=>exact False.elim o
  | ok fl =>
   cases fl with
   | ret u=>exact y.after o
   | next=>exact False.elim o
   | brk=>exact False.elim o
   | cont=>exact False.elim o
def B0(X:Cx)(cs:î (Addr×V))(C:ø)(m:Str)(sp:ñ->Sp)(E:XK)(ta:TE)(t:TA):TE:=fun σ H Q=>uX X cs σ/\ta σ H λx H1=>∃a dx fs,x=.ref a/\H1 a=some (.ins C dx fs)/\fs.lookup m=none /\
 t σ H1 λvs H2=>∀B,X.K.In B->Bs [] cs B->sp B (x::vs) H2 Q E
def sE{sp:ñ->Sp}{pl:Sem Bool}(he:PE X o ta)(c:Cls X.K C)(Z:gX X.K C m f)(F:∀B:ñ,X.K.In B->NH X.prog X.w X.K X.mg B CX k f fd ps (sp B))(hr:NU k X.A)(hb:NT X.K fd ps [])(hx:b8 CX X E)(ha:PA X (e::es) t)
  (J:starEach (e::es) X.env=(false,eval e X.env)::starEach es X.env:=by rfl)(L:(backTo pos (starEach es X.env)).any (·.1)=false:=by rfl)
  (ht:eval (.Call (.Attribute o m apos) (e::es) [] pos) X.env=(do
   let ov ← eval o X.env
   standAt apos.atName
   let (f,first) ← holding [ov] (getMethod ov m pl)
   callWith pos f first (backTo pos (starEach (e::es) X.env)) (backToKw pos (keywordEach [] X.env))):=by rfl) :
  PE X (.Call (.Attribute o m apos) (e::es) [] pos) (B0 X cs C m sp E ta t):=by
 intro d s σ H Q I ⟨hc,h⟩
 refine Ģ (pl:=pl) (Zg (he d s σ H _ I h) λu s1 ⟨x,H1,U,rx,a,dx,fs,ex,ea,l,q⟩=>?_) ht
 subst ex
 obtain rfl:u=Value.ref a:=rx
 refine ju U ea c Z l ?_
 refine Ń (first:=[.ref a]) (h₀:=X.base) I.ok.mod.kin Z.kp (Zg (ha pos d s1 σ H1 _ U q) λD G ⟨vs,Y,j,r,q2⟩=>⟨j.kIn,?_⟩) J L
 have g:=q2 _ j.modB.kin (j.pinB (pp:=[]) (λp z=>nomatch z) hc)
 have O:=F _ j.modB.kin
 have P:NQ (.ref a::vs) (.ref a::D):=.cons rfl r
 have hl:((Value.ref a::D)++[]).length=ps.length:=by rw [ų,← P.length];exact O.len _ _ _ _ g
 have y:=hb G (.ref a::D) j.kIn hl
 rw [ų] at y
 refine ī (Ł (O.run X.A X.stack G Y ⟨.ref a::D,[]⟩ (.ref a::D) (.ref a::vs) Q E hr j.env0B y P g) λr s' g=>?_)
 cases r with
 | error e=>exact hx d σ Y G e s' j g
 | ok fl =>
  cases fl with
  | ret u=>exact j.after g
  | next=>exact False.elim g
  | brk=>exact False.elim g
  | cont=>exact False.elim g
end
end L2
namespace L2
open PySem PySem.Spec PyProof.Rows
def wQ{B h h':ñ}{l:ą}{e:ø}{cls a0:ó}(x:Heap.FlyingW B l e cls a0 h)(k:∀b o,h.get? b=some o->h'.get? b=some o):Heap.FlyingW B l e cls a0 h' :=
 ⟨λb o q=>k b o (x.1 b o q),x.2.1,Heap.FunFrames.of_keeps (λb o q _=>⟨o,k b o q,rfl⟩) x.2.2.1,let ⟨oe,vs,T,oT,ts,h1,h2,h3,h4,h5,h6,h7,h8⟩:=x.2.2.2;⟨oe,vs,T,oT,ts,k _ _ h1,h2,h3,h4,h5,h6,k _ _ h7,h8⟩⟩
section
variable {X:Cx}{pins pins0:đ}{σ:St}{H H1:Hp}{s s1:ú}
def Db{l C C1 C2 C3 C4:ø}{O P Q U:Str}{p1 p2 p3 p4 tp J:Pos}{ct}{b₀:ð}{d:î ð}{rest:î ExceptHandler}{D:Ends}{th:TS}{E:Đ}(I1:NM X pins σ H1 s1)(I:NM X pins σ H s)(g:X.stack=X.env::X.outer)(fr:X.env.frame=some X.env.locals)(r:X.ex=[])
  (a7:Fly X.stack s1.heap H l C s.heap)(g1:Gl X O)(g2:Gl X P)(g3:Gl X Q)(g4:Gl X U)(m1:X.mg O=some (.ref C1))(m2:X.mg P=some (.ref C2))(m3:X.mg Q=some (.ref C3))(m4:X.mg U=some (.ref C4))
  (hx:PySem.W.exmAny X.K (.ref C) [.ref C1,.ref C2,.ref C3,.ref C4]=some true)(hs:∀ev,PSs (X.hnd ev) (b₀::d) th)(q:th D σ H)
  (d1:(O==("__debug__":Str))=false)(d2:(P==("__debug__":Str))=false)(d3:(Q==("__debug__":Str))=false)(d4:(U==("__debug__":Str))=false) :
  wpAny (model X.prog X.w) X.A (noteFrame (.ref l) X.env) (λ_ s₂=>wpAny (model X.prog X.w) X.A (setFlight (.ref l) none) (λ_ s₃ =>
   wpAny (model X.prog X.w) X.A (handleBy (.ref l) X.env (.ExceptHandler (some (.Tuple [.Name O p1,.Name P p2,.Name Q p3,.Name U p4] ct tp)) none (b₀::d) J::rest)) (SP X pins D) E s₃) E s₂) E s:=by
 obtain ⟨B,a0,fl,c⟩:=a7
 have Z:X.A.frames=some (X.env::X.outer):=by rw [I.ok.frames,g]
 have ff:=fl.2.2.1
 have a2:Heap.FlyingW B (X.env::X.outer) l (.ref C) a0 s.heap:=by rw [← g];exact fl
 refine wpAny_looks_onW Z fr a2 λh₄ k x=>?_
 refine wpAny_landsW k λy F G=>?_
 have I5:=NM.moved I1 I g fr r c F.1 (x.trans G) ff
 have L:=I5.hnd (.ref l)
 refine wpAny_handleBy_cons (codeAny_handlers_test (wpAny_Tuple_spliced (ō (cy L g1 m1 (ō (cy L g2 m2 (ō (cy L g3 m3 (ō (cy L g4 m4 (Calls.spliced_nil ⟨χ,?_⟩) d4)) d3)) d2)) d1)))) (by intro z;cases z)
 have kp:∀b o,y.get? b=some o->(y.push {cls:=.type "tuple",data:=.seq [Value.ref C1,.ref C2,.ref C3,.ref C4].toArray}).get? b=some o:=λb o e=>ρ _ e
 have a3:(y.push {cls:=.type "tuple",data:=.seq [Value.ref C1,.ref C2,.ref C3,.ref C4].toArray}).get? y.objs.size=some {cls:=.type "tuple",data:=.seq [Value.ref C1,.ref C2,.ref C3,.ref C4].toArray}:=ψ _ rfl
 have j:=wQ F kp
 have u:=(x.trans G).trans (Heap.UpToSlots.of_keeps kp)
 have I7:=NM.moved I1 I g fr r c j.1 u ff
 obtain ⟨ob,Y,t⟩:=j.there
 refine (PySem.W.exm_tup4 (h:=y.push {cls:=.type "tuple",data:=.seq [Value.ref C1,.ref C2,.ref C3,.ref C4].toArray}) I7.kIn (iM (s:={s with heap:=_}) Y t) a3 hx).here (codeAny_handlers_suite ?_)
 refine lands_againW (s:={s with heap:=_}) j λh₆ a4 a5=>?_
 have I6:=NM.moved I1 I g fr r c a4.1 (u.trans a5) ff
 exact Ŭ (hs (.ref l) pins _ σ _ D (I6.hnd _) q) (λf s7 h7=>SP.unhnd I.ok h7) λ_ _ z=>z.elim
def XS(X:Cx)(pins0:đ)(E:XK)(ev:ó)(s':ú):Prop:=∃σ s1 H1 ea C H',NM X pins0 σ H1 s1/\ev=.ref ea/\NM X pins0 σ H' s'/\Fly X.stack s1.heap H' ea C s'.heap/\E ev (some C) H'
abbrev Cx.tr(X:Cx)(pins0:đ)(E:XK):Cx:={X with pn:=X.pn++pins0,xe:=XS X pins0 E}
def NM.tr(I:NM X pins0 σ H s)(E:XK):NM (X.tr pins0 E) [] σ H s :=
 have k:=I.ok
 ⟨⟨k.mod,k.kind,k.glob,k.blt,k.above,k.inj,k.has,k.cab,k.hd,k.frames,k.stk,k.exf,k.bs,k.bsz,k.noex,k.exfs,k.funs,k.frf⟩,I.os,I.bare,I.base,I.loc,I.cell,I.free,I.freeC,λp hp=>I.pin p (by simpa using hp),I.hok,I.len⟩
def NM.untr{E:XK}(I:NM (X.tr pins0 E) pins σ H s):NM X pins0 σ H s :=
 have k:=I.ok
 ⟨⟨k.mod,k.kind,k.glob,k.blt,k.above,k.inj,k.has,k.cab,k.hd,k.frames,k.stk,k.exf,k.bs,k.bsz,k.noex,k.exfs,k.funs,k.frf⟩,I.os,I.bare,I.base,I.loc,I.cell,I.free,I.freeC,λp hp=>I.pin p (Ō _ hp),I.hok,I.len⟩
def D4{E:XK}:b8 (Zn X.prog X.w) (X.tr pins0 E) E:=λpins σ H s e s' I h=>by
 obtain ⟨ea,C,H',e1,I',fl,q⟩:=NM.came (X:=X.tr pins0 E) I h
 exact ⟨σ,s,H,ea,C,H',I.untr,e1,I'.untr,fl,q⟩
def SP.untr{E:XK}{D:Ends}{f:Flow}{s':ú}(h:SP (X.tr pins0 E) [] D f s'):SP X pins0 D f s':=by
 cases f with
 | next=>obtain ⟨σ,H,I,q⟩:=h;exact ⟨σ,H,I.untr,q⟩
 | brk=>obtain ⟨σ,H,I,q⟩:=h;exact ⟨σ,H,I.untr,q⟩
 | cont=>obtain ⟨σ,H,I,q⟩:=h;exact ⟨σ,H,I.untr,q⟩
 | ret v=>obtain ⟨x,σ,H,I,r,q⟩:=h;exact ⟨x,σ,H,I.untr,r,q⟩
inductive Bw (K:ò) (C1 C2 C3 C4:ø) (t:XK->TS) (th:TS) (D:Ends) (σ:L2.St) (H:Hp):Prop|mk (E:XK):t E D σ H->(∀ev C σ' H',E ev (some C) H'->PySem.W.exmAny K (.ref C) [.ref C1,.ref C2,.ref C3,.ref C4]=some true/\th D σ' H')->Bw K C1 C2 C3 C4 t th D σ H
def AB{C1 C2 C3 C4:ø}{k l o r:Str}{U W Y Z tp j pos:Pos}{ct}{x:ð}{e d:î ð}{t:XK->TS}{y:TS}(u:X.stack=X.env::X.outer)(fr:X.env.frame=some X.env.locals)(w:X.ex=[])
  (g1:Gl X k)(g2:Gl X l)(g3:Gl X o)(g4:Gl X r)(m1:X.mg k=some (.ref C1))(m2:X.mg l=some (.ref C2))(m3:X.mg o=some (.ref C3))(m4:X.mg r=some (.ref C4))(hb:∀pins0 E,PSs (X.tr pins0 E) e (t E))(hs:∀ev,PSs (X.hnd ev) (x::d) y)
  (d1:(k==("__debug__":Str))=false:=by decide)(d2:(l==("__debug__":Str))=false:=by decide)(d3:(o==("__debug__":Str))=false:=by decide)(d4:(r==("__debug__":Str))=false:=by decide) :
  PS X (.Try e [.ExceptHandler (some (.Tuple [.Name k U,.Name l W,.Name o Y,.Name r Z] ct tp)) none (x::d) j] [] [] pos) (Bw X.K C1 C2 C3 C4 t y):=by
 intro pins s σ H D I h
 obtain ⟨E,h1,z⟩:=h
 refine wpAny_Try_except (Ŭ (hb pins E [] s σ H D (I.tr E) h1) (λf s1 g=>?_) λev s1 Q=>?_)
 .have g:=SP.untr g
  cases f with
  | next=>exact Ŏ g
  | brk=>exact g
  | cont=>exact g
  | ret v=>exact g
 .obtain ⟨F,s0,H0,ea,C,G,J,rfl,L,fl,q⟩:=Q
  obtain ⟨O,P⟩:=z _ C F G q
  exact Db J L u fr w fl g1 g2 g3 g4 m1 m2 m3 m4 O hs P d1 d2 d3 d4
end
def Fq{l:ą}{h0 h:ñ}{H:Hp}{ea C dd:ø}(f:XA.Aa l h0 H ea C dd h):Fly l h0 H ea C h:=let ⟨B,a0,g,c⟩:=f;⟨B,a0,g.1,c⟩
def toE(sp:Sp):Sp:=λvs H Q E=>sp vs H Q λ_ c H'=>∀e,E e c H'
theorem NH.toE{P:ù}{w:ö}{K:ò}{mg:ď}{base:ñ}{k:Nat}{f:ø}{fd:õ}{ps:Ĉ}{sp:Sp}(F:NH P w K mg base (XA.CXA P w) k f fd ps sp):NH P w K mg base (Zn P w) k f fd ps (L2.toE sp) :=
 ⟨λvs H Q E h=>F.len _ _ _ _ h,λA outer s H args us vs Q E hr he hb hv hs=>Ł (F.run A outer s H args us vs Q _ hr he hb hv hs) λr s' h=>by
  cases r with
  | error e =>
   obtain ⟨ea,C,dd,n,tk,H',e1,e2,e3,e4,e5,e6,_,q⟩:=h
   exact ⟨ea,C,H',e1,e2,e3,e4,e5,Fq e6,q e⟩
  | ok fl=>cases fl<;>exact h⟩
section
variable {α:Type} [DecidableEq α] {K:ò}{H:Hp}
def tW{c:Cod α}{a b:ø}{us vs:î V}{xs ys:î α}(ha:NN K H a us)(hb:NN K H b vs)(Y:Paired (c.rp K H) xs us)(Z:Paired (c.rp K H) ys vs) :
  uT K (c.n+1) H (.ref a) (.ref b) (decide (xs=ys))/\xc K (c.n+1) H (.ref a) (.ref b) (decide (xs=ys)):=by
 have f:∀(P:ù) (w:ö) (A:ô) (s:ú) (u v:ó),A.units+(c.n+1)<cLine->NS P w H s.heap->K.In s.heap->NP (.ref a) u->NP (.ref b) v ->
   SeqAt.RcAt A s u v (decide (xs=ys))/\SeqAt.RcNeAt A s u v (!decide (xs=ys)):=by
  intro P w A s u v hA k l r1 r2
  cases r1
  cases r2
  obtain ⟨g,G,I,_⟩:=iT k l ha
  obtain ⟨h,J,L,_⟩:=iT k l hb
  have l1:=G.length
  have l2:=J.length
  have m1:=Y.len
  have m2:=Z.len
  have d:∀j (h1:j<g.toArray.size) (o:j<h.toArray.size),SeqAt.EqAt A.in1 s g.toArray[j] h.toArray[j] (decide (xs[j]?=ys[j]?)):=λj h1 o=>by
   have r:j<g.length:=by simpa using h1
   have t:j<h.length:=by simpa using o
   have U:us[j]?=some us[j]:=ξ ω
   have W:vs[j]?=some vs[j]:=ξ ω
   obtain ⟨u,O,ru⟩:=G.get U
   obtain ⟨v,Q,rv⟩:=J.get W
   obtain ⟨x,ex,rx⟩:=Y.get U
   obtain ⟨y,ey,ry⟩:=Z.get W
   have q:=c.eq rx ry P w A.in1 s u v (by show A.units+1+c.n<cLine;lia) k l ru rv
   have z1:g.toArray[j]=u:=by
    rw [ξ r] at O
    simpa using Option.some.inj O
   have z2:h.toArray[j]=v:=by
    rw [ξ t] at Q
    simpa using Option.some.inj Q
   rw [z1,z2,ex,ey]
   have e:decide ((some x:Option α)=some y)=decide (x=y):=decide_eq_decide.mpr ⟨λz=>Δ z,λz=>by rw [z]⟩
   exact e▸q
  have X:((List.range (min g.toArray.size h.toArray.size)).all (λj=>decide (xs[j]?=ys[j]?))&&g.toArray.size==h.toArray.size)=decide (xs=ys):=by
   rw [Ű,Ű]
   by_cases hl:g.length=h.length
   .rw [← hl,Nat.min_self,rm ω ω]
    simp
   .rw [Γ λz=>hl (by rw [← l1,← l2,← m1,← m2,z])]
    simp [hl]
  constructor
  .have q:=SeqAt.RcAt.tuples (A:=A) (s:=s) I L ω d
   rw [X] at q
   exact q
  .have q:=SeqAt.RcNeAt.tuples (A:=A) (s:=s) I L ω d
   rw [X] at q
   exact q
 exact ⟨λP w A s u v h1 o C D F=>(f P w A s u v h1 o C D F).1,λP w A s u v h1 o C D F=>(f P w A s u v h1 o C D F).2⟩
def rTs(c:Cod α)(K:ò)(H:Hp)(xs:î α)(v:V):Prop:=∃a us,v=.ref a/\SqU K H a us/\Paired (c.rp K H) xs us
def ur{c:Cod α}{P:ù}{w:ö}{h:ñ}{xs ys:î α}{us:î V}(d:NS P w H h)(e:K.In h)(g:Paired (c.rp K H) xs us)(f:Paired (c.rp K H) ys us):xs=ys:=by
 induction g generalizing ys with
 | nil=>cases f;rfl
 | cons a _ ih=>cases f with | cons b r=>rw [c.inj d e a b,ih r]
def vj{c:Cod α}{P:ù}{w:ö}{K:ò}{H:Hp}{h:ñ}{x y:î α}{v:V}(d:NS P w H h)(f:K.In h)(h1:rTs c K H x v)(o:rTs c K H y v):x=y:=by
 obtain ⟨a,q,rfl,g,j⟩:=h1
 obtain ⟨b,vs,e,k,l⟩:=o
 cases e
 cases u6 d f g.sq k.sq
 exact ur d f j l
def cTs(c:Cod α):Cod (î α) where
 n:=c.n+1
 rp:=rTs c
 inj:=vj
 rc h1 h2:=by obtain ⟨a,us,rfl,ha,p1⟩:=h1;obtain ⟨b,vs,rfl,hb,p2⟩:=h2;exact (tW ha.sq hb.sq p1 p2).1
 ne h1 h2:=by obtain ⟨a,us,rfl,ha,p1⟩:=h1;obtain ⟨b,vs,rfl,hb,p2⟩:=h2;exact (tW ha.sq hb.sq p1 p2).2
 eq {K H x y u v} h1 h2:=by
  have i:=λP w h hok kin=>vj (c:=c) (P:=P) (w:=w) (K:=K) (H:=H) (h:=h) (x:=x) (y:=y) (v:=v) hok kin
  obtain ⟨a,us,rfl,ha,p1⟩:=id h1
  obtain ⟨b,vs,rfl,hb,p2⟩:=id h2
  refine oX (tW ha.sq hb.sq p1 p2).1 λP w h hok kin e=>?_
  subst e
  exact τ (i P w h hok kin h1 h2)
 keep e h:=let ⟨a,us,h1,h2,h3⟩:=h;⟨a,us,h1,h2.keep e,NB h3 λ_ _ z=>c.keep e z⟩
end
section
variable {X:Cx}{a b:ï}{ta tb:TE}{i:Int}{j:Nat}{p pos:Pos}
def Zj(K:ò)(h:PE X a ta)(d:X.K=K:=by rfl):PE X (.Subscript a (.Constant (.int i) j p) pos) (tOp (yg K) ta (tC (.int i))):=by
 subst d
 exact jI uN h af λ_ _=>rfl
def ixL(K:ò)(h:PE X a ta)(d:X.K=K:=by rfl):PE X (.Subscript a (.Constant (.int i) j p) pos) (tOp (yh K) ta (tC (.int i))):=by
 subst d
 exact jI mQ h af λ_ _=>rfl
def oP(K:ò)(h:PE X a ta)(g:PE X b tb)(d:mW b:=by exact λ_ _=>rfl)(e:X.K=K:=by rfl):PE X (.Subscript a b pos) (tOp (yg K) ta tb):=by
 subst e
 exact jI uN h g d
def bc(K:ò)(h:PE X a ta)(g:PE X b tb)(d:mW b:=by exact λ_ _=>rfl)(e:X.K=K:=by rfl):PE X (.Subscript a b pos) (tOp (yh K) ta tb):=by
 subst e
 exact jI mQ h g d
def sN(n:Nat){x:Str}{px:Pos}(hN:X.N.Nodup)(he:PE X a ta)(hi:X.N[n]?=some x:=by rfl)(hx:Loc X.env.scope x:=by first | exact Or.inl rfl | exact Or.inr rfl)(hs:swapsWith a (some (.Name x px)) pos.line X.env=pure false:=by rfl)(hf:X.fn x=true\/X.env.scope.names.lookup x=some .local:=by first | exact .inl rfl | exact .inr rfl):PS X (.Assign [.Name x px] a pos) (xy ta (jV n)):=gC hN hi hx he hs hf
def gN(n:Nat){x:Str}(hN:X.N.Nodup)(hi:X.N[n]?=some x:=by rfl)(hx:Loc X.env.scope x:=by first | exact Or.inl rfl | exact Or.inr rfl)(hf:X.fn x=true\/X.env.scope.names.lookup x=some .local:=by first | exact .inl rfl | exact .inr rfl):PG X (.Name x pos) (jV n):=vt hN hi hx hf
def Zd(h:PE X a ta)(hs:starEach [a] X.env=(false,eval a X.env)::starEach [] X.env:=by rfl):PA X [a] (jy ta jg):=aj h aO hs
def Zb{b:ï}{tb:TE}(h:PE X a ta)(g:PE X b tb)(hs:starEach [a,b] X.env=(false,eval a X.env)::starEach [b] X.env:=by rfl)(ht:starEach [b] X.env=(false,eval b X.env)::starEach [] X.env:=by rfl):PA X [a,b] (jy ta (jy tb jg)):=aj h (Zd g ht) hs
def Zl(h:PE X a ta)(g:PE X b tb):PT X (.Compare a [.Eq] [b] pos) (xt (tOp rEq ta tb)):=aJ lK h g (aF _)
def Ze(h:PE X a ta):PSs X [.Return (some a) pos] (DH ta):=au (eO h)
end
end L2
namespace K82
open PySem L2 Lo
def top(i:Nat):ð:=PySem.Challenge.pw_pactroom_k82_papers_that_lie.main.body.getD i (.Pass ⟨0,0,0,0⟩)
abbrev fO:ð:=inClass (top 5) 0
abbrev iG:ð:=inClass (top 6) 0
abbrev gb:ð:=inClass (top 7) 0
abbrev jS:ð:=inClass (top 8) 0
abbrev iJ:ð:=inClass (top 10) 0
abbrev iI:ð:=inClass (top 10) 4
abbrev iE:ð:=inClass (top 11) 0
abbrev iH:ð:=inClass (top 12) 0
abbrev fQ:ð:=inClass (top 13) 0
abbrev om:ð:=top 23
abbrev jG:ð:=top 24
abbrev pM:ð:=top 25
abbrev jb:ð:=inClass (top 26) 0
abbrev gP:ð:=inClass (top 26) 1
abbrev fD:ð:=inClass (top 26) 2
abbrev dU:ð:=inClass (top 26) 4
abbrev dh:ð:=inClass (top 26) 5
abbrev gJ:ð:=inClass (top 30) 0
abbrev iC:ð:=inClass (top 30) 1
abbrev iD:ð:=inClass (top 30) 3
abbrev iB:ð:=inClass (top 30) 4
abbrev dQ:ð:=inClass (top 31) 0
abbrev cY:ð:=inClass (top 31) 1
abbrev dE:ð:=inClass (top 32) 0
abbrev bW:ð:=inClass (top 32) 1
abbrev dL:ð:=inClass (top 33) 0
abbrev dk:ð:=inClass (top 33) 1
abbrev eW:ð:=inClass (top 34) 0
abbrev dF:ð:=inClass (top 34) 1
abbrev eV:ð:=inClass (top 34) 2
abbrev bb:ð:=inClass (top 34) 3
abbrev dO:ð:=inClass (top 35) 0
abbrev bZ:ð:=inClass (top 35) 1
abbrev dM:ð:=inClass (top 35) 2
abbrev eY:ð:=inClass (top 36) 0
abbrev eX:ð:=inClass (top 36) 1
abbrev cn:ð:=inClass (top 36) 2
abbrev e8:ð:=inClass (top 36) 3
abbrev dH:ð:=inClass (top 37) 0
abbrev bX:ð:=inClass (top 37) 1
abbrev dJ:ð:=inClass (top 38) 0
abbrev bY:ð:=inClass (top 38) 1
abbrev c9:ð:=top 39
abbrev fJ:ð:=top 40
abbrev hV:ð:=top 41
abbrev jk:ð:=top 42
abbrev iF:ð:=inClass (top 46) 0
abbrev da:ð:=top 47
abbrev hR:ð:=top 48
abbrev kN:ð:=top 49
abbrev ui:ð:=top 50
abbrev jl:ð:=top 51
abbrev fK:ð:=top 52
abbrev hU:ð:=top 54
abbrev eE:ð:=top 55
abbrev fL:ð:=top 56
abbrev cr:ð:=top 57
abbrev aH:ð:=top 58
abbrev cW:ð:=top 59
abbrev eF:ð:=top 60
abbrev b9:ð:=top 61
abbrev xW:ð:=top 62
abbrev iq:ð:=top 64
abbrev gw:ð:=top 65
abbrev cu:ð:=top 66
abbrev fM:ð:=top 67
abbrev ii:ð:=top 68
abbrev cN:ð:=top 69
abbrev bU:ð:=top 70
abbrev im:ð:=top 71
abbrev ik:ð:=top 72
abbrev hZ:ð:=top 73
abbrev db:ð:=top 74
abbrev eK:ð:=top 75
abbrev bf:ð:=top 76
abbrev cO:ð:=top 77
abbrev cm:ð:=top 78
abbrev cB:ð:=top 79
abbrev eI:ð:=top 80
abbrev gz:ð:=top 81
abbrev ij:ð:=top 82
abbrev jm:ð:=top 83
abbrev gA:ð:=top 84
abbrev eJ:ð:=top 85
abbrev hW:ð:=top 86
def nZ:ag vT vT (NE fO):=í
def lV:ag vT vT (NE iG):=í
def jB:ag vT vT (NE gb):=í
def pA:ag vT vT (NE jS):=í
def rh:ag y9 y9 (NE iJ):=í
def rg:ag vi vi (NE iI):=í
def qY:ag vi vi (NE iE):=í
def re:ag vi vi (NE iH):=í
def n8:ag vi vi (NE fQ):=í
def pz:ag vi vi (NE gJ):=í
def qW:ag vi vi (NE iC):=í
def qX:ag HI HI (NE iD):=í
def qV:ag vi vi (NE iB):=í
def kI:ag MD MD (NE dQ):=í
def jC:ag vi vi (NE cY):=í
def kt:ag vi vi (NE dE):=í
def gQ:ag tz tz (NE bW):=í
def kD:ag vi vi (NE dL):=í
def gT:ag tz tz (NE dk):=í
def lU:ag MM MM (NE eW):=í
def kx:ag vi vi (NE dF):=í
def lT:ag vi vi (NE eV):=í
def hJ:ag tz tz (NE bb):=í
def gL:Scope:=match NF bb with
 | .Return (some (.Tuple [(.Call _ [.ListComp _ _ sc _] _ _),_] _ _)) _::_=>sc
 | _=>default
def gu:NJ tz (NE bb) gL "cell" ["cell","value_of"] [2]:=⟨θ,ϱ,θ,ϱ,θ,θ,ϱ,ϱ,θ⟩
def kH:ag vi vi (NE dO):=í
def gU:ag tz tz (NE bZ):=í
def kE:ag vi vi (NE dM):=í
def lY:ag MJ MJ (NE eY):=í
def lW:ag vi vi (NE eX):=í
def hO:ag tz tz (NE cn):=í
def l8:ag HI HI (NE e8):=í
def kB:ag ME ME (NE dH):=í
def gR:ag tz tz (NE bX):=í
def kC:ag ME ME (NE dJ):=í
def gS:ag tz tz (NE bY):=í
def sc_read_step:ag ["text","words","shape"] Nf (NE c9):=í
def o6:Scope:=match NF c9 with
 | _::_::_::.Return (some (.Call _ [_,.ListComp _ _ sc _] _ _)) _::_=>sc
 | _=>default
def oa:NJ ["text","words","shape"] (NE c9) o6 "k" ["k","words","shape"] [1,2]:=⟨θ,ϱ,θ,ϱ,θ,θ,ϱ,ϱ,θ⟩
def sc_read_number:ag ["word","letter","number"] Nw (NE fJ):=í
def qT:ag Nl Nl (NE hV):=í
def si:ag Na Na (NE jk):=í
def qZ:ag KW KW (NE iF):=í
def sc_read_pact:ag ["text","pieces","texts"] Nf (NE da):=í
def o7:Scope:=match NF da with
 | _::_::_::_::.Return (some (.Call _ [_,.ListComp _ _ sc _] _ _)) _::_=>sc
 | _=>default
def og:NJ ["text","pieces","texts"] (NE da) o7 "k" ["k","texts"] [2]:=⟨θ,ϱ,θ,ϱ,θ,θ,ϱ,ϱ,θ⟩
def qS:ag Nn Nn (NE hR):=í
def sc_turning:ag ["pact","k"] Nt (NE kN):=í
def sc_look:ag ["pact","sizes","k"] Nr (NE ui):=í
def sc_is_there:ag ["step","sizes","house"] ["step","sizes"] (NE jl):=í
def sc_look_behind:ag ["pact","k"] Nt (NE fK):=í
def sc_played:ag Nh MG (NE hU):=í
def tu:Scope:=match NF hU with
 | .Assign _ (.ListComp _ _ sc _) _::_=>sc
 | _=>default
def sj:NJ Nh (NE hU) tu "values" ["values"] []:=⟨θ,ϱ,θ,ϱ,θ,θ,ϱ,ϱ,λj h=>absurd h (Ř j)⟩
def sc_is_fit:ag vn Nm (NE eE):=í
def tw:Scope:=match NF eE with
 | .Try (_::.Expr (.Call _ [_,.ListComp _ _ sc _] _ _) _::_) _ _ _ _::_=>sc
 | _=>default
def sk:NJ vn (NE eE) tw "values" ["values"] []:=⟨θ,ϱ,θ,ϱ,θ,θ,ϱ,ϱ,λj h=>absurd h (Ř j)⟩
def nV:ag vn vn (NE fL):=í
def sc_is_step_fit:ag Ng vn (NE cr):=í
def lA:Scope:=match NF cr with
 | .If (.BoolOp _ [_,(.Call _ [.ListComp _ _ sc _] _ _)] _) _ _ _::_=>sc
 | _=>default
def kL:NJ Ng (NE cr) lA "one" ["one","entry"] [2]:=⟨θ,ϱ,θ,ϱ,θ,θ,ϱ,ϱ,θ⟩
def sc_is_undo_fit:ag vF vn (NE aH):=í
def lq:Scope:=match NF aH with
 | _::.Assign _ (.ListComp _ _ sc _) _::_=>sc
 | _=>default
def kK:NJ vF (NE aH) lq "one" ["one"] []:=⟨θ,ϱ,θ,ϱ,θ,θ,ϱ,ϱ,λj h=>absurd h (Ř j)⟩
def lp:Scope:=match NF aH with
 | _::_::.Assign _ (.ListComp _ _ sc _) _::_=>sc
 | _=>default
def kJ:NJ vF (NE aH) lp "one" ["one"] []:=⟨θ,ϱ,θ,ϱ,θ,θ,ϱ,ϱ,λj h=>absurd h (Ř j)⟩
def lj:Scope:=match NF aH with
 | _::_::_::_::.If (.BoolOp _ [_,_,(.Call _ [.ListComp _ _ sc _] _ _)] _) _ _ _::_=>sc
 | _=>default
def f6:NJ vF (NE aH) lj "k" ["k","pact"] [3]:=⟨θ,ϱ,θ,ϱ,θ,θ,ϱ,ϱ,θ⟩
def sc_first_at_house:ag ["steps","start","k"] Nx (NE cW):=í
def sc_hands_behind:ag ["cells","steps","hand","hands","step"] ML (NE eF):=í
def sc_step_on:ag ["cells","step","hand","told"] MF (NE b9):=í
def sc_put:ag ["cells","step","changes","change"] MW (NE xW):=í
def qU:ag L0 L0 (NE iq):=í
def sc__law_mixed:ag ["_law_cell_here","_law_k","_law_number"] MV (NE gw):=í
def nX:ag HL HL (NE cu):=í
def lB:Scope:=match NF cu with
 | .Return (some (.ListComp _ _ sc _)) _::_=>sc
 | _=>default
def kM:NJ HL (NE cu) lB "_law_k" ["_law_k","_law_cell_here"] [0]:=⟨θ,ϱ,θ,ϱ,θ,θ,ϱ,ϱ,θ⟩
def nY:ag MH MH (NE fM):=í
def sc__law_step:ag ["_law_xs","_law_sizes","_law_word","_law_where","_law_one","_law_other"] Np (NE ii):=í
def sc__law_steps:ag Nk KS (NE cN):=í
def mj:Scope:=match NF cN with
 | _::.Return (some (.ListComp _ _ sc _)) _::_=>sc
 | _=>default
def md:NJ Nk (NE cN) mj "_law_k" ["_law_k","_law_sizes","_law_xs"] [2,3]:=⟨θ,ϱ,θ,ϱ,θ,θ,ϱ,ϱ,θ⟩
def sc__law_text:ag Nq KQ (NE bU):=í
def fj:Scope:=match NF bU with
 | .Assign _ (.ListComp _ _ sc _) _::_=>sc
 | _=>default
def oh:NJ Nq (NE bU) fj "_law_step_here" Nv []:=⟨θ,ϱ,θ,ϱ,θ,θ,ϱ,ϱ,λj h=>absurd h (Ř j)⟩
def sc__law_done:ag ["_law_step_here","_law_hand","_law_cells","_law_row"] KR (NE im):=í
def sc__law_held:ag ["_law_p","_law_steps_here","_law_cells","_law_entries_here","_law_hand","_law_hands","_law_k","_law_changes"] KU (NE ik):=í
def sc__law_walk:ag ["_law_way","_law_cells","_law_entries_here","_law_p","_law_steps_here","_law_at","_law_hand","_law_changes"] GJ (NE hZ):=í
def sc__law_back:ag MC GJ (NE db):=í
def o8:Scope:=match NF db with
 | _::.If (.BoolOp _ [_,(.Compare (.ListComp _ _ sc _) _ _ _)] _) _ _ _::_=>sc
 | _=>default
def oi:NJ MC (NE db) o8 "_law_k" ["_law_k","_law_steps_here"] [4]:=⟨θ,ϱ,θ,ϱ,θ,θ,ϱ,ϱ,θ⟩
def sc__law_new_way:ag ["_law_p","_law_cell_here","_law_sizes","_law_steps_here","_law_given","_law_k"] MQ (NE eK):=í
def sc__law_entries:ag HH Nj (NE bf):=í
def kf:Scope:=match NF bf with
 | .Assign _ (.ListComp _ _ sc _) _::_=>sc
 | _=>default
def jE:NJ HH (NE bf) kf "_law_row" ["_law_row"] []:=⟨θ,ϱ,θ,ϱ,θ,θ,ϱ,ϱ,λj h=>absurd h (Ř j)⟩
def j9:Scope:=match NF bf with
 | _::.Assign _ (.ListComp _ _ sc _) _::_=>sc
 | _=>default
def jD:NJ HH (NE bf) j9 "_law_k" ["_law_k","_law_script","_law_sizes"] [0,2]:=⟨θ,ϱ,θ,ϱ,θ,θ,ϱ,ϱ,θ⟩
def sc__law_first:ag No MO (NE cO):=í
def mq:Scope:=match NF cO with
 | _::.For _ _ (_::.Expr (.Call _ [.ListComp _ _ sc _] _ _) _::_) _ _::_=>sc
 | _=>default
def mf:NJ No (NE cO) mq "_law_x" ["_law_x","_law_xs"] [3]:=⟨θ,ϱ,θ,ϱ,θ,θ,ϱ,ϱ,θ⟩
def sc__law_other_change:ag MK MK (NE cm):=í
def sc__law_other_hands:ag ["_law_hands","_law_cell_here","_law_at"] Nc (NE cB):=í
def sc__law_spoiled:ag ["_law_entry","_law_cell_here","_law_kind","_law_p","_law_text_here","_law_number","_law_manner","_law_blank","_law_rest"] Nd (NE eI):=í
def sc__law_known:ag Nb MN (NE gz):=í
def sc__law_more:ag Nb MN (NE ij):=í
def sc__law_bad:ag ["_law_entries_here","_law_at","_law_cell_here","_law_more_here"] MI (NE jm):=í
def sc__law_found:ag Nu HK (NE gA):=í
def sc__law_refused:ag Nu HK (NE eJ):=í
def sc_law:ag KP MO (NE hW):=í
def zO:Scope:=match NF hW with
 | _::.Assign _ (.ListComp _ _ sc _) _::_=>sc
 | _=>default
def xV:NJ KP (NE hW) zO "_law_row" ["_law_row"] []:=⟨θ,ϱ,θ,ϱ,θ,θ,ϱ,ϱ,λj h=>absurd h (Ř j)⟩
open St
section
variable {P:ù}{w:ö}{K:ò}{mg:ď}{base:ñ}{f CL CS CP:ø}{fd:õ}{C:Kd->ø}{CW:Wd->ø}
def Eb(F:Fun K "kind" "Read.kind" iE f fd):NH P w K mg base Za 1 f fd vi (kq .read):=by
 refine F.oj qY λe A d s H vs Q E g h=>?_
 obtain ⟨v,rfl,q⟩:=h
 exact ⟨_,Ze aw,q⟩
def Eh(F:Fun K "kind" "Mean.kind" iH f fd):NH P w K mg base Za 1 f fd vi (kq .mean):=by
 refine F.oj re λe A d s H vs Q E g h=>?_
 obtain ⟨v,rfl,q⟩:=h
 exact ⟨_,Ze aw,q⟩
def El(F:Fun K "kind" "Change.kind" fQ f fd):NH P w K mg base Za 1 f fd vi (kq .change):=by
 refine F.oj n8 λe A d s H vs Q E g h=>?_
 obtain ⟨v,rfl,q⟩:=h
 exact ⟨_,Ze aw,q⟩
def yI(F:Fun K "__init__" "Lock.__init__" iJ f fd)(T:TxK K C):NH P w K mg base Za 1 f fd y9 (gs C):=by
 refine F.oj rh λj A d s H vs Q E l h=>?_
 obtain ⟨a,e,k,x,y,rfl,g,q⟩:=h
 refine ⟨_,ac (cC (pv 0) (pv 1) rfl) (au (cC (pv 0) (pv 2) rfl)),?_⟩
 exact ⟨_,ϱ,_,ϱ,a,C k,e,[],ϱ,g,T.cl k,T.nF k,by show 0<1000;decide,_,ϱ,_,ϱ,a,C k,e,_,ϱ,Ny,T.cl k,T.nL k,by show 1<1000;decide,q⟩
def rG(F:Fun K "told" "Lock.told" iI f fd)(T:TxK K C)(r:∀k,GM P w K mg base Za 1 (C k) "kind" vi (kq k)):NH P w K mg base Za 2 f fd vi (g9 C):=by
 refine F.oj rg λj A g s H vs Q E l h=>?_
 obtain ⟨v,k,rfl,⟨a,d,rfl,e⟩,q⟩:=h
 refine ⟨_,Ze (aA (aj (pm0 (r k.1) (pv 0) (T.cl k.1) l) (Zb (aE (pv 0) rfl) (aE (pv 0) rfl)))),?_⟩
 refine ⟨_,ϱ,a,d,_,ϱ,e,pU _ _ θ θ,_,ϱ,?_⟩
 exact ⟨_,ϱ,a,_,d,_,_,ϱ,e,T.cl _,T.nF _,ze _ _,_,ϱ,a,_,d,_,_,ϱ,e,T.cl _,T.nL _,Bb _ _,χ,λt o=>q t o⟩
def kp2{a:ø}{H:Hp}{o1 o2:HO}:Kp a H (upd (upd H a o1) a o2):=λb o n e=>by rw [am n,am n];exact e
def yR(F:Fun K "__init__" "CellStep.__init__" dQ f fd)(T:TxW K CW):NH P w K mg base Za 1 f fd MD (mC CW):=by
 refine F.oj kI λj A d s H vs Q E k h=>?_
 obtain ⟨a,e,wd,x,y,rfl,g,q⟩:=h
 refine ⟨_,ac (cC (pv 0) (pv 1) rfl) (au (cC (pv 0) (pv 2) rfl)),?_⟩
 exact ⟨_,ϱ,_,ϱ,a,CW wd,e,[],ϱ,g,T.cl wd,T.nW wd,by show 0<1000;decide,_,ϱ,_,ϱ,a,CW wd,e,_,ϱ,Ny,T.cl wd,T.nC wd,by show 1<1000;decide,q _ Ny kp2⟩
def rV{wd:Wd}(hw:isC wd=true){vs:î V}{H:Hp}{Q:VK}{E:XK}(h:gp CW wd vs H Q E):mC CW vs H Q E:=by
 obtain ⟨a,d,l,rfl,f,g,q⟩:=h
 obtain ⟨x,y,rfl,_,_,e⟩:=f.c hw
 exact ⟨a,d,wd,x,y,ϱ,g,λj h1 k=>q j (e▸h1) k⟩
def yy(F:Fun K "__init__" "SumStep.__init__" eW f fd)(T:TxW K CW):NH P w K mg base Za 1 f fd MM (gp CW .sum):=by
 refine F.ok lU (λvs H Q E h=>?_) (λr A j s H vs Q E t h=>?_)
 .obtain ⟨a,d,k,rfl,g,_⟩:=h
  obtain ⟨x,y,z,rfl,_⟩:=g.s
  rfl
 obtain ⟨a,d,k,rfl,g,l,q⟩:=h
 obtain ⟨x,y,z,rfl,_⟩:=g.s
 refine ⟨_,ac (cC (pv 0) (pv 1) rfl) (ac (cC (pv 0) (pv 2) rfl) (au (cC (pv 0) (pv 3) rfl))),?_⟩
 exact ⟨_,ϱ,_,ϱ,a,CW .sum,d,[],ϱ,l,T.cl _,T.nW _,by show 0<1000;decide,_,ϱ,_,ϱ,a,CW .sum,d,_,ϱ,Ny,T.cl _,T.nL _,by show 1<1000;decide,_,ϱ,_,ϱ,a,CW .sum,d,_,ϱ,Ny,T.cl _,T.nH _,ħ (dm _ _ _) (by show 1+1<1000;decide),q _ Ny λb o n e=>by rw [am n,am n,am n];exact e⟩
def yT{k fC:ø}{r:õ}(F:Fun K "__init__" "AddStep.__init__" eY f fd)(T:TxW K CW)(l:mg "CellStep"=some (.ref k))(I:BN K k "__init__" fC)(J:NH P w K mg base Za 1 fC r MD (mC CW))(L:NT K r MD []) :
  NH P w K mg base Za 2 f fd MJ (gp CW .add):=by
 refine F.ok lY (λvs H Q E h=>?_) (λC A j s H vs Q E D h=>?_)
 .obtain ⟨a,d,t,rfl,g,_⟩:=h
  obtain ⟨x,y,z,rfl,_⟩:=g.a
  rfl
 obtain ⟨a,d,t,rfl,g,u,q⟩:=h
 obtain ⟨x,y,z,rfl,_⟩:=g.a
 refine ⟨_,ac (bz (AH (dZ (v:=.ref k) rfl l rfl) I J D L bE (aj (pv 0) (Zb (pv 1) (pv 2))))) (au (cC (pv 0) (pv 3) rfl)),?_⟩
 refine ⟨_,ϱ,_,ϱ,_,ϱ,a,d,.add,x,y,ϱ,u,λO h1 G=>?_⟩
 exact ⟨_,ϱ,_,ϱ,a,CW .add,d,_,ϱ,h1,T.cl _,T.nA _,ħ (dm _ _ _) (by show 1+1<1000;decide),q _ Ny λb o n e=>by rw [am n];exact G b o n e⟩
def yC(F:Fun K "__init__" "PlusStep.__init__" dH f fd)(T:TxW K CW):NH P w K mg base Za 1 f fd ME (gp CW .plus):=by
 refine F.ok kB (λvs H Q E h=>?_) (λl A e s H vs Q E o h=>?_)
 .obtain ⟨a,g,j,rfl,d,_⟩:=h
  obtain ⟨x,rfl,_⟩:=d.p
  rfl
 obtain ⟨a,g,j,rfl,d,k,q⟩:=h
 obtain ⟨x,rfl,_⟩:=d.p
 refine ⟨_,au (cC (pv 0) (pv 1) rfl),?_⟩
 exact ⟨_,ϱ,_,ϱ,a,CW .plus,g,[],ϱ,k,T.cl _,T.nA _,by show 0<1000;decide,q _ Ny oN⟩
def yD(F:Fun K "__init__" "NeedStep.__init__" dJ f fd)(T:TxW K CW):NH P w K mg base Za 1 f fd ME (gp CW .need):=by
 refine F.ok kC (λvs H Q E h=>?_) (λl A e s H vs Q E o h=>?_)
 .obtain ⟨a,g,j,rfl,d,_⟩:=h
  obtain ⟨x,rfl,_⟩:=d.n
  rfl
 obtain ⟨a,g,j,rfl,d,k,q⟩:=h
 obtain ⟨x,rfl,_⟩:=d.n
 refine ⟨_,au (cC (pv 0) (pv 1) rfl),?_⟩
 exact ⟨_,ϱ,_,ϱ,a,CW .need,g,[],ϱ,k,T.cl _,T.nA _,by show 0<1000;decide,q _ Ny oN⟩
def sJ{wd:Wd}(hw:wd=.plus\/wd=.need)(F:Fun K "house" "Step.house" gJ f fd):NH P w K mg base Za 1 f fd vi (cK CW wd):=by
 refine F.oj pz λe A d s H vs Q E l h=>?_
 obtain ⟨v,g,rfl,j,k,q⟩:=h
 refine ⟨_,Ze gE,?_⟩
 rcases hw with rfl | rfl<;>exact q
def jO{wd:Wd}(hw:isC wd=true\/wd=.add)(F:Fun K "house" "CellStep.house" cY f fd)(T:TxW K CW):NH P w K mg base Za 1 f fd vi (cK CW wd):=by
 refine F.oj jC λl A g s H vs Q E r h=>?_
 obtain ⟨v,o,rfl,j,⟨a,k,rfl,d⟩,q⟩:=h
 refine ⟨_,Ze (aE (pv 0) rfl),?_⟩
 rcases hw with hw | rfl
 .obtain ⟨x,y,rfl,_,_,e⟩:=j.c hw
  rw [e] at d
  refine ⟨_,ϱ,a,CW wd,k,_,_,ϱ,d,T.cl _,T.nW _,by rw [bp θ,bg],?_⟩
  cases wd<;>first | exact q | cases hw
 .obtain ⟨x,y,z,rfl,_⟩:=j.a
  exact ⟨_,ϱ,a,CW .add,k,_,_,ϱ,d,T.cl _,T.nW _,(by show (aK "amount" _ (aK "cell" _ (aK "where" _ []))).lookup _=_;rw [bp θ,bp θ,bg];rfl),q⟩
def AW(F:Fun K "house" "SumStep.house" dF f fd)(T:TxW K CW):NH P w K mg base Za 1 f fd vi (cK CW .sum):=by
 refine F.oj kx λk A d s H vs Q E o h=>?_
 obtain ⟨v,l,rfl,e,⟨a,g,rfl,j⟩,q⟩:=h
 obtain ⟨x,y,z,rfl,_⟩:=e.s
 refine ⟨_,Ze (aE (pv 0) rfl),?_⟩
 exact ⟨_,ϱ,a,CW .sum,g,_,_,ϱ,j,T.cl _,T.nW _,(by show (aK "high" _ (aK "low" _ (aK "where" _ []))).lookup _=_;rw [bp θ,bp θ,bg];rfl),q⟩
def f9{wd:Wd}(hw:wd≠.give)(F:Fun K "sure" "Step.sure" iB f fd):NH P w K mg base Za 1 f fd vi (ko wd):=by
 refine F.oj qV λe A d s H vs Q E g h=>?_
 obtain ⟨v,rfl,q⟩:=h
 rw [Γ hw] at q
 exact ⟨_,Ze eS,q⟩
def yz(F:Fun K "sure" "GiveStep.sure" dM f fd):NH P w K mg base Za 1 f fd vi (ko .give):=by
 refine F.oj kE λe A d s H vs Q E g h=>?_
 obtain ⟨v,rfl,q⟩:=h
 exact ⟨_,Ze eS,q⟩
def wE(F:Fun K "__init__" "Pact.__init__" iF f fd)(B:TxB mg)(T:TxP K CP):NH P w K mg base Za 1 f fd KW (qM CP):=by
 refine F.oj qZ λY A L s H vs Q E Z h=>?_
 obtain ⟨l,g,m,q,j,rfl,O,I,X⟩:=h
 refine ⟨_,ac (cC (pv 0) (pv 1) rfl) (ac (cC (pv 0) (bM eh rfl B.list Ħ (Zd (pv 2))) rfl)
  (au (cC (pv 0) (bM fU rfl B.tuple PyProof.Rows.boot_tuple (Zd (pv 2))) rfl))),?_⟩
 have y:q≠l:=λz=>by rw [z,O] at I;cases I
 refine ⟨_,ϱ,_,ϱ,l,CP,g,[],ϱ,O,T.cl,T.nm,by show 0<1000;decide,?_⟩
 have k1:Kp l H (upd H l (.ins CP g (aK "manner" (.str m) []))):=oN
 have k:(upd H l (.ins CP g (aK "manner" (.str m) []))) l=some (.ins CP g (aK "manner" (.str m) [])):=Ny
 have r:=k1 _ _ y I
 generalize (upd H l (HO.ins CP g (aK "manner" (.str m) [])))=H1 at k1 k r ⊢
 refine ⟨_,ϱ,q,j,ϱ,.inl (Nz r),λd u=>?_⟩
 have U:=aa (o:=.lst j) u
 have J:l≠d:=ap k u
 refine ⟨_,ϱ,l,CP,g,_,ϱ,U _ _ k,T.cl,T.ns,by show 1<1000;decide,?_⟩
 have k2:Kp l H1 (upd (upd H1 d (.lst j)) l (.ins CP g (aK "steps" (.ref d) (aK "manner" (.str m) [])))):=(Kp.of U).trans oN
 have t:(upd (upd H1 d (.lst j)) l (.ins CP g (aK "steps" (.ref d) (aK "manner" (.str m) [])))) l=some (.ins CP g (aK "steps" (.ref d) (aK "manner" (.str m) []))):=Ny
 have C:(upd (upd H1 d (.lst j)) l (.ins CP g (aK "steps" (.ref d) (aK "manner" (.str m) [])))) d=some (.lst j):=by rw [am (Ne.symm J)];exact Ny
 have D:=k2 _ _ y r
 generalize (upd (upd H1 d (.lst j)) l (HO.ins CP g (aK "steps" (.ref d) (aK "manner" (.str m) []))))=H2 at k2 t C D ⊢
 refine ⟨_,ϱ,q,j,ϱ,.inl ⟨Nz D,λtp x=>?_⟩⟩
 have W:=aa (o:=.tup j) x
 have G:l≠tp:=ap t x
 refine ⟨_,ϱ,l,CP,g,_,ϱ,W _ _ t,T.cl,T.np,ħ (dm _ _ _) (by show 1+1<1000;decide),?_⟩
 have k3:Kp l H2 (upd (upd H2 tp (.tup j)) l (.ins CP g (pf m d tp))):=(Kp.of W).trans oN
 refine X d tp _ Ny (k3 _ _ (Ne.symm J) C) (am (Ne.symm G)▸Ny) ?_ ?_ ((k1.trans k2).trans k3)
 .cases e:H d with
  | none=>rfl
  | some o=>cases k1 _ _ (Ne.symm J) e▸u
 .cases e:H tp with
  | none=>rfl
  | some o=>cases (k1.trans k2) _ _ (Ne.symm G) e▸x
def yB(F:Fun K "read_part" "read_part" hR f fd)(l:GF P w K mg base Za 6 "read_step" Nf (qK CW)):NH P w K mg base Za 7 f fd Nn (qL CW):=by
 refine F.oj qS λg A d s H vs Q E j h=>?_
 obtain ⟨x,k,rfl,e,q⟩:=h
 exact ⟨_,au (AC (Ze (pc l j (Zd (pv 0))))),_,ϱ,x.1,x.2,ϱ,e,q⟩
def wg{xs:î Zc}{x:Zc}(h:∀y∈xs,y.1≠.give)(r:î Zc):(x.1=.give->bO (xs++x::r)=xs.length):=λhx=>by
 unfold bO
 rw [List.findIdx_append,ŵ]
 .rw [List.findIdx_cons,τ hx]
  simp
 .intro z
  rw [List.findIdx_lt_length] at z
  obtain ⟨y,hy,e⟩:=z
  exact h y hy (Ξ e)
def wj{xs:î Zc}(h:∀y∈xs,y.1≠.give):bO xs=xs.length:=by
 unfold bO
 rw [List.findIdx_eq_length]
 exact λy d=>Γ (h y d)
def uw(F:Fun K "turning" "turning" kN f fd)(B:TxB mg)(T:TxP K CP)(W:TxW K CW)(U:∀wd,GM P w K mg base Za 1 (CW wd) "sure" vi (ko wd)):NH P w K mg base Za 2 f fd Nt (t8 CP CW):=by
 refine F.oj sc_turning λL A r s H vs Q E O h=>?_
 obtain ⟨v,b,xs,rfl,⟨a,k,X,tp,j,rfl,g⟩,Y,q⟩:=h
 have nd:=sc_turning.nd
 have pl:xs.length=j.length:=g.st.len
 refine ⟨_,ac (eQ Ņ rfl (bD rfl B.range (Zd (aq az rfl B.len Ź (Zd (aE (pv 0) rfl))))) (gN 1 nd)
   (au (aC (bj (lI λwd=>pm0 (U wd) (oP K (aE (pv 0) rfl) (pv 1)) (W.cl wd) O)) (Ze (pv 1)) ao)))
  (Ze (aq az rfl B.len Ź (Zd (aE (pv 0) rfl)))),?_⟩
 have Z:(100000:Nat)<=sizeLine:=by decide
 refine ⟨_,ϱ,a,CP,k,_,_,ϱ,g.ins,T.cl,T.np,kR _ _ _,tp,_,ϱ,.inr (NA g.tp),_,ϱ,ω,ω,?_⟩
 have e0:((j.length:Nat):Int).toNat=j.length:=rfl
 refine cH (n:=j.length) (λi σ t=>t=H/\(∀y∈xs.take i,y.1≠.give)/\∃u,σ=[some (.ref a),u]) ⟨ϱ,(λy hy=>nomatch hy),none,ϱ⟩ ?_ ?_
 .rintro i σ t C ⟨rfl,d,u,rfl⟩
  obtain ⟨x,ex,sa,l,e,o⟩:=g.st.get (ξ C)
  have f1:=jW (m:="sure") θ θ θ θ θ x.1 x.2
  have G:(0:Int)+(i:Nat)=((i:Nat):Int):=ĕ _
  rw [G]
  refine ⟨x.1,_,ϱ,a,CP,k,_,_,ϱ,g.ins,T.cl,T.np,kR _ _ _,_,ϱ,tp,_,_,_,ϱ,ϱ,NA g.tp,ay (by rw [ξ C,e]),sa,l,_,ϱ,o,f1,_,ϱ,_,ϱ,?_⟩
  have I:xs=xs.take i++x::xs.drop (i+1):=by
   have J:=(ſ.mp ex)
   obtain ⟨h1,D⟩:=J
   rw [← D]
   rw [← œ h1,List.take_append_drop]
  by_cases hg:x.1=.give
  .rw [τ hg]
   refine bx ⟨_,ϱ,?_⟩
   have z:=wg d (xs.drop (i+1)) hg
   rw [← I,ŷ,ņ ω] at z
   rw [z] at q
   exact q
  .rw [Γ hg]
   refine a8 ⟨ϱ,λy hy=>?_,_,ϱ⟩
   rw [Ų,ex] at hy
   rcases ź.mp hy with hy | hy
   .exact d y hy
   .have:y=x:=by simpa using hy
    exact this▸hg
 .rintro σ t ⟨rfl,d,u,rfl⟩
  rw [← pl,Ū] at d
  rw [wj d,pl] at q
  exact ⟨_,ϱ,a,CP,k,_,_,ϱ,g.ins,T.cl,T.np,kR _ _ _,tp,_,ϱ,.inr (NA g.tp),q⟩
def v9{sz:ć}{x:Int}(h0:0<=x)(h1:x<(sz.length:Nat)):∃m,m∈sz/\sz[x.toNat]?=some m/\atI (sz.map V.int) x=some (.int m):=by
 obtain ⟨n,rfl⟩:∃n:Nat,x=(n:Int):=⟨x.toNat,(ŧ h0).symm⟩
 have d:n<sz.length:=by lia
 rw [ğ]
 refine ⟨sz[n],List.getElem_mem d,ξ d,ay ?_⟩
 rw [Ż,ξ d]
 rfl
def Ai{sz:ć}{x:Zc}(h:hvI (aI x.1 x.2)=none):be sz x=true:=by
 unfold be
 rw [h]
def uZ{sz:ć}{x:Zc}{n:Int}(h:hvI (aI x.1 x.2)=some n)(c:¬n<(sz.length:Nat)):be sz x=false:=by
 unfold be
 rw [h]
 show (decide _&&_)=false
 rw [Γ c,ě]
def qE{sz:ć}{x:Zc}{n m:Int}(h:hvI (aI x.1 x.2)=some n)(c:n<(sz.length:Nat))(e:sz[n.toNat]?=some m):be sz x=decide (oM x.1 x.2<m):=by
 unfold be
 rw [h]
 show (decide _&&decide (_<(sz[n.toNat]?).getD 0))=_
 rw [τ c,Bool.true_and,e]
 rfl
def vI(b:Bool):decide (V.str (mS b)=V.str "walked")=b:=by cases b<;>decide +kernel
def yx(F:Fun K "is_there" "is_there" jl f fd)(B:TxB mg)(W:TxW K CW)(U:∀wd,GM P w K mg base Za 1 (CW wd) "house" vi (cK CW wd))(X:∀wd,GM P w K mg base Za 3 (CW wd) "lock" vi (dX CW K wd)):NH P w K mg base Za 4 f fd ["step","sizes"] (qJ CW):=by
 refine F.oj sc_is_there λO A k s H vs Q E y h=>?_
 obtain ⟨v,q0,x,sz,rfl,j,⟨sa,d,rfl,e⟩,l,q⟩:=h
 have nd:=sc_is_there.nd
 refine ⟨_,ac (sN 2 nd (lI λwd=>pm0 (U wd) (pv 0) (W.cl wd) y))
  (Ze (yn (bH uu (pv 2) gE (aF _)) (iu (kS (bH ja (pv 2) (aq az rfl B.len Ź (Zd (pv 1))) (aF _))
   (iu (bH ja (Zj K (lI λwd=>pm0 (X wd) (pv 0) (W.cl wd) y)) (bc K (pv 1) (pv 2)) (aF _))))))),?_⟩
 have f1:=jW (m:="house") θ θ θ θ θ x.1 x.2
 have f2:=jW (m:="lock") θ θ θ θ θ x.1 x.2
 refine ⟨x.1,_,ϱ,sa,d,_,ϱ,e,f1,_,x.2,ϱ,j,⟨sa,d,ϱ,e⟩,_,ϱ,ϱ,_,ϱ,?_⟩
 have o:(sz.map V.int).length=sz.length:=ν _
 rcases sW j with ⟨e1,_⟩ | ⟨i,e1,i0,kd,fi,el⟩
 .have z:=q H (NC _)
  rw [Ai (by rw [e1];rfl)] at z
  rw [e1,τ rfl]
  exact bx z
 have r:hvI (aI x.1 x.2)=some i:=by rw [e1];rfl
 have L:¬aI x.1 x.2=.non:=λz=>by cases e1▸z
 rw [Γ L]
 rw [e1]
 refine a8 ⟨_,ϱ,_,ϱ,q0,_,ϱ,.inl (Nz l),_,_,ϱ,ϱ,_,ϱ,aP (λc=>?_) (λc=>?_)⟩
 .have g:i<(((sz.map V.int).length:Nat):Int):=Ξ c
  rw [o] at g
  obtain ⟨m,_,G,I⟩:=v9 i0 g
  refine ⟨x.1,_,ϱ,sa,d,_,ϱ,e,f2,_,x.2,ϱ,j,⟨sa,d,ϱ,e⟩,λu H1 C D=>?_⟩
  rw [el] at D
  obtain ⟨t,rfl,J⟩:=D
  have z:=q H1 C
  rw [qE r g G] at z
  exact ⟨t,_,_,_,ϱ,ϱ,NA J,St.at2,_,ϱ,_,ϱ,q0,_,_,_,ϱ,ϱ,Nz (C _ _ l),I,_,_,ϱ,ϱ,z⟩
 .have g:¬i<(((sz.map V.int).length:Nat):Int):=λz=>c (τ z)
  rw [o] at g
  have z:=q H (NC _)
  rw [uZ r g] at z
  exact z
structure TxN(K:ò)(mg:ď)(CW:Wd->ø):Prop where
 mgN:mg "NeedStep"=some (.ref (CW .need))
 ha:∀wd,PySem.W.findIn K (.ref (CW wd)) "__class__"=some (some (.builtin "object.__class__"))
 hn:PySem.W.specialIn K (.builtin "object.__class__") "__get__"=some (some (.builtin "getset_descriptor.__get__"))
 htk:PySem.W.takesIn K (.builtin "object.__class__")=some true
 hm:∀wd,PySem.W.mroIn K (CW wd) (.type "object")=some true
 isN:∀wd,PySem.W.kitOne K (.ref (CW wd)) (.ref (CW .need))=some (decide (wd=.need))
open XA in
def CV(F:Fun K "look_behind" "look_behind" fK f fd)(B:TxB mg)(T:TxP K CP)(W:TxW K CW)(N:TxN K mg CW)(GT:GF P w K mg base Za 2 "turning" Nt (t8 CP CW)){l O:ø}{U:õ}(M:MkX K l O)(FI:NH P w K mg base Za 1 O U vT (qH l))(bI:NT K U vT [])
  (mB:mg "NoWayBack"=some (.ref l)):NH P w K mg base (CXA P w) 3 f fd Nt (vc CP CW l):=by
 refine okA F sc_look_behind (λvs H Q E h=>?_) (λa3 A u s H vs Q E J h=>?_)
 .obtain ⟨v,b,xs,rfl,_⟩:=h
  rfl
 obtain ⟨v,b,xs,rfl,⟨a,o,X,tp,q,rfl,d⟩,Y,Z,qe⟩:=h
 have nd:=sc_look_behind.nd
 have pl:xs.length=q.length:=d.st.len
 have t:NU (1+1) _:=J
 refine ⟨_,au (eQ PassesOwn.leaving rfl (kO rfl B.range (Zb (ai aU (pc GT J (Zd (pv 0))) af) (aq az rfl B.len Ź (Zd (aE (pv 0) rfl))))) (gN 1 nd)
   (au (aC (bj (aq rX rfl B.isi ũ (Zb (oP K (aE (pv 0) rfl) (pv 1)) (dZ (v:=.ref (CW .need)) rfl N.mgN rfl)))) (au (iV j0 rfl M FI bI t rfl mB (Zd (pv 1)))) ao))),?_⟩
 refine ⟨_,ϱ,_,b,xs,ϱ,⟨a,o,X,tp,q,ϱ,d⟩,Y,_,_,ϱ,ϱ,_,ϱ,a,CP,o,_,_,ϱ,d.ins,T.cl,T.np,kR _ _ _,tp,_,ϱ,.inr (NA d.tp),?_⟩
 have tl:bO xs<=xs.length:=List.findIdx_le_length
 refine ⟨_,_,ϱ,⟨ω,ω,ω,ω⟩,?_⟩
 refine cH (λi σ C=>C=H/\gH xs (bO xs+1+i)/\∃G,σ=[some (.ref a),G]) ⟨ϱ,(λj h1 L=>by lia),none,ϱ⟩ ?_ ?_
 .rintro i σ C hi ⟨rfl,k,G,rfl⟩
  have I:bO xs+1+i<q.length:=by lia
  obtain ⟨x,ex,sa,a1,e,r⟩:=d.st.get (ξ I)
  have ei:((bO xs:Nat):Int)+1+(i:Nat)=((bO xs+1+i:Nat):Int):=by lia
  rw [ei]
  refine ⟨_,ϱ,a,CP,o,_,_,ϱ,d.ins,T.cl,T.np,kR _ _ _,_,ϱ,tp,_,_,_,ϱ,ϱ,NA d.tp,ay (by rw [ξ I,e]),_,_,_,_,ϱ,TyOf.ins r (W.cl x.1) (N.ha x.1) N.hn N.htk (N.hm x.1),N.isN x.1,_,ϱ,?_⟩
  by_cases hn:x.1=.need
  .rw [τ hn]
   exact bx ⟨_,ϱ,_,ϱ,λdd tk D=>qe _ x _ tk ω ex hn k (aa D)⟩
  .rw [Γ hn]
   refine a8 ⟨ϱ,λj h1 L y g=>?_,_,ϱ⟩
   by_cases hj:j<bO xs+1+i
   .exact k j h1 hj y g
   .have z:j=bO xs+1+i:=by lia
    rw [z,ex] at g
    cases g
    exact hn
 .rintro σ C ⟨rfl,k,G,rfl⟩
  exact Z (λj h1 L y g=>k j h1 ω y g) _ (NC _)
open XA in
def AT(F:Fun K "look" "look" ui f fd)(B:TxB mg)(T:TxP K CP)(GT:GF P w K mg base Za 4 "is_there" ["step","sizes"] (qJ CW)){t CB fI:ø}{dI:õ}(GB:GF P w K mg base (CXA P w) 3 "look_behind" Nt (vc CP CW CB))(M:MkX K t fI)(FI:NH P w K mg base Za 1 fI dI vT (qH t))(bI:NT K dI vT [])
  (mA:mg "NoPlace"=some (.ref t)):NH P w K mg base (CXA P w) 5 f fd Nr (qN CP CW t CB):=by
 refine okA F sc_look (λvs H Q E h=>?_) (λak A I s H vs Q E J h=>?_)
 .obtain ⟨v,q,b,xs,sz,rfl,_⟩:=h
  rfl
 obtain ⟨v,q0,b,xs,sz,rfl,⟨a,r,sl,tp,u,rfl,g⟩,ar,hl,hq,Z,qe⟩:=h
 have nd:=sc_look.nd
 have pl:xs.length=u.length:=g.st.len
 have G:NU (1+1) _:=J.mono ζ
 refine ⟨_,ac (eQ PassesOwn.leaving rfl (bD rfl B.range (Zd (aq az rfl B.len Ź (Zd (aE (pv 0) rfl))))) (gN 2 nd)
   (au (aC (eN (bj (pc GT J (Zb (oP K (aE (pv 0) rfl) (pv 2)) (pv 1))))) (au (iV j0 rfl M FI bI G rfl mA (Zd (pv 2)))) ao)))
  (au (aC (Zl (aE (pv 0) rfl) aw) (au (bz (pc GB J (Zd (pv 0)) (hx:=CD)))) ao)),?_⟩
 refine ⟨_,ϱ,a,CP,r,_,_,ϱ,g.ins,T.cl,T.np,kR _ _ _,tp,_,ϱ,.inr (NA g.tp),_,ϱ,ω,ω,?_⟩
 refine cH (n:=u.length) (λi σ H'=>NI H H'/\gZ sz xs i/\∃Y,σ=[some (.ref a),some (.ref q0),Y]) ⟨NC _,(λj L=>absurd L (Ř j)),none,ϱ⟩ ?_ ?_
 .rintro i σ H1 hi ⟨d,l,Y,rfl⟩
  obtain ⟨x,ex,sa,C,e,D⟩:=g.st.get (ξ hi)
  have ei:(0:Int)+(i:Nat)=((i:Nat):Int):=ĕ _
  rw [ei]
  refine ⟨_,ϱ,a,CP,r,_,_,ϱ,d _ _ g.ins,T.cl,T.np,kR _ _ _,_,ϱ,tp,_,_,_,ϱ,ϱ,NA (d _ _ g.tp),ay (by rw [ξ hi,e]),_,ϱ,_,q0,x,sz,ϱ,ar x (ž ex),⟨sa,C,ϱ,d _ _ D⟩,d _ _ hq,λH2 o=>⟨_,ϱ,?_⟩⟩
  cases ht:be sz x with
  | false=>exact bx ⟨_,rfl,_,rfl,λdd O U=>qe true i _ O (.place ex ht l) (d.trans (o.trans (aa U)))⟩
  | true =>
   refine a8 ⟨d.trans o,λj L y W=>?_,_,ϱ⟩
   rcases ŀ.mp L with z | z
   .exact l j z y W
   .rw [z,ex] at W
    cases W
    exact ht
 rintro σ H1 ⟨d,l,Y,rfl⟩
 rw [← pl] at l
 have Zd:=g.keep d
 refine ⟨_,ϱ,a,CP,r,_,_,ϱ,Zd.ins,T.cl,T.nm,Cs _ _ _,ϱ,_,ϱ,?_⟩
 rw [vI]
 cases hb:b with
 | false =>
  subst hb
  exact a8 (Z (.calm l λz=>by cases z) _ d)
 | true =>
  subst hb
  exact bx ⟨_,ϱ,_,true,xs,ϱ,⟨a,r,sl,tp,u,ϱ,Zd⟩,hl,λX H2 o=>Z (.calm l λ_=>X) _ (d.trans o),λk x H2 O t1 ex hn X o=>qe false k _ O (.way l rfl t1 ex hn X) (d.trans o)⟩
def Ab(b:Bool)(sz:ć)(xs:î Zc):Prop:=gZ sz xs xs.length/\(b=true->gH xs xs.length)
theorem zI{b:Bool}{sz:ć}{xs:î Zc}{p:Bool×Nat}(h:Due b sz xs (some p)):¬Ab b sz xs:=λf=>by
 cases h with
 | place ex ht al =>
  rw [f.1 _ (ſ.mp ex).1 _ ex] at ht
  cases ht
 | way al hb t1 ex hn nn=>exact f.2 hb _ t1 (ſ.mp ex).1 _ ex hn
inductive u8 (CP:ø) (CW:Wd->ø) (CT:ø) (vs:î V) (H:Hp) (Q:VK) (E:XK):Prop|mk b xs:vs=[.str (Zf (mS b) xs)]->ArS xs->xs≠[]->xs.length<=13->((xs.length<=12->∀a dx sl tp us H',NI H H'->H sl=none->PaU CP CW H' (mS b) xs a dx sl tp us->Q (.ref a) H'))->((¬xs.length<=12->∀tk H',NI H H'->E (.int (-1) tk) (some CT) H'))->u8 CP CW CT vs H Q E
def wC{Z fT:ø}{dT:õ}(M:XA.MkX K Z fT)(FT:NH P w K mg base Za 1 fT dT vT (XA.qH Z))(bT:NT K dT vT [])(mT:mg "NoText"=some (.ref Z))(F:Fun K "read_pact" "read_pact" da f fd)(B:TxB mg){aM:ø}(mM:mg "MANNERS"=some (.ref aM))(tM:∀H,NN K H aM [.str "held",.str "walked"])(cM:∃t,mg "MOST_STEPS"=some (.int 12 t)){fI:ø}{dI:õ}(MP:Mk K CP fI)(as:mg "Pact"=some (.ref CP))
  (GI:NH P w K mg base Za 1 fI dI KW (qM CP))(bI:NT K dI KW [])(GR:GF P w K mg base Za 7 "read_part" Nn (qL CW)):NH P w K mg base (XA.CXA P w) 8 f fd Nf (u8 CP CW Z):=by
 refine XA.okA F sc_read_pact (λvs H Q E h=>?_) (λbB A a6 s H vs Q E hr h=>?_)
 .obtain ⟨b,xs,rfl,_⟩:=h
  rfl
 obtain ⟨b,xs,rfl,ar,h0,hl,q,qe⟩:=h
 obtain ⟨bt,cM⟩:=cM
 have nd:=sc_read_pact.nd
 have G:NU (1+1) _:=hr.mono ζ
 refine ⟨_,ac (sN 1 nd (dg Ŧ PySem.F.slot_str_partition PySem.F.type_str_partition vG (pv 0) (Zd aw)))
  (ac (aC (PW.pt (cU (aJ (wA Fs (hun hr)) (Zj K (pv 1)) (dZ (v:=.ref aM) rfl mM rfl) rfl) (cR (Zl (Zj K (pv 1)) aw)))) aQ ao)
  (ac (sN 2 nd (dg Ŧ PySem.F.slot_str_split PySem.F.type_str_split wI (Zj K (pv 1)) (Zd aw)))
  (ac (aC (aJ pQ (aq az rfl B.len Ź (Zd (pv 2))) (dZ (v:=.int 12) rfl cM ⟨_,ϱ⟩) (aF _)) (au (XA.iV XA.j0 rfl M FT bT G rfl mT (Zd (eR cA af)))) ao)
  (Ze (bR MP GI G rfl as bI .nil bE (Zb (Zj K (pv 1)) (fz og rfl (bD rfl B.range (Zd (aq az rfl B.len Ź (Zd (pv 2))))) (λ_ _ _ _=>bo)
   (λ_ _ _ _=>pc GR hr (Zb (bc K (pv 1) (pv 0)) (pv 0)))))))))),?_⟩
 have js:=jr ar ω
 have ml:=zb b
 have l1:(" ":Str).length=1:=by decide +kernel
 have hs:(100000:Nat)<=sizeLine:=by decide
 have pl:(Zf (mS b) xs).length<=40000:=by
  have:(Zf (mS b) xs).length=(mS b).length+(" ":Str).length+(Str.join ("; ":Str) (xs.map sx)).length:=by
   show (((mS b).cps++(" ":Str).cps)++(Str.join ("; ":Str) (xs.map sx)).cps).size=_
   rw [Ť,Ť]
   rfl
  lia
 refine ⟨_,ϱ,ϱ,_,_,ϱ,ϱ,θ,ω,λp hp=>?_⟩
 rw [sG]
 have s1:=aa (o:=.tup [.str (mS b),.str (" ":Str),.str (Str.join ("; ":Str) (xs.map sx))]) hp
 have d:(upd H p (.tup [.str (mS b),.str (" ":Str),.str (Str.join ("; ":Str) (xs.map sx))])) p=some (.tup [.str (mS b),.str (" ":Str),.str (Str.join ("; ":Str) (xs.map sx))]):=Ny
 generalize (upd H p (HO.tup [.str (mS b),.str (" ":Str),.str (Str.join ("; ":Str) (xs.map sx))]))=H1 at s1 d ⊢
 refine ⟨_,ϱ,p,_,_,_,ϱ,ϱ,NA d,St.at0,mS b,aM,_,["held","walked"],ϱ,ϱ,.inr (tM H1),.cons rfl (.cons rfl .nil),_,ϱ,?_⟩
 have a2:mS b∈(["held","walked"]:Ĉ):=by cases b<;>decide +kernel
 refine aP (λc=>absurd a2 (of_decide_eq_false (by simpa using c))) (λ_=>?_)
 refine ⟨_,ϱ,p,_,_,_,ϱ,ϱ,NA d,St.at1,ϱ,_,ϱ,aP (λc=>absurd (V.str.inj (Ξ c)) θ) (λ_=>?_)⟩
 refine ⟨_,ϱ,p,_,_,_,ϱ,ϱ,NA d,St.at2,ϱ,_,_,ϱ,ϱ,θ,ω,λD ab=>?_⟩
 rw [wt h0]
 have s2:=aa (o:=.lst ((xs.map sx).map V.str)) ab
 have g:(upd H1 D (.lst ((xs.map sx).map V.str))) D=some (.lst ((xs.map sx).map V.str)):=Ny
 have I:=s2 _ _ d
 generalize (upd H1 D (HO.lst ((xs.map sx).map V.str)))=H2 at s2 g I ⊢
 have r:=s1.trans s2
 have W:((xs.map sx).map V.str).length=xs.length:=by rw [ν,ν]
 refine ⟨_,ϱ,D,_,ϱ,.inl (Nz g),_,_,ϱ,ϱ,_,ϱ,aP (λc=>?_) (λc=>?_)⟩
 .have hc:((((xs.map sx).map V.str).length:Nat):Int)>12:=Ξ c
  rw [W] at hc
  exact ⟨_,ϱ,_,ϱ,λdd tk ad=>qe ω tk _ (r.trans (aa ad))⟩
 have J:xs.length<=12:=by
  have hc:¬((((xs.map sx).map V.str).length:Nat):Int)>12:=λz=>c (τ z)
  rw [W] at hc
  lia
 replace q:=q J
 refine ⟨_,ϱ,p,_,_,_,ϱ,ϱ,NA I,St.at0,?_⟩
 refine ⟨_,ϱ,D,_,ϱ,.inl (Nz g),_,ϱ,ω,by rw [W];lia,?_⟩
 have e0:((((xs.map sx).map V.str).length:Nat):Int).toNat=xs.length:=by rw [W];rfl
 rw [e0]
 refine iK (n:=xs.length) (λi j H'=>NI H2 H'/\StsP CW H' (xs.take i) j) ⟨NC _,.nil⟩ ω ?_ ?_
 .rintro i j H3 hi ⟨U,Y⟩
  have hx:xs[i]?=some xs[i]:=ξ hi
  refine fW ⟨_,ϱ,_,ϱ,D,_,_,_,ϱ,ϱ,Nz (U _ _ g),ay (by rw [Ż,Ż,hx];rfl),_,ϱ,xs[i],_,ϱ,ar _ (List.getElem_mem hi),λv H4 y sv=>⟨U.trans y,?_⟩⟩
  have e2:xs.take (i+1)=xs.take i++[xs[i]]:=by
   rw [Ų,hx]
   rfl
  exact e2▸(Y.keep y).app (.cons sv .nil)
 .rintro j H3 ⟨U,Y⟩ l al
  rw [Ū] at Y
  have y:=aa (o:=.lst j) al
  have X:(upd H3 l (.lst j)) l=some (.lst j):=Ny
  have L:=Y.keep y
  generalize (upd H3 l (HO.lst j))=H4 at y X L ⊢
  intro x dx nx C c0
  refine ⟨x,dx,_,l,j,ϱ,Ny,(by rw [am (ap X nx),am (ap X C)];exact X),λO tp H5 e1 e2 e3 n1 n2 k=>⟨ϱ,?_⟩⟩
  have s5:=lN nx C k
  have z4:H4 O=none:=by
   cases e:H4 O with
   | none=>rfl
   | some u =>
    rw [am (ap e nx),am (ap e C),e] at n1
    cases n1
  have z0:H O=none:=by
   cases e:H O with
   | none=>rfl
   | some u =>
    rw [(r.trans (U.trans y)) _ _ e] at z4
    cases z4
  exact q x dx O tp j H5 (r.trans (U.trans (y.trans s5))) z0 ⟨e1,e2,e3,L.keep s5⟩
inductive g8 (val:Int->Int) (n:Nat) (vs:î V) (H:Hp) (Q:VK) (E:XK):Prop|mk (c:Int):vs=[.int c]->0<=c->c<n->(∀H',NI H H'->Q (.int (val c)) H')->g8 val n vs H Q E
def sg(val:Int->Int)(a:Int):Nat->Int
 | 0=>0
 | n+1=>sg val a n+val (a+n)
def yb(a:Int)(n:Nat):ć:=(List.range n).map λi=>a+(i:Nat)
def so(a:Int)(n:Nat):yb a (n+1)=yb a n++[a+n]:=by
 unfold yb
 rw [List.range_succ,ż]
 rfl
def An(val:Int->Int)(a:Int)(n:Nat):((yb a n).map val).sum=sg val a n:=by
 induction n with
 | zero=>rfl
 | succ n ih =>
  rw [so,ż,List.sum_append,ih]
  simp [sg]
def dn(val:Int->Int):Wd->ć->Int->Int×î (Int×Int)
 | .take,[_,c],_=>(val c,[])
 | .mean,[_,c],_=>(val c,[])
 | .sum,[_,a,b],_=>(sg val a (b+1-a).toNat,[])
 | .give,[_,c],h=>(h,[(c,h)])
 | .add,[_,c,v],h=>(h,[(c,val c+v)])
 | .plus,[a],h=>(h+a,[])
 | _,_,h=>(h,[])
def bk(val:Int->Int):Wd->ć->î (Int×Int)
 | .add,[_,c,v]=>[(c,val c-v)]
 | _,_=>[]
def inC(n:Nat):Wd->ć->Int->Prop
 | .sum,[_,a,b],_=>a<n/\b<n
 | .add,[_,c,_],_=>c<n
 | .need,[a],h=>a<=h
 | .plus,_,_=>True
 | .need,_,_=>False
 | _,[_,c],_=>c<n
 | _,_,_=>False
def ChT(H:Hp)(cs:î (Int×Int))(a:ø):Prop:=∃us,H a=some (.tup us)/\Paired (λ(x:Int×Int) u=>∃b,u=.ref b/\H b=some (.tup [.int x.1,.int x.2])) cs us
def ChT.keep{H H':Hp}{cs:î (Int×Int)}{a:ø}(s:a9 H H')(h:ChT H cs a):ChT H' cs a:=by
 obtain ⟨d,h1,f⟩:=h
 exact ⟨d,s _ _ h1,NB f λ_ _ ⟨b,e,z⟩=>⟨b,e,s _ _ z⟩⟩
inductive jh (P:ù) (w:ö) (K:ò) (mg:ď) (CW:Wd->ø) (val:Int->Int) (n:Nat) (wd:Wd) (B:ñ) (vs:î V) (H:Hp) (Q:VK) (E:XK):Prop|mk v ns hand fv:vs=[v,.int hand,.ref fv]->Ar wd ns->inC n wd ns hand->StO CW H wd ns v->CloT P w K mg B 4 fv (g8 val n) H->(∀t ch H',NI H H'->H' t=some (.tup [.int (dn val wd ns hand).1,.ref ch])->ChT H' (dn val wd ns hand).2 ch->Q (.ref t) H')->jh P w K mg CW val n wd B vs H Q E
inductive kr (P:ù) (w:ö) (K:ò) (mg:ď) (CW:Wd->ø) (val:Int->Int) (n:Nat) (wd:Wd) (B:ñ) (vs:î V) (H:Hp) (Q:VK) (E:XK):Prop|mk v ns fv:vs=[v,.ref fv]->Ar wd ns->inC n wd ns 0->StO CW H wd ns v->CloT P w K mg B 4 fv (g8 val n) H->(∀ch H',NI H H'->ChT H' (bk val wd ns) ch->Q (.ref ch) H')->kr P w K mg CW val n wd B vs H Q E
section
variable {val:Int->Int}{n:Nat}
def yO{wd:Wd}{st:ð}{q:Str}(hw:wd=.take\/wd=.mean)(F:Fun K "step_done" q st f fd)(S:ag tz tz (NE st)){p1 p2 p3 p4 p5 p6 p7 x1 x2}(Y:NF st=[.Return (some (.Tuple [.Call (.Name "value_of" p1) [.Attribute (.Name "self" p2) "cell" p3] [] p4,.Tuple [] x1 p5] x2 p6)) p7])(z:NE st=NE bW)(T:TxW K CW) :
  NH P w K mg base Za 5 f fd tz (jh P w K mg CW val n wd base):=by
 refine F.oj S λO A l s H vs Q E u h=>?_
 obtain ⟨v,Z,d,C,rfl,D,G,⟨a,I,rfl,o⟩,r,q⟩:=h
 rw [Y,z]
 rw [z] at u
 obtain ⟨x,y,rfl,h1,J,e⟩:=D.c (by rcases hw with rfl | rfl<;>rfl)
 rw [e] at o
 have j:y<n:=by rcases hw with rfl | rfl<;>exact G
 have L:dn val wd [x,y] d=(val y,[]):=by rcases hw with rfl | rfl<;>rfl
 rw [L] at q
 refine ⟨_,Ze (aA (Zb (jJ (k:=4) (i:=2) (sp:=g8 val n) P w K mg base rfl (.inl rfl) u (Zd (aE (pv 0) rfl))) (aA aO))),?_⟩
 refine ⟨C,ϱ,r.fn,_,ϱ,a,CW wd,I,_,_,ϱ,o,T.cl _,T.nC _,bg,_,ϱ,r,y,ϱ,J.1,j,λH1 U=>⟨χ,λt W=>⟨χ,λX g=>q X t _ (U.trans ((aa W).trans (aa g))) Ny ⟨[],aa g _ _ Ny,.nil⟩⟩⟩⟩
def yQ(F:Fun K "step_done" "GiveStep.step_done" bZ f fd)(T:TxW K CW):NH P w K mg base Za 5 f fd tz (jh P w K mg CW val n .give base):=by
 refine F.oj gU λu A j s H vs Q E U h=>?_
 obtain ⟨v,G,k,I,rfl,o,J,⟨a,r,rfl,l⟩,L,q⟩:=h
 obtain ⟨x,y,rfl,h1,O,e⟩:=o.c rfl
 rw [e] at l
 refine ⟨_,Ze (aA (Zb (pv 1) (aA (Zd (aA (Zb (aE (pv 0) rfl) (pv 1))))))),?_⟩
 refine ⟨_,ϱ,_,ϱ,a,CW .give,r,_,_,ϱ,l,T.cl _,T.nC _,bg,_,ϱ,χ,λt z=>⟨χ,λC g=>⟨χ,λD d=>q D C _ ((aa z).trans ((aa g).trans (aa d))) Ny ⟨_,aa d _ _ Ny,.cons ⟨t,ϱ,?_⟩ .nil⟩⟩⟩⟩
 exact aa d _ _ (aa g _ _ Ny)
def zw(x y z:Int):(kZ .add [x,y,z]).lookup ("cell":Str)=some (V.int y)/\(kZ .add [x,y,z]).lookup ("amount":Str)=some (V.int z):=by
 constructor
 .show (aK "amount" _ (aK "cell" _ (aK "where" _ []))).lookup _=_
  rw [bp θ,bg]
 .show (aK "amount" _ (aK "cell" _ (aK "where" _ []))).lookup _=_
  rw [bg]
def A3(F:Fun K "step_done" "AddStep.step_done" cn f fd)(T:TxW K CW):NH P w K mg base Za 5 f fd tz (jh P w K mg CW val n .add base):=by
 refine F.oj hO λO A l s H vs Q E U h=>?_
 obtain ⟨v,Z,o,D,rfl,G,I,⟨a,g,rfl,j⟩,r,q⟩:=h
 obtain ⟨x,y,z,rfl,h1,J,_⟩:=G.a
 refine ⟨_,Ze (aA (Zb (pv 1) (aA (Zd (aA (Zb (aE (pv 0) rfl) (ai aU (jJ (k:=4) (i:=2) (sp:=g8 val n) P w K mg base rfl (.inl rfl) U (Zd (aE (pv 0) rfl))) (aE (pv 0) rfl)))))))),?_⟩
 obtain ⟨u,L⟩:=zw x y z
 refine ⟨_,ϱ,_,ϱ,a,CW .add,g,_,_,ϱ,j,T.cl _,T.nC _,u,D,ϱ,r.fn,_,ϱ,a,CW .add,g,_,_,ϱ,j,T.cl _,T.nC _,u,_,ϱ,r,y,ϱ,J.1,I,λH1 C=>⟨_,ϱ,a,CW .add,g,_,_,ϱ,C _ _ j,T.cl _,T.nA _,L,_,_,ϱ,ϱ,
  χ,λt W=>⟨χ,λX e=>⟨χ,λY d=>q Y X _ (C.trans ((aa W).trans ((aa e).trans (aa d)))) Ny ⟨_,aa d _ _ Ny,.cons ⟨t,ϱ,?_⟩ .nil⟩⟩⟩⟩⟩
 exact aa d _ _ (aa e _ _ Ny)
def A5(F:Fun K "back" "AddStep.back" e8 f fd)(T:TxW K CW):NH P w K mg base Za 5 f fd HI (kr P w K mg CW val n .add base):=by
 refine F.oj l8 λJ A j s H vs Q E L h=>?_
 obtain ⟨v,W,u,rfl,C,D,⟨a,e,rfl,g⟩,l,q⟩:=h
 obtain ⟨x,y,z,rfl,h1,G,_⟩:=C.a
 refine ⟨_,Ze (aA (Zd (aA (Zb (aE (pv 0) rfl) (ai iz (jJ (k:=4) (i:=1) (sp:=g8 val n) P w K mg base rfl (.inl rfl) L (Zd (aE (pv 0) rfl))) (aE (pv 0) rfl)))))),?_⟩
 obtain ⟨o,I⟩:=zw x y z
 refine ⟨_,ϱ,a,CW .add,e,_,_,ϱ,g,T.cl _,T.nC _,o,u,ϱ,l.fn,_,ϱ,a,CW .add,e,_,_,ϱ,g,T.cl _,T.nC _,o,_,ϱ,l,y,ϱ,G.1,D,λH1 r=>⟨_,ϱ,a,CW .add,e,_,_,ϱ,r _ _ g,T.cl _,T.nA _,I,_,_,ϱ,ϱ,
  χ,λt O=>⟨χ,λU d=>q U _ (r.trans ((aa O).trans (aa d))) ⟨_,Ny,.cons ⟨t,ϱ,?_⟩ .nil⟩⟩⟩⟩
 exact aa d _ _ Ny
def kW{wd:Wd}(hw:wd≠.add)(F:Fun K "back" "Step.back" iD f fd):NH P w K mg base Za 5 f fd HI (kr P w K mg CW val n wd base):=by
 refine F.oj qX λk A d s H vs Q E y h=>?_
 obtain ⟨v,g,o,rfl,r,u,j,x,q⟩:=h
 have e:bk val wd g=[]:=by
  unfold bk
  split
  .exact absurd rfl hw
  .rfl
 rw [e] at q
 exact ⟨_,Ze (aA aO),χ,λt l=>q t _ (aa l) ⟨[],Ny,.nil⟩⟩
def yP(F:Fun K "step_done" "PlusStep.step_done" bX f fd)(T:TxW K CW):NH P w K mg base Za 5 f fd tz (jh P w K mg CW val n .plus base):=by
 refine F.oj gR λo A e s H vs Q E G h=>?_
 obtain ⟨v,y,g,z,rfl,j,C,⟨a,k,rfl,l⟩,D,q⟩:=h
 obtain ⟨x,rfl,h1⟩:=j.p
 refine ⟨_,Ze (aA (Zb (ai aU (pv 1) (aE (pv 0) rfl)) (aA aO))),?_⟩
 exact ⟨_,ϱ,_,ϱ,a,CW .plus,k,_,_,ϱ,l,T.cl _,T.nA _,bg,_,_,ϱ,ϱ,χ,λt r=>⟨χ,λu d=>q u t _ ((aa r).trans (aa d)) Ny ⟨[],aa d _ _ Ny,.nil⟩⟩⟩
def A2(F:Fun K "step_done" "SumStep.step_done" bb f fd)(T:TxW K CW)(B:TxB mg)(e:mg "sum"=none)(hn:n<=1000):NH P w K mg base Za 5 f fd tz (jh P w K mg CW val n .sum base):=by
 refine F.oj hJ λY A l s H vs Q E Z h=>?_
 obtain ⟨v,ns,r,G,rfl,I,J,⟨a,u,rfl,C⟩,L,q⟩:=h
 obtain ⟨x,y,z,rfl,h1,O,h3,h4⟩:=I.s
 refine ⟨_,Ze (aA (Zb (aq (je rfl) rfl e PyProof.Rows.boot_sum (Zd (fz gu rfl (kO rfl B.range (Zb (aE (pv 0) rfl) (ai aU (aE (pv 0) rfl) af))) (λ_ _ _ _=>bo)
  (λ_ _ _ _=>jJ (k:=4) (i:=1) (sp:=g8 val n) P w K mg base rfl (by first | exact Or.inl rfl | exact Or.inr (Or.inl rfl) | exact Or.inr (Or.inr rfl)) Z (Zd (pv 0)))))) (aA aO))),?_⟩
 have U:(kZ .sum [x,y,z]).lookup ("low":Str)=some (V.int y):=by
  show (aK "high" _ (aK "low" _ (aK "where" _ []))).lookup _=_
  rw [bp θ,bg]
 have W:(kZ .sum [x,y,z]).lookup ("high":Str)=some (V.int z):=by
  show (aK "high" _ (aK "low" _ (aK "where" _ []))).lookup _=_
  rw [bg]
 have y0:0<=y:=O.1
 have X:z<n:=J.2
 refine ⟨_,ϱ,a,CW .sum,u,_,_,ϱ,C,T.cl _,T.nL _,U,_,ϱ,a,CW .sum,u,_,_,ϱ,C,T.cl _,T.nH _,W,_,_,ϱ,ϱ,_,_,ϱ,⟨ω,ω,ω,ω⟩,?_⟩
 have hz:(z+1-y).toNat<=n:=by lia
 have j:(1000:Nat)<=sizeLine:=by decide
 refine pV (λi o H'=>NI H H'/\o=((yb y i).map val).map V.int) ⟨NC _,ϱ⟩ ω ?_ ?_
 .rintro i o H2 hi ⟨g,rfl⟩
  have D:=L.keep g
  refine fW ⟨G,ϱ,D.fn,_,ϱ,_,ϱ,D,y+i,ϱ,ω,ω,λH3 s3=>⟨g.trans s3,?_⟩⟩
  rw [so,ż,ż]
  rfl
 .rintro o H2 ⟨g,rfl⟩ p hp
  refine ⟨p,_,ϱ,Nz Ny,?_⟩
  rw [An]
  exact ⟨χ,λt ht=>⟨χ,λt2 d=>q t2 t _ (g.trans ((aa hp).trans ((aa ht).trans (aa d)))) Ny ⟨[],aa d _ _ Ny,.nil⟩⟩⟩
end
def xk:Wd->ć->Int->Prop
 | .need,[a],h=>h<a
 | _,_,_=>False
theorem NH.lift{CX:CXT}{k:Nat}{ps:Ĉ}{sp:Sp}(F:NH P w K mg base Za k f fd ps sp):NH P w K mg base CX k f fd ps sp :=
 ⟨F.len,λA outer s H args us vs Q E hr he hb hv hs=>Ł (F.run A outer s H args us vs Q E hr he hb hv hs) λr s' h=>by
  cases r with
  | error e=>exact False.elim h
  | ok fl=>cases fl<;>exact h⟩
inductive iU (P:ù) (w:ö) (K:ò) (mg:ď) (CW:Wd->ø) (CN:ø) (val:Int->Int) (n:Nat) (wd:Wd) (B:ñ) (vs:î V) (H:Hp) (Q:VK) (E:XK):Prop|mk v ns hand fv:vs=[v,.int hand,.ref fv]->Ar wd ns->StO CW H wd ns v->CloT P w K mg B 4 fv (g8 val n) H->(((inC n wd ns hand/\∀t ch H',NI H H'->H' t=some (.tup [.int (dn val wd ns hand).1,.ref ch])->ChT H' (dn val wd ns hand).2 ch->Q (.ref t) H')\/(xk wd ns hand/\∀ev,E ev (some CN) H)))->iU P w K mg CW CN val n wd B vs H Q E
def lg{val:Int->Int}{n:Nat}{wd:Wd}{CN:ø}(hw:wd≠.need)(F:NH P w K mg base Za 5 f fd tz (jh P w K mg CW val n wd base)):NH P w K mg base (Zn P w) 5 f fd tz (iU P w K mg CW CN val n wd base) :=
 (NH.lift F).imp λvs H Q E h=>by
  obtain ⟨v,ns,hand,fv,e,ar,st,ct,⟨ic,q⟩ | ⟨u,_⟩⟩:=h
  .exact ⟨v,ns,hand,fv,e,ar,ic,st,ct,q⟩
  .exfalso
   unfold xk at u
   split at u
   .exact hw rfl
   .exact u
def wF{val:Int->Int}{n:Nat}{j:ø}(F:Fun K "step_done" "NeedStep.step_done" bY f fd)(T:TxW K CW)(mN:mg "NoNeed"=some (.ref j))(L:PySem.W.excIn K j [.type "ValueError",.type "Exception",.type "BaseException",.type "object"] "ValueError.__new__"=true):NH P w K mg base (Zn P w) 5 f fd tz (iU P w K mg CW j val n .need base):=by
 refine F.okE gS (λvs H Q E h=>?_) (λG A g s H vs Q E U h=>?_)
 .obtain ⟨v,l,d,o,rfl,_⟩:=h
  rfl
 obtain ⟨v,l,d,o,rfl,r,⟨a,y,rfl,C⟩,O,q⟩:=h
 obtain ⟨x,rfl,h1⟩:=r.n
 refine ⟨_,ac (aC (aJ ja (pv 1) (aE (pv 0) rfl) (aF _)) (au (yj zK rfl rfl mN L PySem.F.excBase_ValueError (Zd aw))) ao) (Ze (aA (Zb (pv 1) (aA aO)))),?_⟩
 refine ⟨_,ϱ,_,ϱ,a,CW .need,y,_,_,ϱ,C,T.cl _,T.nA _,bg,_,_,ϱ,ϱ,_,ϱ,aP (λc=>?_) (λc=>?_)⟩
 .have k:d<x:=Ξ c
  rcases q with ⟨ic,_⟩ | ⟨_,q⟩
  .have D:x<=d:=ic
   lia
  .exact ⟨ι _,λX=>q _⟩
 .have k:¬d<x:=λz=>c (τ z)
  rcases q with ⟨_,q⟩ | ⟨u,_⟩
  .exact ⟨_,ϱ,χ,λt I=>⟨χ,λJ e=>q J t _ ((aa I).trans (aa e)) Ny ⟨[],aa e _ _ Ny,.nil⟩⟩⟩
  .exact absurd u k
def yG(F:Fun K "lock" "TakeStep.lock" dE f fd)(W:TxW K CW)(T:TxK K C)(r:∀k,mg (kdN k)=some (.ref (C k))){G:ø}{I:õ}(M:∀k,Mk K (C k) G)
  (Y:NH P w K mg base Za 1 G I y9 (gs C))(Z:NT K I y9 [])(GT:∀k,GM P w K mg base Za 2 (C k) "told" vi (g9 C)):NH P w K mg base Za 3 f fd vi (dX CW K .take):=by
 refine F.oj kt λL A j s H vs Q E D h=>?_
 obtain ⟨v,ns,rfl,J,⟨a,u,rfl,d⟩,q⟩:=h
 obtain ⟨x,y,rfl,_,_,e⟩:=J.c rfl
 rw [e] at d
 have g:NU (1+1) _:=D
 refine ⟨_,Ze (pm0 (GT .read) (bR (M .read) Y g rfl (r .read) Z .nil bE (Zb (aE (pv 0) rfl) (aE (pv 0) rfl))) (T.cl .read) D),?_⟩
 refine ⟨_,ϱ,a,_,u,_,_,ϱ,d,W.cl _,W.nC _,bg,_,ϱ,a,_,u,_,_,ϱ,d,W.cl _,W.nC _,bg,λz l O o U=>⟨z,l,.read,y,y,ϱ,Ny,ϱ,z,l,_,ϱ,Ny,pU _ _ θ θ,_,(.read,y,y),ϱ,⟨z,l,ϱ,Ny⟩,λt X=>?_⟩⟩
 exact q _ _ ((jQ O o).trans (aa X)) ⟨t,ϱ,Ny⟩
def yH(F:Fun K "lock" "MeanStep.lock" dL f fd)(W:TxW K CW)(T:TxK K C)(r:∀k,mg (kdN k)=some (.ref (C k))){G:ø}{I:õ}(M:∀k,Mk K (C k) G)
  (Y:NH P w K mg base Za 1 G I y9 (gs C))(Z:NT K I y9 [])(GT:∀k,GM P w K mg base Za 2 (C k) "told" vi (g9 C)):NH P w K mg base Za 3 f fd vi (dX CW K .mean):=by
 refine F.oj kD λL A j s H vs Q E D h=>?_
 obtain ⟨v,ns,rfl,J,⟨a,u,rfl,d⟩,q⟩:=h
 obtain ⟨x,y,rfl,_,_,e⟩:=J.c rfl
 rw [e] at d
 have g:NU (1+1) _:=D
 refine ⟨_,Ze (pm0 (GT .mean) (bR (M .mean) Y g rfl (r .mean) Z .nil bE (Zb (aE (pv 0) rfl) (aE (pv 0) rfl))) (T.cl .mean) D),?_⟩
 refine ⟨_,ϱ,a,_,u,_,_,ϱ,d,W.cl _,W.nC _,bg,_,ϱ,a,_,u,_,_,ϱ,d,W.cl _,W.nC _,bg,λz l O o U=>⟨z,l,.mean,y,y,ϱ,Ny,ϱ,z,l,_,ϱ,Ny,pU _ _ θ θ,_,(.mean,y,y),ϱ,⟨z,l,ϱ,Ny⟩,λt X=>?_⟩⟩
 exact q _ _ ((jQ O o).trans (aa X)) ⟨t,ϱ,Ny⟩
def yJ(F:Fun K "lock" "GiveStep.lock" dO f fd)(W:TxW K CW)(T:TxK K C)(r:∀k,mg (kdN k)=some (.ref (C k))){G:ø}{I:õ}(M:∀k,Mk K (C k) G)
  (Y:NH P w K mg base Za 1 G I y9 (gs C))(Z:NT K I y9 [])(GT:∀k,GM P w K mg base Za 2 (C k) "told" vi (g9 C)):NH P w K mg base Za 3 f fd vi (dX CW K .give):=by
 refine F.oj kH λL A j s H vs Q E D h=>?_
 obtain ⟨v,ns,rfl,J,⟨a,u,rfl,d⟩,q⟩:=h
 obtain ⟨x,y,rfl,_,_,e⟩:=J.c rfl
 rw [e] at d
 have g:NU (1+1) _:=D
 refine ⟨_,Ze (pm0 (GT .change) (bR (M .change) Y g rfl (r .change) Z .nil bE (Zb (aE (pv 0) rfl) (aE (pv 0) rfl))) (T.cl .change) D),?_⟩
 refine ⟨_,ϱ,a,_,u,_,_,ϱ,d,W.cl _,W.nC _,bg,_,ϱ,a,_,u,_,_,ϱ,d,W.cl _,W.nC _,bg,λz l O o U=>⟨z,l,.change,y,y,ϱ,Ny,ϱ,z,l,_,ϱ,Ny,pU _ _ θ θ,_,(.change,y,y),ϱ,⟨z,l,ϱ,Ny⟩,λt X=>?_⟩⟩
 exact q _ _ ((jQ O o).trans (aa X)) ⟨t,ϱ,Ny⟩
def AU(F:Fun K "lock" "AddStep.lock" eX f fd)(W:TxW K CW)(T:TxK K C)(l:∀k,mg (kdN k)=some (.ref (C k))){D:ø}{G:õ}(M:∀k,Mk K (C k) D)
  (X:NH P w K mg base Za 1 D G y9 (gs C))(Y:NT K G y9 [])(Z:∀k,GM P w K mg base Za 2 (C k) "told" vi (g9 C)):NH P w K mg base Za 3 f fd vi (dX CW K .add):=by
 refine F.oj lW λJ A e s H vs Q E u h=>?_
 obtain ⟨v,ns,rfl,I,⟨a,o,rfl,r⟩,q⟩:=h
 obtain ⟨x,y,z0,rfl,_⟩:=I.a
 have d:NU (1+1) _:=u
 refine ⟨_,Ze (pm0 (Z .change) (bR (M .change) X d rfl (l .change) Y .nil bE (Zb (aE (pv 0) rfl) (aE (pv 0) rfl))) (T.cl .change) u),?_⟩
 refine ⟨_,ϱ,a,_,o,_,_,ϱ,r,W.cl _,W.nC _,(by show (aK "amount" _ (aK "cell" _ (aK "where" _ []))).lookup _=_;rw [bp θ,bg]),_,ϱ,a,_,o,_,_,ϱ,r,W.cl _,W.nC _,(by show (aK "amount" _ (aK "cell" _ (aK "where" _ []))).lookup _=_;rw [bp θ,bg]),λz g L j O=>⟨z,g,.change,y,y,ϱ,Ny,ϱ,z,g,_,ϱ,Ny,pU _ _ θ θ,_,(.change,y,y),ϱ,⟨z,g,ϱ,Ny⟩,λt U=>?_⟩⟩
 exact q _ _ ((jQ L j).trans (aa U)) ⟨t,ϱ,Ny⟩
def AR(F:Fun K "lock" "SumStep.lock" eV f fd)(W:TxW K CW)(T:TxK K C)(l:∀k,mg (kdN k)=some (.ref (C k))){D:ø}{G:õ}(M:∀k,Mk K (C k) D)
  (X:NH P w K mg base Za 1 D G y9 (gs C))(Y:NT K G y9 [])(Z:∀k,GM P w K mg base Za 2 (C k) "told" vi (g9 C)):NH P w K mg base Za 3 f fd vi (dX CW K .sum):=by
 refine F.oj lT λJ A e s H vs Q E u h=>?_
 obtain ⟨v,ns,rfl,I,⟨a,o,rfl,r⟩,q⟩:=h
 obtain ⟨x,y,y2,rfl,_⟩:=I.s
 have d:NU (1+1) _:=u
 refine ⟨_,Ze (pm0 (Z .read) (bR (M .read) X d rfl (l .read) Y .nil bE (Zb (aE (pv 0) rfl) (aE (pv 0) rfl))) (T.cl .read) u),?_⟩
 refine ⟨_,ϱ,a,_,o,_,_,ϱ,r,W.cl _,W.nL _,(by show (aK "high" _ (aK "low" _ (aK "where" _ []))).lookup _=_;rw [bp θ,bg]),_,ϱ,a,_,o,_,_,ϱ,r,W.cl _,W.nH _,bg,λz g L j O=>⟨z,g,.read,y,y2,ϱ,Ny,ϱ,z,g,_,ϱ,Ny,pU _ _ θ θ,_,(.read,y,y2),ϱ,⟨z,g,ϱ,Ny⟩,λt U=>?_⟩⟩
 exact q _ _ ((jQ L j).trans (aa U)) ⟨t,ϱ,Ny⟩
def sI{wd:Wd}(hw:wd=.plus\/wd=.need)(F:Fun K "lock" "Step.lock" iC f fd):NH P w K mg base Za 1 f fd vi (dX CW K wd):=by
 refine F.oj qW λj A d s H vs Q E o h=>?_
 obtain ⟨v,g,rfl,k,l,q⟩:=h
 refine ⟨_,Ze gE,?_⟩
 have e:vJ wd g=none:=by rcases hw with rfl | rfl<;>rfl
 rw [e] at q
 exact q .non H (NC H) rfl
end
end K82
namespace K82T
open PySem L2 Km PySem.NumText
abbrev xX:ð:=K82.om
abbrev vf:ð:=K82.jG
abbrev By:ð:=K82.pM
abbrev BA:ð:=K82.jb
abbrev Bz:ð:=K82.gP
abbrev DW:ð:=K82.fD
abbrev xY:ð:=K82.dU
abbrev DV:ð:=K82.dh
def tp:¬(("text":Str)="place"):=by decide +kernel
def rf(z:Str)(k:Int):List (Str×V):=aK "place" (.int k) (aK "text" (.str z) [])
def ye(z:Str)(k:Int):rf z k=([("text",V.str z),("place",V.int k)]:List (Str×V)):=by
 show (if ("text":Str)="place" then [(("text":Str),V.int k)] else (("text":Str),V.str z)::aK "place" (V.int k) [])=([("text",V.str z),("place",V.int k)]:List (Str×V))
 rw [ŵ tp]
 all_goals rfl
def mJ(z:Str)(k:Int):(rf z k).lookup ("text":Str)=some (.str z):=by
 unfold rf
 rw [aV,ŵ tp,aV,ů rfl]
def df(z:Str)(k:Int):(rf z k).lookup ("place":Str)=some (.int k):=by
 unfold rf
 rw [aV,ů rfl]
def sA(z:Str)(k:Int){m:Str}(h1:¬m="place")(d:¬m="text"):(rf z k).lookup m=none:=by
 unfold rf
 rw [aV,ŵ h1,aV,ŵ d]
 all_goals rfl
def yc(z:Str)(k j:Int):aK "place" (.int j) (rf z k)=rf z j:=by
 rw [ye,ye]
 show (if ("text":Str)="place" then _ else (("text":Str),V.str z)::(if ("place":Str)="place" then [(("place":Str),V.int j)] else _))=([("text",V.str z),("place",V.int j)]:List (Str×V))
 rw [ŵ tp,ů rfl]
def yd(z:Str)(k:Int):(rf z k).length=2:=by rw [ye];rfl
structure Tx(K:ò)(mg:ď)(C:ø):Prop where
 cl:Cls K C
 nT:Zo K C "text"
 nP:Zo K C "place"
 mgC:mg "Reader"=some (.ref C)
 isi:mg "isinstance"=none
 int:mg "int"=none
 bool:mg "bool"=none
 str:mg "str"=none
 len:mg "len"=none
 ord:mg "ord"=none
 all:mg "all"=none
 range:mg "range"=none
 cFig:∃t,mg "MOST_FIGURES_things"=some (.int 400 t)
 cDeep:∃t,mg "MOST_DEEP"=some (.int 8 t)
 cLong:∃t,mg "LONGEST"=some (.int 100000 t)
 cBl:∃t,mg "BLANK"=some (.int 32 t)
 cPc:∃t,mg "PERCENT"=some (.int 37 t)
 cTi:∃t,mg "TILDE"=some (.int 126 t)
def sX{X:Cx}{x:Str}{i:Int}{pos:Pos}(d:∃t,X.mg x=some (.int i t))(f:Gl X x)(g:(x==("__debug__":Str))=false:=by decide):PE X (.Name x pos) (tC (.int i)):=by
 obtain ⟨t,e⟩:=d
 exact dZ f e ⟨t,ϱ⟩ g
section
variable {K:ò}
def uK:PySem.W.kitOne K (.type "int") (.type "int")=some true:=rfl
def uL:PySem.W.kitOne K (.type "int") (.type "bool")=some false:=by kernel_rfl
end
section
variable {P:ù}{w:ö}{K:ò}{mg:ď}{base:ñ}{f C:ø}{fd:õ}
inductive qI (vs:î V) (H:Hp) (Q:VK) (E:XK):Prop|mk i:vs=[.int i]->Q (.bl true) H->qI vs H Q E
def Ay:ag ["thing"] ["thing"] (NE xX):=í
def yw(F:Fun K "is_whole" "is_whole" xX f fd)(T:Tx K mg C):NH P w K mg base Za 1 f fd ["thing"] qI:=by
 refine F.oj Ay λe A d s H vs Q E g h=>?_
 obtain ⟨i,rfl,q⟩:=h
 refine ⟨_,au (eO (kS (aq fH rfl T.isi ũ (aj (pv 0) (aj (jK (v:=.ty "int") rfl T.int Ġ rfl) aO)))
  (iu (Cv (aq fH rfl T.isi ũ (aj (pv 0) (aj (jK (v:=.ty "bool") rfl T.bool PyProof.Rows.boot_bool rfl) aO))))))),?_⟩
 exact ⟨_,ϱ,_,_,_,_,ϱ,TyOf.int i,uK,_,ϱ,bx ⟨_,ϱ,_,_,_,_,ϱ,TyOf.int i,uL,_,ϱ,q⟩⟩
def oF:1000000<=sizeLine:=by decide
inductive t9 (vs:î V) (H:Hp) (Q:VK) (E:XK):Prop|mk (c:Nat):vs=[.str ⟨#[c]⟩]->Q (.bl (uz c)) H->t9 vs H Q E
def scSign:ag ["sign","number"] ["sign"] (NE By):=í
def AK(F:Fun K "is_sign" "is_sign" By f fd)(T:Tx K mg C):NH P w K mg base Za 1 f fd ["sign"] t9:=by
 refine F.oj scSign λk A g s H vs Q E l h=>?_
 obtain ⟨c,rfl,q⟩:=h
 refine ⟨_,ac (gC (i:=1) scSign.nd rfl (Or.inl rfl) (aq zQ rfl T.ord PyProof.Rows.boot_ord (aj (pv 0) aO)))
  (au (eO (kS (yp BD BD (sX T.cBl rfl) (pv 1) (sX T.cTi rfl)) (iu (bH f8 (pv 1) (sX T.cPc rfl) (aF _)))))),?_⟩
 refine ⟨_,ϱ,_,ϱ,ϱ,?_⟩
 refine ⟨_,ϱ,_,_,ϱ,ϱ,_,ϱ,?_⟩
 have e0:((({cps:=#[c]}:Str).cps.getD 0 0:Nat):Int)=(c:Int):=rfl
 unfold uz at q
 by_cases h1:32<=c
 .have d:decide ((32:Int)<=(({cps:=#[c]}:Str).cps.getD 0 0:Nat))=true:=τ (by rw [e0];lia)
  rw [d]
  refine bx ⟨_,_,ϱ,ϱ,_,ϱ,?_⟩
  by_cases h2:c<=126
  .have e:decide (((({cps:=#[c]}:Str).cps.getD 0 0:Nat):Int)<=126)=true:=τ (by rw [e0];lia)
   rw [e]
   refine bx ⟨_,ϱ,ϱ,?_⟩
   have j:(!decide (V.int (({cps:=#[c]}:Str).cps.getD 0 0:Nat)=V.int 37))=(decide (32<=c)&&decide (c<=126)&&decide (c≠37)):=by
    rw [τ h1,τ h2,rS,e0]
    by_cases h3:c=37
    .subst h3;rfl
    .have:((c:Int)==37)=false:=Ň.mpr ω
     rw [this,τ h3];rfl
   exact j▸q
  .have e:decide (((({cps:=#[c]}:Str).cps.getD 0 0:Nat):Int)<=126)=false:=Γ (by rw [e0];lia)
   rw [e]
   refine a8 ?_
   rw [Γ h2,Bool.and_false,ě] at q
   exact q
 .have d:decide ((32:Int)<=(({cps:=#[c]}:Str).cps.getD 0 0:Nat))=false:=Γ (by rw [e0];lia)
  rw [d]
  refine a8 ⟨_,ϱ,a8 ?_⟩
  rw [Γ h1,ě,ě] at q
  exact q
inductive uf (C:ø) (vs:î V) (H:Hp) (Q:VK) (E:XK):Prop|mk p dx z:vs=[.ref p,.str z]->H p=some (.ins C dx [])->Q .non (upd (upd H p (.ins C dx (aK "text" (.str z) []))) p (.ins C dx (rf z 0)))->uf C vs H Q E
def Cg:ag MX MX (NE BA):=í
def AV(F:Fun K "__init__" "Reader.__init__" BA f fd)(T:Tx K mg C):NH P w K mg base Za 1 f fd MX (uf C):=by
 refine F.oj Cg λj A d s H vs Q E k h=>?_
 obtain ⟨p,e,z,rfl,g,q⟩:=h
 refine ⟨_,ac (cC (pv 0) (pv 1) rfl) (au (cC (pv 0) af rfl)),?_⟩
 exact ⟨_,ϱ,_,ϱ,p,C,e,[],ϱ,g,T.cl,T.nT,by show 0<1000;decide,_,ϱ,p,C,e,_,ϱ,Ny,T.cl,T.nP,by show 1<1000;decide,q⟩
def nB(z:Str)(c k:Nat):Txt.startswith3 z ⟨#[c]⟩ (k:Int)=decide (z.cps.toList[k]?=some c):=by
 have g:fromIndex z.length (k:Int)=k:=by
  unfold fromIndex
  rw [ŵ ω]
  lia
 unfold Txt.startswith3
 rw [g]
 have f:(({cps:=#[c]}:Str)).length=1:=rfl
 rw [f]
 by_cases h:k<z.length
 .have j:k<z.cps.size:=h
  have l:Builtin.Str.subAt z ⟨#[c]⟩ k=(z.cps[k]==c):=by
   unfold Builtin.Str.subAt
   rw [f]
   have o:z.cps.extract k (k+1)=#[z.cps[k]]:=by
    apply Array.ext
    .simp;lia
    .intro i h1 q
     have:i=0:=by simp at q;lia
     subst this
     simp
   rw [o]
   simp
  rw [l]
  have d:decide (k+1<=z.length)=true:=τ h
  rw [d,Bool.true_and]
  have e:z.cps.toList[k]?=some z.cps[k]:=by rw [ġ];exact Array.getElem?_eq_getElem j
  rw [e]
  simp [Bool.beq_eq_decide_eq]
 .have d:decide (k+1<=z.length)=false:=Γ ω
  rw [d,ě]
  have e:z.cps.toList[k]?=none:=by rw [ġ];exact Array.getElem?_eq_none (by show z.length<=k;lia)
  rw [e]
  simp
inductive uc (C:ø) (vs:î V) (H:Hp) (Q:VK) (E:XK):Prop|mk p dx z c:∀(k:Nat),vs=[.ref p,.str ⟨#[c]⟩]->H p=some (.ins C dx (rf z k))->((if z.cps.toList[k]?=some c then Q (.bl true) (upd H p (.ins C dx (rf z ((k+1:Nat):Int)))) else Q (.bl false) H))->uc C vs H Q E
def Cf:ag MY MY (NE Bz):=í
def AN(F:Fun K "passes" "Reader.passes" Bz f fd)(T:Tx K mg C):NH P w K mg base Za 1 f fd MY (uc C):=by
 refine F.oj Cf λl A j s H vs Q E o h=>?_
 obtain ⟨p,d,z,c,k,rfl,g,q⟩:=h
 refine ⟨_,ac (aC (eN (bj (dg Ŧ PySem.F.slot_str_startswith PySem.F.type_str_startswith oB (aE (pv 0) rfl) (aj (pv 1) (aj (aE (pv 0) rfl) aO))))) (au (eO eS)) ao)
  (ac (pO (pv 0) af zo) (au (eO eS))),?_⟩
 refine ⟨_,ϱ,p,C,d,_,_,ϱ,g,T.cl,T.nT,mJ _ _,ϱ,_,ϱ,_,ϱ,p,C,d,_,_,ϱ,g,T.cl,T.nP,df _ _,_,_,_,ϱ,ϱ,_,ϱ,?_⟩
 rw [nB]
 by_cases hk:z.cps.toList[k]?=some c
 .rw [ů hk] at q
  rw [τ hk]
  refine a8 ?_
  refine ⟨_,ϱ,p,C,d,_,_,ϱ,g,T.cl,T.nP,df _ _,_,_,ϱ,ϱ,d,_,g,by rw [yd];decide,?_⟩
  rw [yc]
  have e:((k:Int)+1)=((k+1:Nat):Int):=by lia
  exact e▸q
 .rw [ŵ hk] at q
  rw [Γ hk]
  exact bx q
end
def Ao{x y:Str}(h:x.cps.toList=y.cps.toList):x=y:=by
 obtain ⟨a⟩:=x
 obtain ⟨b⟩:=y
 have:a=b:=į.mp h
 rw [this]
def mO(z:Str):z.length=z.cps.toList.length:=by simp [Str.length]
def wu{z:Str}{pre f d:Ć}(e:z.cps.toList=pre++f++d):Txt.slice z (some ((pre.length:Nat):Int)) (some (((pre.length+f.length:Nat)):Int))=⟨f.toArray⟩:=by
 have k:z.cps.toList.length=pre.length+f.length+d.length:=by rw [e];simp;lia
 have q:=PyProof.Rows.slice_closes (x:=z) (i:=((pre.length:Nat):Int)) (j:=((pre.length+f.length:Nat):Int)) ⟨ω,ω,ω⟩
 rw [eq_of_beq q]
 refine Ao ?_
 have g:(((pre.length+f.length:Nat):Int)-((pre.length:Nat):Int)).toNat=f.length:=by lia
 have h:(((pre.length:Nat):Int)).toNat=pre.length:=by lia
 rw [g,h,e,ő,List.drop_left,List.take_left]
def Ag:∀c:Nat,c<128->Unicode.isDigit c=sU c:=by decide +kernel
def lO{c:Nat}(h:c<128):Txt.isdigit ⟨#[c]⟩=sU c:=by
 rw [← Ag c h]
 unfold Txt.isdigit
 simp [Str.length]
def z6(ds:Ć):Prop:=AllDigits ds/\ds≠[]/\ds.length<=400/\(ds=[48]\/∀c r,ds=c::r->c≠48)
def wb(post:Ć):Prop:=∀c r,post=c::r->c<128/\sU c=false
def But(p:ø)(H H':Hp):Prop:=∀b o,H b=some o->b≠p->H' b=some o
def But.refl(p:ø)(H:Hp):But p H H:=λ_ _ e _=>e
def But.upd{p:ø}{H H':Hp}(h:But p H H')(o:HO):But p H (L2.upd H' p o):=λb u e n=>by rw [am n];exact h b u e n
def But.trans{p:ø}{H H1 H2:Hp}(a:But p H H1)(b:But p H1 H2):But p H H2:=λc o e n=>b c o (a c o e n) n
def Ap(x y:Str):Txt.startswith x y=Txt.startswith3 x y ((0:Nat):Int):=by
 unfold Txt.startswith Txt.startswith3
 have e:fromIndex x.length ((0:Nat):Int)=0:=by unfold fromIndex;simp
 rw [e]
section
variable {P:ù}{w:ö}{K:ò}{mg:ď}{base:ñ}{f C:ø}{fd:õ}
inductive vb (C:ø) (vs:î V) (H:Hp) (Q:VK) (E:XK):Prop|mk p dx z pre ds post:vs=[.ref p]->z.cps.toList=pre++ds++post->H p=some (.ins C dx (rf z (pre.length:Nat)))->z.length<=100000->z6 ds->wb post->(∀H',H' p=some (.ins C dx (rf z ((pre.length+ds.length:Nat):Int)))->But p H H'->Q (.int (digitsVal ds:Nat)) H')->vb C vs H Q E
def scNum:ag ["self","start","figures"] vi (NE DV):=í
def Bi:("":Str)=⟨#[]⟩:=by decide +kernel
def zG:("0":Str)=⟨#[48]⟩:=by decide +kernel
def sf(K:ò):TT:=DR (xt (tOp (rI0 λi j=>.bl (decide (i<j))) (wm K (jx 0) "place") (tCB (λxs H Q=>∃z,xs=[.str z]/\z.length<=sizeLine/\Q (.int z.length) H) (jy (wm K (jx 0) "text") jg))))
 (tB (DP K "str" (λx vs H Q=>∃z,x=.str z/\vs=[]/\Q (.bl (Txt.isdigit z)) H) (tOp D0 (wm K (jx 0) "text") (wm K (jx 0) "place"))))
def yU{p o:ø}{z:Str}{pre e d:Ć}{j:Nat}{σ:St}{H1:Hp}{R:Bool->Hp->Prop}(T:Tx K mg C)(u:z.cps.toList=pre++e++d)(hz:z.length<=100000)(D:AllDigits e)(w:wb d)(H:j<=e.length)
  (e0:σ[0]?=some (some (.ref p)))(f:H1 p=some (.ins C o (rf z ((pre.length+j:Nat):Int))))(h:R (decide (j<e.length)) H1):sf K σ H1 R:=by
 have F:=oF
 have G:z.length=pre.length+e.length+d.length:=by rw [mO,u];simp;lia
 refine ⟨_,e0,p,C,o,_,_,ϱ,f,T.cl,T.nP,df _ _,_,e0,p,C,o,_,_,ϱ,f,T.cl,T.nT,mJ _ _,_,ϱ,ω,_,_,ϱ,ϱ,_,ϱ,?_⟩
 by_cases hlt:(pre.length+j:Nat)<z.length
 .rw [τ (show (((pre.length+j:Nat)):Int)<((z.length:Nat):Int) by lia)]
  have k:pre.length+j<z.cps.toList.length:=by rw [← mO];exact hlt
  obtain ⟨c,g⟩:∃c,z.cps.toList[pre.length+j]?=some c:=⟨_,ξ k⟩
  refine bx ⟨_,e0,p,C,o,_,_,ϱ,f,T.cl,T.nT,mJ _ _,_,e0,p,C,o,_,_,ϱ,f,T.cl,T.nP,df _ _,z,_,c,ϱ,ϱ,ω,ay g,ϱ,_,ϱ,ϱ,_,ϱ,?_⟩
  by_cases hjd:j<e.length
  .have q:e[j]?=some c:=by
    rw [u,ő,ū ω,Ŕ ω] at g
    rw [← g];congr 1;lia
   have x:48<=c/\c<=57:=D c (ž q)
   have t:Txt.isdigit ⟨#[c]⟩=true:=by rw [lO ω];unfold sU;rw [decide_eq_true x.1,decide_eq_true x.2];rfl
   rw [τ hjd] at h
   exact t▸h
  .have y:j=e.length:=by lia
   have q:d[0]?=some c:=by
    rw [u,ū (by rw [Ž];lia)] at g
    rw [← g];congr 1;rw [Ž];lia
   have l:c<128/\sU c=false:=by
    cases d with
    | nil=>cases q
    | cons a r=>exact w c r (by rw [show a=c by simpa using q])
   have t:Txt.isdigit ⟨#[c]⟩=false:=by rw [lO l.1];exact l.2
   rw [Γ hjd] at h
   exact t▸h
 .rw [Γ (show ¬(((pre.length+j:Nat)):Int)<((z.length:Nat):Int) by lia)]
  rw [Γ (show ¬j<e.length by lia)] at h
  exact a8 h
def CO(F:Fun K "read_number" "Reader.read_number" DV f fd)(T:Tx K mg C):NH P w K mg base Za 1 f fd vi (vb C):=by
 refine F.oj scNum λa4 A I s H vs Q E hr h=>?_
 obtain ⟨p,l,z,k,d,o,rfl,u,L,X,y,D,q⟩:=h
 obtain ⟨O,G,d3,Y⟩:=y
 have hu:=oF
 have lz:z.length=k.length+d.length+o.length:=by rw [mO,u];simp;lia
 refine ⟨_,ac (gC (i:=1) scNum.nd rfl (Or.inl rfl) (aE (pv 0) rfl))
  (ac (sD (tc:=sf K) Ņ (PW.pt (ir (aJ ja (aE (pv 0) rfl) (aq bJ rfl T.len Ź (aj (aE (pv 0) rfl) aO)) (aF _))
    (fu (bj (yq Ŧ PySem.F.slot_str_isdigit PySem.F.type_str_isdigit uC (jI zn (aE (pv 0) rfl) (aE (pv 0) rfl) (λ_ _=>rfl)))))))
   (au (pO (pv 0) af zo)))
  (ac (gC (i:=2) scNum.nd rfl (Or.inl rfl) (aL Cd (aE (pv 0) rfl) (aN (pv 1)) (aN (aE (pv 0) rfl))))
  (ac (aC (aJ lK (pv 2) aw (aF _)) aQ ao)
  (ac (aC (aJ pQ (aq bJ rfl T.len Ź (aj (pv 2) aO)) (sX T.cFig rfl) (aF _)) aQ ao)
  (ac (aC (PW.pt (ir (bj (dg Ŧ PySem.F.slot_str_startswith PySem.F.type_str_startswith pB (pv 2) (aj aw aO))) (fu (aJ f8 (pv 2) aw (aF _))))) aQ ao)
  (au (eO (bM pE rfl T.int Ġ (aj (pv 2) aO))))))))),?_⟩
 refine ⟨_,ϱ,p,C,l,_,_,ϱ,L,T.cl,T.nP,df _ _,?_⟩
 refine ⟨λm σ H1=>∃j,m=d.length-j/\j<=d.length/\σ=[some (.ref p),some (.int (k.length:Nat)),none]/\H1 p=some (.ins C l (rf z ((k.length+j:Nat):Int)))/\But p H H1,
  ⟨d.length,0,ϱ,ϖ _,ϱ,L,But.refl p H⟩,?_⟩
 rintro m σ H1 ⟨j,rfl,hj,rfl,g,J⟩
 refine yU T u X O D hj rfl g ?_
 by_cases hjd:j<d.length
 .rw [τ hjd]
  refine bx ⟨_,fun σ' H' h=>h,?_⟩
  refine ⟨_,ϱ,p,C,l,_,_,ϱ,g,T.cl,T.nP,df _ _,_,_,ϱ,ϱ,l,_,g,by rw [yd];decide,?_⟩
  refine ⟨d.length-(j+1),ω,j+1,ϱ,hjd,ϱ,?_,J.upd _⟩
  rw [Ny,yc]
  have e:(((k.length+j:Nat)):Int)+1=((k.length+(j+1):Nat):Int):=by lia
  rw [e]
 .rw [Γ hjd]
  obtain rfl:j=d.length:=by lia
  refine a8 ?_
  refine ⟨_,ϱ,p,C,l,_,_,ϱ,g,T.cl,T.nT,mJ _ _,_,ϱ,_,ϱ,_,ϱ,p,C,l,_,_,ϱ,g,T.cl,T.nP,df _ _,_,ϱ,z,ϱ,ω,?_⟩
  rw [wu u]
  have t:(({cps:=d.toArray}:Str)).length=d.length:=by simp [Str.length]
  refine ⟨_,ϱ,ϱ,_,ϱ,?_⟩
  have Z:¬(V.str ({cps:=d.toArray}:Str)=V.str ("":Str)):=by
   intro e
   have U:(({cps:=d.toArray}:Str))=("":Str):=by injection e
   rw [Bi] at U
   have e2:=congrArg (λs:Str=>s.cps.toList) U
   exact G (by simpa using e2)
  rw [Γ Z]
  refine a8 ?_
  refine ⟨_,ϱ,_,ϱ,ω,_,_,ϱ,ϱ,_,ϱ,?_⟩
  rw [Γ (show ¬((400:Int)<((({cps:=d.toArray}:Str)).length:Nat)) by rw [t];lia)]
  refine a8 ?_
  have W:PySem.intText? ({cps:=d.toArray}:Str)=some ((digitsVal d:Nat):Int):=by
   have:=intText_digits (x:=({cps:=d.toArray}:Str)) (by simpa using O) (by simpa using G) (by rw [t];lia)
   simpa using this
  refine ⟨_,ϱ,ϱ,_,_,ϱ,ϱ,_,ϱ,?_⟩
  have hs:Txt.startswith ({cps:=d.toArray}:Str) ("0":Str)=decide (d[0]?=some 48):=by
   rw [zG,Ap,nB]
  rw [hs]
  rcases Y with e4 | h4
  .subst e4
   refine bx ⟨_,ϱ,ϱ,_,ϱ,?_⟩
   have n3:V.str ({cps:=([48]:Ć).toArray}:Str)=V.str ("0":Str):=by rw [zG]
   exact τ n3▸a8 ⟨_,ϱ,_,_,ϱ,W,by rw [t];lia,q H1 g J⟩
  .have n4:¬d[0]?=some 48:=by
    cases d with
    | nil=>exact absurd rfl G
    | cons c r=>intro e;exact h4 c r rfl (by simpa using e)
   rw [Γ n4]
   exact a8 (a8 ⟨_,ϱ,_,_,ϱ,W,by rw [t];lia,q H1 g J⟩)
inductive qP (C:ø) (vs:î V) (H:Hp) (Q:VK) (E:XK):Prop|mk p dx z pre ds post:vs=[.ref p]->z.cps.toList=pre++ds++post->H p=some (.ins C dx (rf z (pre.length:Nat)))->z.length<=100000->z6 ds->wb post->digitsVal ds≠0->(∀H',H' p=some (.ins C dx (rf z ((pre.length+ds.length:Nat):Int)))->But p H H'->Q (.int (-((digitsVal ds:Nat):Int))) H')->qP C vs H Q E
def scBelow:ag ["self","number"] vi (NE xY):=í
def yS{x:ø}{y:õ}(F:Fun K "read_below" "Reader.read_below" xY f fd)(T:Tx K mg C)(W:NH P w K mg base Za 1 x y vi (vb C))(X:NT K y vi [])(mN:gX K C "read_number" x) :
  NH P w K mg base Za 2 f fd vi (qP C):=by
 refine F.oj scBelow λL A l s H vs Q E O h=>?_
 obtain ⟨p,r,z,g,t,d,rfl,D,u,G,j,k,I,q⟩:=h
 refine ⟨_,ac (gC (i:=1) scBelow.nd rfl (Or.inl rfl) (jH (pv 0) T.cl mN W O X .nil bE))
  (ac (aC (aJ lK (pv 1) af (aF _)) aQ ao)
  (au (eO (eR cA (pv 1))))),?_⟩
 refine ⟨_,ϱ,p,r,_,ϱ,u,sA _ _ θ θ,p,r,z,g,t,d,ϱ,D,u,G,j,k,λH1 o U=>?_⟩
 refine ⟨_,ϱ,ϱ,_,ϱ,?_⟩
 have J:¬(V.int ((digitsVal t:Nat):Int)=V.int 0):=by intro e;injection e with e;lia
 exact Γ J▸a8 ⟨_,ϱ,_,ϱ,q H1 o U⟩
end
inductive Du:Ć->V->Prop where
 | num (n:Int) (h:n.natAbs<10 ^ 400):Du (cj n) (.int n)
def Ends(post:Ć):Prop:=∀c r,post=c::r->c=32\/c=41
def tm(m:Nat)(h:m<10 ^ 400):z6 (bQ m):=by
 refine ⟨jZ m,rR m,oZ ζ h,?_⟩
 by_cases h0:m=0
 .subst h0;exact .inl wU
 .exact .inr (wV m h0)
def Ends.stops{post:Ć}(h:Ends post):wb post:=λc r e=>by
 rcases h c r e with rfl | rfl<;>exact ⟨ζ,ζ⟩
def zH:("(":Str)=⟨#[40]⟩:=by decide +kernel
def vZ:("-":Str)=⟨#[45]⟩:=by decide +kernel
def Bj:(":":Str)=⟨#[58]⟩:=by decide +kernel
def zW{z:Str}{pre rest:Ć}(e:z.cps.toList=pre++rest):z.cps.toList[pre.length]?=rest[0]?:=by
 rw [e,ū (ι _),ĺ]
def wW(m:Nat):∃c r,bQ m=c::r/\48<=c/\c<=57:=by
 cases e:bQ m with
 | nil=>exact absurd e (rR m)
 | cons c r =>
  have h:=jZ m
  rw [e] at h
  exact ⟨c,r,ϱ,h.head⟩
section
variable {P:ù}{w:ö}{K:ò}{mg:ď}{base:ñ}{f C:ø}{fd:õ}
inductive xR (C:ø) (vs:î V) (H:Hp) (Q:VK) (E:XK):Prop|mk p dx z pre it post v d:vs=[.ref p,d]->z.cps.toList=pre++it++post->H p=some (.ins C dx (rf z ((pre:Ć).length:Nat)))->z.length<=100000->Du it v->Ends post->(∀H',H' p=some (.ins C dx (rf z ((pre.length+it.length:Nat):Int)))->But p H H'->Q v H')->xR C vs H Q E
def scAny:ag ["self","deep","number"] Ni (NE DW):=í
def C6{fP fB fN:ø}{dP dB dN:õ}(F:Fun K "read_any" "Reader.read_any" DW f fd)(T:Tx K mg C)
  (W:NH P w K mg base Za 1 fP dP MY (uc C))(X:NT K dP MY [])(Y:gX K C "passes" fP)
  (GB:NH P w K mg base Za 2 fB dB vi (qP C))(bB:NT K dB vi [])(mB:gX K C "read_below" fB)
  (GN:NH P w K mg base Za 1 fN dN vi (vb C))(bN:NT K dN vi [])(mN:gX K C "read_number" fN) :
  NH P w K mg base Za 3 f fd Ni (xR C):=by
 refine F.oj scAny λak A L s H vs Q E hr h=>?_
 obtain ⟨p,j,z,pre,it,g,v,d,rfl,D,o,Z,I,u,q⟩:=h
 have t:=hr.mono (show 1<=2 by decide)
 have G:∀(k:Int),(rf z k).lookup ("passes":Str)=none:=λk=>sA _ _ θ θ
 have nn:∀(k:Int),(rf z k).lookup ("read_number":Str)=none:=λk=>sA _ _ θ θ
 have nb:∀(k:Int),(rf z k).lookup ("read_below":Str)=none:=λk=>sA _ _ θ θ
 refine ⟨_,ac (aC (bj (mK (pv 0) T.cl Y W t X .nil bE (aj aw aO))) aQ ao)
  (ac (aC (bj (mK (pv 0) T.cl Y W t X .nil bE (aj aw aO))) (au (eO (jH (pv 0) T.cl mB GB hr bB .nil bE))) ao)
  (ac (gC (i:=2) scAny.nd rfl (Or.inl rfl) (jH (pv 0) T.cl mN GN t bN .nil bE))
  (ac (aC (bj (mK (pv 0) T.cl Y W t X .nil bE (aj aw aO))) aQ ao)
  (au (eO (pv 2)))))),?_⟩
 have x:z.cps.toList=pre++(it++g):=by rw [D,ő]
 have h0:=zW x
 cases I with
 | num n hn =>
  by_cases hneg:n<0
  .have en:cj n=45::bQ n.natAbs:=by unfold cj;rw [if_pos hneg]
   rw [en] at D x q h0
   have l:z.cps.toList[pre.length]?=some 45:=h0
   refine ⟨_,ϱ,p,j,_,ϱ,o,G _,p,j,z,40,pre.length,by rw [zH];rfl,o,?_⟩
   rw [ŵ (by rw [l];decide)]
   refine ⟨_,ϱ,a8 ?_⟩
   refine ⟨_,ϱ,p,j,_,ϱ,o,G _,p,j,z,45,pre.length,by rw [vZ];rfl,o,?_⟩
   rw [ů l]
   refine ⟨_,ϱ,bx ?_⟩
   refine ⟨_,ϱ,p,j,_,ϱ,Ny,nb _,p,j,z,pre++[45],bQ n.natAbs,g,ϱ,by rw [D];simp,by rw [Ny];simp,Z,tm _ hn,u.stops,(by rw [oY];lia),λH' O U=>?_⟩
   have J:(-((digitsVal (bQ n.natAbs):Nat):Int))=n:=by rw [oY];lia
   rw [J]
   refine q H' ?_ (((But.refl p H).upd _).trans U)
   rw [O]
   have e2:(pre++[45]).length+(bQ n.natAbs).length=pre.length+(45::bQ n.natAbs).length:=by simp;lia
   rw [e2]
  .have en:cj n=bQ n.natAbs:=by unfold cj;rw [if_neg hneg]
   rw [en] at D x q h0
   obtain ⟨c,r,ec,hc⟩:=wW n.natAbs
   have l:z.cps.toList[pre.length]?=some c:=by rw [h0,ec];rfl
   refine ⟨_,ϱ,p,j,_,ϱ,o,G _,p,j,z,40,pre.length,by rw [zH];rfl,o,?_⟩
   rw [ŵ (by rw [l];intro e;injection e with e;lia)]
   refine ⟨_,ϱ,a8 ?_⟩
   refine ⟨_,ϱ,p,j,_,ϱ,o,G _,p,j,z,45,pre.length,by rw [vZ];rfl,o,?_⟩
   rw [ŵ (by rw [l];intro e;injection e with e;lia)]
   refine ⟨_,ϱ,a8 ?_⟩
   refine ⟨_,ϱ,p,j,_,ϱ,o,nn _,p,j,z,pre,bQ n.natAbs,g,ϱ,D,o,Z,tm _ hn,u.stops,λH1 y U=>?_⟩
   have h1:z.cps.toList[pre.length+(bQ n.natAbs).length]?=g[0]?:=by
    have:=zW (z:=z) (pre:=pre++bQ n.natAbs) (rest:=g) D
    rw [Ž] at this
    exact this
   refine ⟨_,ϱ,p,j,_,ϱ,y,G _,p,j,z,58,pre.length+(bQ n.natAbs).length,by rw [Bj];rfl,y,?_⟩
   rw [ŵ (by
    rw [h1]
    intro e
    cases g with
    | nil=>cases e
    | cons a r' =>
     have:=u a r' rfl
     have ea:a=58:=by simpa using e
     lia)]
   refine ⟨_,ϱ,a8 ⟨_,ϱ,?_⟩⟩
   have J:((digitsVal (bQ n.natAbs):Nat):Int)=n:=by rw [oY];lia
   rw [J]
   exact q H1 y U
inductive ua (vs:î V) (H:Hp) (Q:VK) (E:XK):Prop|mk z v:vs=[.str z]->Du z.cps.toList v->((∀c∈z.cps.toList,uz c=true))->z.length<=100000->(∀H',NI H H'->Q v H')->ua vs H Q E
def scRead:ag ["text","reader","thing"] Nf (NE vf):=í
def yf:Scope:=match NF vf with
 | _::.If (.UnaryOp _ (.Call _ [.ListComp _ _ sc _] _ _) _) _ _ _::_=>sc
 | _=>default
def Ch:NJ ["text","reader","thing"] (NE vf) yf "sign" ["sign"] []:=⟨θ,ϱ,θ,ϱ,θ,θ,ϱ,ϱ,λj h=>absurd h (Ř j)⟩
def AM{U Y fA:ø}{Z dI dA:õ}(F:Fun K "read_thing" "read_thing" vf f fd)(T:Tx K mg C)(M:Mk K C Y)
  (GG:NH P w K mg base Za 1 U Z ["sign"] t9)(bG:NT K Z ["sign"] [])(kG:PySem.W.keepIn K (.ref U)=true)(mG:mg "is_sign"=some (.ref U))
  (GI:NH P w K mg base Za 1 Y dI MX (uf C))(bI:NT K dI MX [])
  (GA:NH P w K mg base Za 3 fA dA Ni (xR C))(bA:NT K dA Ni [])(mA:gX K C "read_any" fA) :
  NH P w K mg base Za 4 f fd Nf ua:=by
 refine F.oj scRead λa6 A G s H vs Q E I h=>?_
 obtain ⟨z,v,rfl,j,k,hz,q⟩:=h
 have t:=I.mono (show 1<=3 by decide)
 have u:=I.mono (show 2<=3 by decide)
 have hu:=oF
 refine ⟨_,ac (aC (aJ pQ (aq bJ rfl T.len Ź (aj (pv 0) aO)) (sX T.cLong rfl) (aF _)) aQ ao)
  (ac (aC (eN (bj (aq (tF rfl) rfl T.all PyProof.Rows.boot_all (aj (fz Ch rfl (Cr (pv 0)) (λ_ _ _ _=>bo) (λ_ _ _ _=>vx GG t rfl mG kG bG .nil bE (aj (pv 0) aO))) aO)))) aQ ao)
  (ac (gC (i:=1) scRead.nd rfl (Or.inl rfl) (bR M GI u rfl T.mgC bI .nil bE (aj (pv 0) aO)))
  (ac (gC (i:=2) scRead.nd rfl (Or.inl rfl) (mK (pv 1) T.cl mA GA I bA .nil bE (aj (sX T.cDeep rfl) aO)))
  (ac (aC (aJ f8 (aE (pv 1) rfl) (aq bJ rfl T.len Ź (aj (pv 0) aO)) (aF _)) aQ ao)
  (au (eO (pv 2))))))),?_⟩
 refine ⟨_,ϱ,z,ϱ,ω,_,_,ϱ,ϱ,_,ϱ,?_⟩
 rw [Γ (show ¬((100000:Int)<((z.length:Nat):Int)) by lia)]
 refine a8 ?_
 refine ⟨_,ϱ,z,ϱ,λi X H1=>i<=z.length/\X=List.replicate i (V.bl true)/\H1=H,z.length,⟨ϖ _,ϱ,ϱ⟩,ω,?_⟩
 rintro i X H1 ⟨hi,rfl,rfl⟩
 by_cases hlt:i<z.length
 .refine .inr ⟨hlt,hlt,?_⟩
  rintro x H2 ⟨rfl,c,hc,rfl⟩
  refine ⟨_,ϱ,c,ϱ,hlt,?_,ϱ⟩
  rw [k c (ž hc),List.replicate_succ']
 refine .inl ⟨by show z.length<=i;lia,λl hl=>?_⟩
 have e0:List.replicate i (V.bl true)=(List.replicate i true).map V.bl:=by simp
 refine ⟨l,List.replicate i true,ϱ,Nz (by rw [Ny,e0]),_,ϱ,?_⟩
 have e1:(List.replicate i true).all id=true:=by simp
 rw [e1]
 refine a8 ?_
 have sl:NI H1 (upd H1 l (.lst (List.replicate i (V.bl true)))):=λb o e=>by rw [am (ap e hl)];exact e
 refine ⟨_,ϱ,λx g nx J ad=>⟨x,g,z,ϱ,Ny,ϱ,?_⟩⟩
 refine ⟨_,ϱ,x,g,_,ϱ,Ny,sA _ _ θ θ,x,g,z,[],z.cps.toList,[],v,_,ϱ,(by simp),Ny,hz,j,(λc r e=>nomatch e),λH3 L O=>?_⟩
 refine ⟨_,ϱ,x,C,g,_,_,ϱ,L,T.cl,T.nP,df _ _,_,ϱ,z,ϱ,ω,ϱ,_,ϱ,?_⟩
 have e2:V.int ((([]:Ć).length+z.cps.toList.length:Nat):Int)=V.int ((z.length:Nat):Int):=by rw [mO];simp
 rw [τ e2]
 refine a8 ⟨_,ϱ,q H3 λb o e=>?_⟩
 have y:=sl b o e
 have d:b≠x:=ap y nx
 have D:b≠g:=ap y J
 refine O b o ?_ d
 rw [am d,am d,am d,am D]
 exact y
end
end K82T
namespace K82
open PySem L2 Lo St
section
variable {P:ù}{w:ö}{K:ò}{mg:ď}{base:ñ}{f CL CS CP:ø}{fd:õ}{C:Kd->ø}{CW:Wd->ø}
def AO(F:Fun K "made_sum" "made_sum" jk f fd)(I:WI P w K mg base CW .sum):NH P w K mg base Za 4 f fd Na (ue CW):=by
 refine F.oj si λo A e s H vs Q E r h=>?_
 obtain ⟨x,y,z,rfl,j,q⟩:=h
 have d:NU (2+1) _:=r
 refine ⟨_,ac (aC (aJ pQ (pv 1) (pv 2) (aF _)) aQ ao) (Ze (bR I.M I.ok d rfl I.m I.b .nil bE (aj (pv 0) (Zb (pv 1) (pv 2))))),?_⟩
 have l:y<=z:=j.2.2.2
 refine ⟨_,ϱ,_,ϱ,_,_,ϱ,ϱ,_,ϱ,aP (λc=>absurd (Ξ c) (show ¬z<y by lia)) (λ_=>?_)⟩
 exact ⟨_,ϱ,_,ϱ,_,ϱ,λp k t g u=>⟨p,k,[x,y,z],ϱ,j,Ny,λC h1 D=>⟨ϱ,q _ C (lN t g D) ⟨p,k,ϱ,h1⟩⟩⟩⟩
def yE(F:Fun K "made_step" "made_step" hV f fd)(I:∀wd,WI P w K mg base CW wd)(X:GF P w K mg base Za 4 "made_sum" Na (ue CW)):NH P w K mg base Za 5 f fd Nl (ud CW):=by
 refine F.oj qT λD A u s H vs Q E C h=>?_
 obtain ⟨wd,b,Y,rfl,g,j,q⟩:=h
 have k:NU (2+1) _:=C.mono ζ
 refine ⟨_,(ac (aC (Zl (pv 0) aw) (Ze (bR (I .take).M (I .take).ok k rfl (I .take).m (I .take).b .nil bE (Zb (ixL K (pv 1)) (ixL K (pv 1))))) ao)
  (ac (aC (Zl (pv 0) aw) (Ze (bR (I .mean).M (I .mean).ok k rfl (I .mean).m (I .mean).b .nil bE (Zb (ixL K (pv 1)) (ixL K (pv 1))))) ao)
  (ac (aC (Zl (pv 0) aw) (Ze (pc X C (aj (ixL K (pv 1)) (Zb (ixL K (pv 1)) (ixL K (pv 1)))))) ao)
  (ac (aC (Zl (pv 0) aw) (Ze (bR (I .give).M (I .give).ok k rfl (I .give).m (I .give).b .nil bE (Zb (ixL K (pv 1)) (ixL K (pv 1))))) ao)
  (ac (aC (Zl (pv 0) aw) (Ze (bR (I .add).M (I .add).ok k rfl (I .add).m (I .add).b .nil bE (aj (ixL K (pv 1)) (Zb (ixL K (pv 1)) (ixL K (pv 1)))))) ao)
  (ac (aC (Zl (pv 0) aw) (Ze (bR (I .plus).M (I .plus).ok k rfl (I .plus).m (I .plus).b .nil bE (Zd (ixL K (pv 1))))) ao)
  (Ze (bR (I .need).M (I .need).ok k rfl (I .need).m (I .need).b .nil bE (Zd (ixL K (pv 1))))))))))),?_⟩
 refine ⟨_,ϱ,ϱ,_,ϱ,aP (λc=>?_) (λG=>?_)⟩
 .obtain rfl:wd=.take:=cD c
  obtain ⟨x,y,rfl,_⟩:=j.c rfl
  exact ⟨_,ϱ,b,_,_,_,ϱ,ϱ,Nz g,ϱ,_,ϱ,b,_,_,_,ϱ,ϱ,Nz g,ϱ,λp e l d o=>⟨p,e,[x,y],ϱ,j,Ny,λr h1 t=>⟨ϱ,q _ r (lN l d t) ⟨p,e,ϱ,h1⟩⟩⟩⟩
 refine ⟨_,ϱ,ϱ,_,ϱ,aP (λc=>?_) (λJ=>?_)⟩
 .obtain rfl:wd=.mean:=cD c
  obtain ⟨x,y,rfl,_⟩:=j.c rfl
  exact ⟨_,ϱ,b,_,_,_,ϱ,ϱ,Nz g,ϱ,_,ϱ,b,_,_,_,ϱ,ϱ,Nz g,ϱ,λp e l d o=>⟨p,e,[x,y],ϱ,j,Ny,λr h1 t=>⟨ϱ,q _ r (lN l d t) ⟨p,e,ϱ,h1⟩⟩⟩⟩
 refine ⟨_,ϱ,ϱ,_,ϱ,aP (λc=>?_) (λL=>?_)⟩
 .obtain rfl:wd=.sum:=cD c
  obtain ⟨x,y,z,rfl,_⟩:=j.s
  exact ⟨_,ϱ,b,_,_,_,ϱ,ϱ,Nz g,ϱ,_,ϱ,b,_,_,_,ϱ,ϱ,Nz g,ϱ,_,ϱ,b,_,_,_,ϱ,ϱ,Nz g,ϱ,x,y,z,ϱ,j,q⟩
 refine ⟨_,ϱ,ϱ,_,ϱ,aP (λc=>?_) (λO=>?_)⟩
 .obtain rfl:wd=.give:=cD c
  obtain ⟨x,y,rfl,_⟩:=j.c rfl
  exact ⟨_,ϱ,b,_,_,_,ϱ,ϱ,Nz g,ϱ,_,ϱ,b,_,_,_,ϱ,ϱ,Nz g,ϱ,λp e l d o=>⟨p,e,[x,y],ϱ,j,Ny,λr h1 t=>⟨ϱ,q _ r (lN l d t) ⟨p,e,ϱ,h1⟩⟩⟩⟩
 refine ⟨_,ϱ,ϱ,_,ϱ,aP (λc=>?_) (λU=>?_)⟩
 .obtain rfl:wd=.add:=cD c
  obtain ⟨x,y,z,rfl,_⟩:=j.a
  exact ⟨_,ϱ,b,_,_,_,ϱ,ϱ,Nz g,ϱ,_,ϱ,b,_,_,_,ϱ,ϱ,Nz g,ϱ,_,ϱ,b,_,_,_,ϱ,ϱ,Nz g,ϱ,λp e l d o=>⟨p,e,[x,y,z],ϱ,j,Ny,λr h1 t=>⟨ϱ,q _ r (lN l d t) ⟨p,e,ϱ,h1⟩⟩⟩⟩
 refine ⟨_,ϱ,ϱ,_,ϱ,aP (λc=>?_) (λW=>?_)⟩
 .obtain rfl:wd=.plus:=cD c
  obtain ⟨x,rfl,_⟩:=j.p
  exact ⟨_,ϱ,b,_,_,_,ϱ,ϱ,Nz g,ϱ,λp e l d o=>⟨p,e,[x],ϱ,j,Ny,λr h1 t=>⟨ϱ,q _ r (lN l d t) ⟨p,e,ϱ,h1⟩⟩⟩⟩
 obtain rfl:wd=.need:=BO (br (b:=.take) G) (br (b:=.mean) J) (br (b:=.sum) L) (br (b:=.give) O) (br (b:=.add) U) (br (b:=.plus) W)
 obtain ⟨x,rfl,_⟩:=j.n
 exact ⟨_,ϱ,b,_,_,_,ϱ,ϱ,Nz g,ϱ,λp e l d o=>⟨p,e,[x],ϱ,j,Ny,λr h1 t=>⟨ϱ,q _ r (lN l d t) ⟨p,e,ϱ,h1⟩⟩⟩⟩
def AL{l:ø}{bm:Ċ}{new:String}(F:Fun K "read_number" "read_number" fJ f fd)(B:TxB mg)(mN:mg "NoThing"=some (.ref l))(J:PySem.W.excIn K l bm new=true)(L:bm.contains (.type "BaseException")=true)
  (O:∃t,mg "MOST_FIGURES_steps"=some (.int 40 t))(U:GF P w K mg base Za 4 "read_thing" Nf K82T.ua)(X:GF P w K mg base Za 1 "is_whole" ["thing"] K82T.qI):NH P w K mg base Za 5 f fd Nw ub:=by
 refine F.oj sc_read_number λG A k s H vs Q E o h=>?_
 obtain ⟨i,c,rfl,g,e,q⟩:=h
 have nd:=sc_read_number.nd
 refine ⟨_,ac (wx (j:=2) (C:=l) rfl rfl rfl nd rfl (Or.inl rfl) (Ct (pc U o (Zd (pv 0)))) rfl mN (tY mN J L) (λ_=>aQ))
  (ac (aC (PW.pt (cU (eN (bj (pc X o (Zd (pv 2))))) (cR (aJ pQ (aq bJ rfl B.len Ź (Zd (dg Ŧ PySem.F.slot_str_lstrip PySem.F.type_str_lstrip uB (pv 0) (Zd aw)))) (sX O rfl) (aF _))))) aQ ao)
  (ac (aC (PW.pt (ir (aJ ja (pv 2) af (aF _)) (fu (aJ f8 (pv 1) aw (aF _))))) aQ ao)
  (Ze (pv 2)))),?_⟩
 have x:=Be g
 have h1:(100000:Nat)<=sizeLine:=by decide
 have y:=uG g
 refine ⟨_,ϱ,iS i,.int i,ϱ,(by rw [sV];exact .num i (Nat.lt_trans g θ)),(λd r=>?_),x,λH1 u=>?_⟩
 .rw [sV] at r
  rcases yV r with rfl | ⟨a1,a2⟩
  .decide
  .show (decide _&&decide _&&_)=true
   simp
   lia
 refine ⟨_,ϱ,_,ϱ,_,ϱ,a8 ?_⟩
 refine ⟨_,ϱ,ϱ,iS i,_,ϱ,ϱ,ω,_,ϱ,Λ y ζ,_,_,ϱ,ϱ,_,ϱ,aP (λc=>absurd (Ξ c) (λz=>?_)) (λ_=>?_)⟩
 .have Y:(40:Int)<(((Txt.lstripChars (iS i) ("-":Str)).length:Nat):Int):=z
  lia
 refine ⟨_,ϱ,_,_,ϱ,ϱ,_,ϱ,aP (λI=>?_) (λ_=>⟨_,ϱ,q H1 u⟩)⟩
 have D:c=86:=e (Ξ I)
 subst D
 exact ⟨_,ϱ,ϱ,_,ϱ,vQ (congrArg V.str θ) ⟨_,ϱ,q H1 u⟩⟩
def yA(F:Fun K "read_step" "read_step" c9 f fd)(B:TxB mg){G:ø}(mS:mg "SHAPES"=some (.ref G))(tS:TabK K G mD)(GN:GF P w K mg base Za 5 "read_number" Nw ub)
  (GS:GF P w K mg base Za 5 "made_step" Nl (ud CW)):NH P w K mg base Za 6 f fd Nf (qK CW):=by
 refine F.oj sc_read_step λY A u s H vs Q E J h=>?_
 obtain ⟨wd,d,rfl,g,q⟩:=h
 have nd:=sc_read_step.nd
 have l:=g.len
 have r:=Aw g
 refine ⟨_,ac (sN 1 nd (dg Ŧ PySem.F.slot_str_split PySem.F.type_str_split wJ (pv 0) (Zd aw)))
  (ac (sN 2 nd (AE (D:=mD) (dZ (v:=.ref G) rfl mS rfl) (ixL K (pv 1)) ⟨ϱ,ϱ,ϱ,ϱ⟩ tS))
  (ac (aC (PW.pt (cU (aJ uu (pv 2) gE (aF _)) (cR (aJ f8 (aq az rfl B.len Ź (Zd (pv 1))) (ai aU (aq bJ rfl B.len Ź (Zd (pv 2))) af) (aF _))))) aQ ao)
  (Ze (pc GS J (Zb (ixL K (pv 1)) (fz oa rfl (bD rfl B.range (Zd (aq bJ rfl B.len Ź (Zd (pv 2))))) (λ_ _ _ _=>bo)
   (λ_ _ _ _=>pc GN J (Zb (bc K (pv 1) (ai aU (pv 0) af)) (jI zn (pv 2) (pv 0) (λ_ _=>rfl)))))))))),?_⟩
 refine ⟨_,ϱ,ϱ,txt wd d,32,ϱ,congrArg (λz=>[V.str z]) jj,Ah g,λp Z=>?_⟩
 rw [wq]
 have I:NI H _:=aa (o:=.lst ((wS wd::d.map iS).map V.str)) Z
 have e:(upd H p (.lst ((wS wd::d.map iS).map V.str))) p=some (.lst ((wS wd::d.map iS).map V.str)):=Ny
 generalize (upd H p _)=H1 at I e ⊢
 refine ⟨_,ϱ,p,_,_,_,ϱ,ϱ,Nz e,St.at0,wS wd,shp wd,ϱ,xS wd,?_⟩
 refine ⟨_,ϱ,ϱ,_,ϱ,aP (λc=>absurd (Ξ c) (by intro z;cases z)) (λ_=>?_)⟩
 refine ⟨_,ϱ,p,_,ϱ,.inl (Nz e),_,ϱ,_,ϱ,nS wd,_,_,ϱ,ϱ,ϱ,_,ϱ,vQ ?_ ?_⟩
 .rw [r]
  simp
 refine ⟨_,ϱ,p,_,_,_,ϱ,ϱ,Nz e,St.at0,?_⟩
 refine ⟨_,ϱ,_,ϱ,nS wd,_,ϱ,ω,by rw [r];lia,?_⟩
 have e0:(((shp wd).length:Nat):Int).toNat=d.length:=by rw [r];rfl
 rw [e0]
 refine iK (n:=d.length) (λi x H'=>NI H1 H'/\x=(d.take i).map V.int) ⟨NC _,ϱ⟩ (Λ l.2 ζ) ?_ ?_
 .rintro i x H2 O ⟨k,rfl⟩
  have t:d[i]?=some d[i]:=ξ O
  obtain ⟨c,U,j⟩:=Ce g t
  refine fW ⟨_,ϱ,_,ϱ,_,_,ϱ,ϱ,p,_,_,_,ϱ,ϱ,Nz (k _ _ e),?_,_,ϱ,_,ϱ,_,_,_,ϱ,ϱ,nS wd,ay U,d[i],c,ϱ,g.all _ (List.getElem_mem O),j,λL y=>⟨k.trans y,?_⟩⟩
  .have W:((i:Nat):Int)+1=((i+1:Nat):Int):=rfl
   rw [W]
   refine ay ?_
   rw [Ŗ,List.getElem?_cons_succ,Ĕ,Ż,t]
   rfl
  .have X:d.take (i+1)=d.take i++[d[i]]:=by
    rw [Ų,t]
    rfl
   rw [X,ż]
   rfl
 .rintro x H2 ⟨k,rfl⟩ p2 C
  rw [Ū]
  exact ⟨wd,p2,d,ϱ,Ny,g,λv L y st=>q v L (I.trans (k.trans ((aa C).trans y))) st⟩
def EC(K:ò)(n:Nat)(t:TGs):TG:=λv σ H Q=>∃a xs,v=.ref a/\NO K H a xs/\xs.length=n/\t xs σ H Q
def vq{X:Cx}{f:Ą}{k:Nat}{t:TGs}{n:Nat}{pos:Pos}(hc:X.calm=true)(h:PGs X f t)(J:(assignEach f X.env).length=n:=by rfl)(q:(assignEach f X.env).findIdx? (·.1)=none:=by rfl):PG X (.Tuple f k pos) (EC X.K n t):=by
 intro d s σ H v u Q I r g
 obtain ⟨a,xs,x,y,z,g⟩:=g
 subst x
 cases r
 obtain ⟨j,w,C,L⟩:=I.list y
 have l:(assignEach f X.env).length=j.toArray.size:=by simp [J,← z,w.length]
 rw [PyProof.Rows.assign_Tuple]
 refine ε (Ĥ ?_)
 unfold unpack
 rw [l,q]
 refine ε (ŗ (PySem.W.kun_itemsOf (I.ok.hd hc) C.isList λF G=>?_))
 have D:NM X d σ H {s with heap:=F}:=I.kept (t':=s.toks) λb o e=>G b o (Φ (η e)) e
 exact h d _ σ H xs _ Q D (by simpa using w) g
def NK(S:ĉ)(H H':Hp):Prop:=∀b o,b∉S->H b=some o->H' b=some o
section
variable {S S':ĉ}{H H1 H':Hp}
def NK.trans(a:NK S H H1)(b:NK S H1 H'):NK S H H':=λc o n e=>b c o n (a c o n e)
def NK.of(s:NI H H'):NK S H H':=λb o _ e=>s b o e
abbrev ND:=@NK.of
def NK.sub(h:NK S H H')(i:∀b∈S,b∈S'):NK S' H H':=λb o n e=>h b o (λz=>n (i b z)) e
def NK.upd{a:ø}{o:HO}(h:a∈S):NK S H (upd H a o):=λb u n e=>by
 rw [am (λz=>n (by rw [z];exact h))]
 exact e
end
structure Rows(H:Hp)(c:ø)(rs:ĉ)(xss:î (ć)):Prop where
 l:H c=some (.lst (rs.map V.ref))
 r:Paired (λ(xs:ć) r=>H r=some (.lst (xs.map V.int))) xss rs
 nd:rs.Nodup
theorem gF{α β:Type}{R R':α->β->Prop}:∀{xs:î α} {ys:î β},Paired R xs ys->(∀x y,y∈ys->R x y->R' x y)->Paired R' xs ys
 | _,_,.nil,_=>.nil
 | _,_,.cons a r,h=>.cons (h _ _ Ω a) (gF r λx y m=>h x y (Θ _ m))
theorem ow{α β:Type}{R R':α->β->Prop}{x':α}{y:β}(h1:∀x z,z≠y->R x z->R' x z)(h2:R' x' y):∀(j:Nat) {xs:î α} {ys:î β},Paired R xs ys->ys.Nodup->ys[j]?=some y->Paired R' (xs.set j x') ys
 | _,_,_,.nil,_,e=>by cases e
 | 0,_,_,.cons a r,nd,e=>by
  cases e
  exact .cons h2 (gF r λx z m q=>h1 x z (λw=>(ĥ.mp nd).1 (w▸m)) q)
 | j+1,_,_,.cons a r,nd,e=>by
  refine .cons (h1 _ _ (λw=>?_) a) (ow h1 h2 j r (ĥ.mp nd).2 e)
  exact (ĥ.mp nd).1 (w▸ž e)
section
variable {H H':Hp}{c:ø}{rs S:ĉ}{xss:î (ć)}
def Rows.fr(h:Rows H c rs xss)(k:NK S H H')(n:∀b∈c::rs,b∉S):Rows H' c rs xss :=
 ⟨k _ _ (n _ Ω) h.l,gF h.r λx y m e=>k _ _ (n _ (Θ _ m)) e,h.nd⟩
def Rows.keep(h:Rows H c rs xss)(s:NI H H'):Rows H' c rs xss:=h.fr (S:=[]) (ND s) λb _ z=>by cases z
def Rows.at(h:Rows H c rs xss){r:ø}(m:r∈rs):∃xs:ć,H r=some (.lst (xs.map V.int)):=by
 obtain ⟨j,e⟩:=ť m
 obtain ⟨xs,_,q⟩:=h.r.get e
 exact ⟨xs,q⟩
theorem Rows.nc(h:Rows H c rs xss):c∉rs:=λm=>by
 obtain ⟨xs,e⟩:=h.at m
 rw [h.l] at e
 have e2:rs.map V.ref=xs.map V.int:=HO.lst.inj (Δ e)
 cases rs with
 | nil=>cases m
 | cons a r =>
  cases xs with
  | nil=>cases e2
  | cons b s=>cases e2
def Rows.put(h:Rows H c rs xss){j:Nat}{r:ø}{xs:ć}(e:rs[j]?=some r):Rows (upd H r (.lst (xs.map V.int))) c rs (xss.set j xs):=by
 refine ⟨?_,ow (R:=λ(ys:ć) b=>H b=some (.lst (ys.map V.int))) (R':=λ(ys:ć) b=>upd H r (.lst (xs.map V.int)) b=some (.lst (ys.map V.int))) (x':=xs) (y:=r) (λx z n q=>?_) (by exact Ny) j h.r h.nd e,h.nd⟩
 .rw [am (λz=>h.nc (by rw [z];exact ž e))]
  exact h.l
 .exact am n▸q
end
def aB(X:î (ć)):ć:=X.map λr=>((r.length:Nat):Int)
def hN(x:Zc):Nat:=match aI x.1 x.2 with | .int j=>j.toNat | _=>0
def aX(x:Zc)(X:î (ć)):ć:=match aI x.1 x.2 with | .int j=>X.getD j.toNat [] | _=>[]
def vl(row:ć)(i:Int):Int:=row.getD i.toNat 0
def Zk(x:Zc)(h:Int)(X:î (ć)):Int×î (Int×Int):=dn (vl (aX x X)) x.1 x.2 h
def bkS(x:Zc)(X:î (ć)):î (Int×Int):=bk (vl (aX x X)) x.1 x.2
def qR(X:î (ć))(j i:Nat)(v:Int):î (ć):=X.set j ((X.getD j []).set i v)
def ce(x:Zc):î (Int×Int)->î (ć)->î (ć)
 | [],X=>X
 | p::_,X=>qR X (hN x) p.1.toNat p.2
def cX(x:Zc)(h:Int):Prop:=x.1=.need->∀a,x.2=[a]->a<=h
def xz(X:î (ć))(j i:Nat)(v:Int):aB (qR X j i v)=aB X:=by
 unfold aB qR
 refine List.ext_getElem? λk=>?_
 rw [Ż,Ż,List.getElem?_set]
 split
 .rename_i e
  subst e
  split
  .rename_i lt
   rw [ξ lt]
   simp [List.getD,List.getElem?_eq_getElem lt]
  .rename_i lt
   rw [List.getElem?_eq_none (by omega)]
   try rfl
 .rfl
def ni(x:Zc)(cs:î (Int×Int))(X:î (ć)):aB (ce x cs X)=aB X:=by
 cases cs with
 | nil=>rfl
 | cons p r=>exact xz _ _ _ _
def fV{x:Zc}{X:î (ć)}{h:Int}(g:Ar x.1 x.2)(o:be (aB X) x=true)(I:cX x h) :
  inC (aX x X).length x.1 x.2 h/\((aI x.1 x.2=.non/\aX x X=[])\/∃j row,aI x.1 x.2=.int ((j:Nat):Int)/\X[j]?=some row/\aX x X=row/\hN x=j):=by
 obtain ⟨wd,d⟩:=x
 have u:∀n:Int,0<=n->aI wd d=.int n->∃row,X[n.toNat]?=some row/\oM wd d<row.length/\aX (wd,d) X=row/\hN (wd,d)=n.toNat:=λn w e=>by
  have t:=o
  unfold be at t
  simp only [e,hvI] at t
  cases ex:X[n.toNat]? with
  | none =>
   exfalso
   have k:(aB X)[n.toNat]?=none:=by unfold aB;rw [List.getElem?_map,ex];rfl
   have C:=List.getElem?_eq_none_iff.mp k
   have:¬n<((aB X).length:Nat):=by omega
   have D:=uZ (sz:=aB X) (x:=(wd,d)) (n:=n) (by simp only [e,hvI]) this
   rw [D] at o
   cases o
  | some row =>
   have k:(aB X)[n.toNat]?=some ((row.length:Nat):Int):=by unfold aB;rw [List.getElem?_map,ex];rfl
   have C:=(ſ.mp k).1
   have F:=qE (sz:=aB X) (x:=(wd,d)) (n:=n) (by simp only [e,hvI]) (by omega) k
   rw [F] at o
   refine ⟨row,ϱ,Ξ o,?_,?_⟩
   .unfold aX
    simp only [e]
    rw [List.getD,ex]
    rfl
   .unfold hN
    simp only [e]
 have f:∀n:Int,0<=n->aI wd d=.int n->(∀row:ć,oM wd d<row.length->aX (wd,d) X=row->inC row.length wd d h)->inC (aX (wd,d) X).length wd d h/\((aI wd d=.non/\aX (wd,d) X=[])\/∃j row,aI wd d=.int ((j:Nat):Int)/\X[j]?=some row/\aX (wd,d) X=row/\hN (wd,d)=j):=λn w e H=>by
  obtain ⟨row,y,k,r,z⟩:=u n w e
  refine ⟨by rw [r];exact H row k r,.inr ⟨n.toNat,row,?_,y,r,z⟩⟩
  rw [e,ŧ w]
 cases wd with
 | take =>
  obtain ⟨a,b,rfl,h1,q,_⟩:=g.c rfl
  exact f a h1.1 rfl λrow l _=>l
 | mean =>
  obtain ⟨a,b,rfl,h1,q,_⟩:=g.c rfl
  exact f a h1.1 rfl λrow l _=>l
 | give =>
  obtain ⟨a,b,rfl,h1,q,_⟩:=g.c rfl
  exact f a h1.1 rfl λrow l _=>l
 | add =>
  obtain ⟨a,b,c,rfl,h1,q,_⟩:=g.a
  exact f a h1.1 rfl λrow l _=>l
 | sum =>
  obtain ⟨a,b,c,rfl,h1,q,J,K⟩:=g.s
  refine f a h1.1 rfl λrow l _=>?_
  have G:c<row.length:=l
  exact ⟨by omega,G⟩
 | plus =>
  obtain ⟨a,rfl,_⟩:=g.p
  exact ⟨ϰ,.inl ⟨ϱ,ϱ⟩⟩
 | need =>
  obtain ⟨a,rfl,_⟩:=g.n
  exact ⟨I rfl a rfl,.inl ⟨ϱ,ϱ⟩⟩
def EK{n:Nat}{val:Int->Int}{wd:Wd}{ns:ć}{h:Int}(e:Ar wd ns)(g:inC n wd ns h):(dn val wd ns h).2.length<=1/\∀p∈(dn val wd ns h).2,0<=p.1/\p.1<n:=by
 cases wd with
 | take =>
  obtain ⟨a,b,rfl,h1,f,_⟩:=e.c rfl
  exact ⟨ϖ _,λp d=>by cases d⟩
 | mean =>
  obtain ⟨a,b,rfl,h1,f,_⟩:=e.c rfl
  exact ⟨ϖ _,λp d=>by cases d⟩
 | give =>
  obtain ⟨a,b,rfl,h1,f,_⟩:=e.c rfl
  exact ⟨ι _,λp d=>by cases ϵ.mp d;exact ⟨f.1,g⟩⟩
 | add =>
  obtain ⟨a,b,c,rfl,h1,f,_⟩:=e.a
  exact ⟨ι _,λp d=>by cases ϵ.mp d;exact ⟨f.1,g⟩⟩
 | sum =>
  obtain ⟨a,b,c,rfl,h1,f,j,k⟩:=e.s
  exact ⟨ϖ _,λp d=>by cases d⟩
 | plus =>
  obtain ⟨a,rfl,_⟩:=e.p
  exact ⟨ϖ _,λp d=>by cases d⟩
 | need =>
  obtain ⟨a,rfl,_⟩:=e.n
  exact ⟨ϖ _,λp d=>by cases d⟩
def EQ{n:Nat}{val:Int->Int}{wd:Wd}{ns:ć}(g:Ar wd ns)(h:inC n wd ns 0):(bk val wd ns).length<=1/\∀p∈bk val wd ns,0<=p.1/\p.1<n:=by
 by_cases e:wd=.add
 .subst e
  obtain ⟨a,b,c,rfl,h1,f,_⟩:=g.a
  exact ⟨ι _,λp d=>by cases ϵ.mp d;exact ⟨f.1,h⟩⟩
 .have:bk val wd ns=[]:=by
   unfold bk
   split
   .exact absurd rfl e
   .rfl
  rw [this]
  exact ⟨ϖ _,λp d=>by cases d⟩
inductive u9 (CW:Wd->ø) (vs:î V) (H:Hp) (Q:VK) (E:XK):Prop|mk c rs X x v ch cs:vs=[.ref c,v,.ref ch]->Rows H c rs X->Ar x.1 x.2->StO CW H x.1 x.2 v->ChT H cs ch->cs.length<=1->((∀p∈cs,0<=p.1/\p.1<(aX x X).length))->(((aI x.1 x.2=.non/\aX x X=[])\/∃j row,aI x.1 x.2=.int ((j:Nat):Int)/\X[j]?=some row/\aX x X=row/\hN x=j))->(∀H',Rows H' c rs (ce x cs X)->NK rs H H'->Q .non H')->u9 CW vs H Q E
def CK(F:Fun K "put" "put" xW f fd)(W:TxW K CW)(GH:∀wd,GM P w K mg base Za 1 (CW wd) "house" vi (cK CW wd)):NH P w K mg base Za 2 f fd MW (u9 CW):=by
 refine F.oj sc_put λad A Y s H vs Q E hr h=>?_
 obtain ⟨c,rs,X,x,v,I,cs,rfl,k,ar,⟨a,Z,rfl,ha⟩,⟨us,e,t⟩,l1,J,L,q⟩:=h
 have nd:=sc_put.nd
 refine ⟨_,au (eQ Ņ rfl (uq (pv 2)) (gN 3 nd) (au (bV (Zj K (pv 3))
  (gD (bc K (pv 0) (lI λwd=>pm0 (GH wd) (pv 1) (W.cl wd) hr)) (Zj K (pv 3)) cL)))),?_⟩
 refine ⟨_,ϱ,I,ϱ,⟨_,NA e⟩,?_⟩
 cases cs with
 | nil =>
  cases t
  refine rN (xs:=[]) (λi σ g=>g=H) rfl (λi σ g _ z=>by rw [z];exact NA e) (λi u σ g G=>by cases G) (fun σ g z=>by rw [z];exact q _ k (ND (NC _)))
 | cons p r =>
  cases r with
  | cons p2 r2=>exact absurd l1 (by simp)
  | nil =>
   cases t with
   | cons C rest =>
    cases rest
    obtain ⟨b,rfl,C⟩:=C
    obtain ⟨p0,O⟩:=J p Ω
    obtain ⟨j,d,hv,ex,er,ej⟩:=L.resolve_left (λz=>by rw [z.2] at O;exact absurd O (by simp;omega))
    rw [er] at O
    obtain ⟨D,e0,o⟩:=k.r.get1 ex
    have f1:=jW (m:="house") θ θ θ θ θ x.1 x.2
    have U:Rows (upd H D (.lst ((d.set p.1.toNat p.2).map V.int))) c rs (ce x [p] X):=by
     have z:=k.put (xs:=d.set p.1.toNat p.2) e0
     have e3:ce x [p] X=X.set j (d.set p.1.toNat p.2):=by
      show qR X (hN x) p.1.toNat p.2=_
      unfold qR
      rw [ej,List.getD,ex]
      rfl
     exact e3▸z
    have y:(upd H D (.lst ((d.set p.1.toNat p.2).map V.int))) I=some (.tup [.ref b]):=by
     exact am (vD e o (by intro z;cases z))▸e
    refine rN (xs:=[.ref b]) (λi σ g=>(i=0/\g=H/\σ=[some (.ref c),some (.ref a),some (.ref I),none])\/(i=1/\g=upd H D (.lst ((d.set p.1.toNat p.2).map V.int)))) (.inl ⟨ϱ,ϱ,ϱ⟩) (λi σ g _ z=>?_) ?_ ?_
    .rcases z with ⟨_,rfl,_⟩ | ⟨_,rfl⟩
     .exact NA e
     .exact NA y
    .rintro i u σ g G z
     cases i with
     | succ i=>cases G
     | zero =>
      cases G
      obtain ⟨_,rfl,rfl⟩:=z.resolve_right (λz=>by cases z.1)
      refine ⟨_,ϱ,b,_,_,_,ϱ,ϱ,NA C,St.at1,_,ϱ,x.1,_,ϱ,a,Z,_,ϱ,ha,f1,_,x.2,ϱ,ar,⟨a,Z,ϱ,ha⟩,?_⟩
      rw [hv]
      refine ⟨c,_,_,_,ϱ,ϱ,Nz k.l,ay (by rw [Ż,e0];rfl),_,ϱ,b,_,_,_,ϱ,ϱ,NA C,St.at0,D,_,p.1,p.1.toNat,ϱ,ϱ,o,?_,?_⟩
      .have e5:p.1=((p.1.toNat:Nat):Int):=(ŧ p0).symm
       rw [ν]
       have z:=jT (n:=d.length) (j:=p.1.toNat) (by omega)
       rw [← e5] at z
       exact z
      .refine .inr ⟨ϱ,?_⟩
       rw [List.map_set]
    .rintro σ g z
     obtain ⟨_,rfl⟩:=z.resolve_left (λz=>by cases z.1)
     exact q _ U (NK.upd (ž e0))
abbrev BG:ï:=match (NF b9).getD 0 (.Pass default) with | .Assign _ (.Call _ [_,l] _ _) _=>l | _=>.Name "" default
abbrev BF:ï:=match (NF aH).getD 6 (.Pass default) with | .Assign _ (.Call _ [l] _ _) _=>l | _=>.Name "" default
abbrev qOn:Str:="step_on.<locals>.<lambda>"
abbrev qUn:Str:="is_undo_fit.<locals>.<lambda>"
def Ev(e:ï):Pos:=match e with | .Lambda _ _ _ p=>p | _=>default
abbrev Ey(e:ï):Arguments:=match e with | .Lambda a _ _ _=>a | _=>NG b9
abbrev Ew(e:ï):ï:=match e with | .Lambda _ b _ _=>b | _=>.Name "" default
abbrev zl(e:ï):Scope:=match e with | .Lambda _ _ s _=>s | _=>NE b9
structure NL(P1 P2:ø)(H:Hp):Prop where
 a:Tb H P1 (Ev BG) qOn
 b:Tb H P2 (Ev BF) qUn
 ne:P1≠P2
section
variable {H H':Hp}{P1 P2 Pa Pb:ø}{p1 p2:Pos}{q1 q2:Str}{rs:ĉ}{c:ø}{X:î (ć)}
def cq(t:Tb H Pa p1 q1):∃z,H Pa=some (.tbl z):=t.elim (λe=>⟨_,e⟩) λ⟨_,e,_⟩=>⟨_,e⟩
def lH{S:ĉ}(t:Tb H Pa p1 q1)(n:Pa∉S)(nc:∀b∈S,∀c q,H b≠some (iR c q))(k:NK S H H'):Tb H' Pa p1 q1 :=
 t.elim (λe=>.inl (k _ _ n e)) λ⟨c,e,ec⟩=>.inr ⟨c,k _ _ n e,k _ _ (λz=>nc _ z _ _ ec) ec⟩
def pJ(t:Tb H Pa p1 q1){b:ø}{o:HO}(e:H b=some o)(no:∀z,o≠.tbl z):b≠Pa:=λz=>by
 obtain ⟨y,e2⟩:=cq t
 rw [z,e2] at e
 cases e
 exact no _ rfl
def NL.keep(t:NL P1 P2 H)(s:NI H H'):NL P1 P2 H':=⟨t.a.keep s,t.b.keep s,t.ne⟩
def NL.rows(t:NL P1 P2 H)(r:Rows H c rs X)(k:NK rs H H'):NL P1 P2 H':=by
 have nc:∀b∈rs,∀c q,H b≠some (iR c q):=λb m c q z=>by
  obtain ⟨xs,e⟩:=r.at m
  rw [e] at z
  cases z
 have d:∀b∈rs,b≠P1/\b≠P2:=λb m=>by
  obtain ⟨xs,e⟩:=r.at m
  exact ⟨pJ t.a e (λz y=>by cases y),pJ t.b e (λz y=>by cases y)⟩
 exact ⟨lH t.a (λm=>(d _ m).1 rfl) nc k,lH t.b (λm=>(d _ m).2 rfl) nc k,t.ne⟩
def Sty:HO->Prop
 | .lst _=>False
 | .tbl _=>False
 | _=>True
def stay{b:ø}{o:HO}(t:NL P1 P2 H)(r:Rows H c rs X)(k:NK (P1::P2::rs) H H')(e:H b=some o)(s:Sty o):H' b=some o:=by
 refine k _ _ (λm=>?_) e
 rcases ϕ.mp m with z | m
 .obtain ⟨y,d⟩:=cq t.a
  rw [z,d] at e
  cases e
  exact s
 rcases ϕ.mp m with z | m
 .obtain ⟨y,d⟩:=cq t.b
  rw [z,d] at e
  cases e
  exact s
 .obtain ⟨xs,d⟩:=r.at m
  rw [d] at e
  cases e
  exact s
def fo(t:NL P1 P2 H)(r:Rows H c rs X)(k:NK (P1::P2::rs) H H'):a9 H H':=λb xs e=>stay t r k e ϰ
def u5(t:NL P1 P2 H)(r:Rows H c rs X)(k:NK (P1::P2::rs) H H'){wd:Wd}{ns:ć}{v:V}(h:StO CW H wd ns v):StO CW H' wd ns v:=by
 obtain ⟨a,d,e,f⟩:=h
 exact ⟨a,d,e,stay t r k f ϰ⟩
def zk(t:NL P1 P2 H)(r:Rows H c rs X)(h1:Pa=P1\/Pa=P2)(k:Kp Pa H H'):Rows H' c rs X/\NK (P1::P2::rs) H H':=by
 have f:NK (P1::P2::rs) H H':=λb o n e=>k b o (λz=>n (by rcases h1 with y | y<;>rw [z,y]<;>simp)) e
 refine ⟨r.fr (S:=[Pa]) (λb o n e=>k b o (λz=>n (by rw [z];simp)) e) λb m z=>?_,f⟩
 have z:=ϵ.mp z
 have g:∃y,H Pa=some (.tbl y):=by
  rcases h1 with rfl | rfl
  .exact cq t.a
  .exact cq t.b
 obtain ⟨y,d⟩:=g
 rcases ϕ.mp m with w | m
 .rw [← z,w,r.l] at d
  cases d
 .obtain ⟨xs,e⟩:=r.at m
  rw [← z,e] at d
  cases d
end
def Ba{d f y:Str}{g j a:ø}(h:[(d,g),(f,j)].lookup y=some a):(y=d/\a=g)\/(y=f/\a=j):=by
 rw [List.lookup_cons] at h
 cases e:y==d with
 | true =>
  rw [e] at h
  exact .inl ⟨by simpa using e,(Option.some.inj h).symm⟩
 | false =>
  rw [e,List.lookup_cons] at h
  cases e2:y==f with
  | true =>
   rw [e2] at h
   exact .inr ⟨by simpa using e2,(Option.some.inj h).symm⟩
  | false =>
   rw [e2] at h
   cases h
abbrev Bd(t:Bool):ï:=match t with | true=>BG | false=>BF
abbrev qB(t:Bool):Str:=match t with | true=>qOn | false=>qUn
def Fg(t:Bool):∀p∈(zl (Bd t)).names,p.2=NameKind.free->p.1=("cells":Str)\/p.1=("step":Str):=by cases t<;>decide +kernel
def vO{t:Bool}{L c o C cc a O:ø}{x:Zc}{rs:ĉ}{X:î (ć)}{H:Hp}
  (D:C≠o)(hB:Bs [] [(C,.ref a),(o,.ref cc)] base)(hf:H L=some (lE L (qB t) (Ey (Bd t)) (Ew (Bd t)) (zl (Bd t)) [("step",C),("cells",o)] c))(hc:H c=some (iR c (qB t)))(W:TxW K CW)(GH:∀wd,GM P w K mg base Za 1 (CW wd) "house" vi (cK CW wd))
  (r:Rows H cc rs X)(ar:Ar x.1 x.2)(ha:H a=some (.ins (CW x.1) O (kZ x.1 x.2)))(U:(aI x.1 x.2=.non/\aX x X=[])\/∃j row,aI x.1 x.2=.int ((j:Nat):Int)/\X[j]?=some row/\aX x X=row/\hN x=j) :
  CloT P w K mg base 4 L (g8 (vl (aX x X)) (aX x X).length) H:=by
 cases t
 all_goals
   refine ⟨⟨_,_,_,_,_,_,hf⟩,λH1 A I s v u Q g Z e0 rv h=>?_⟩
   obtain ⟨i,ev,i0,F,q⟩:=h
   cases ev
   obtain ⟨j,row,hv,ex,er,_⟩:=U.resolve_left (λz=>by rw [z.2] at F;exact absurd F (by simp;omega))
   rw [er] at F q
   have Y:=r.keep g
   obtain ⟨r0,G,f⟩:=Y.r.get1 ex
   have f1:=jW (m:="house") θ θ θ θ θ x.1 x.2
   refine zj (k:=3) (N:=["cell","cells","step"]) (x:="cell") (fvs:=[.ref cc,.ref a]) Z e0 hB ⟨ϱ,ϱ,ϱ,θ,ϱ,ϱ,θ,λy hy=>?_,λy z a h1 d=>?_⟩ rfl (λy a h=>?_) (λj y v h1 d=>?_) (g _ _ hf) (g _ _ hc) rv (λpm ct=>.of_eq rfl)
    ⟨_,bc K (bc K (pv 1) (lI λwd=>pm0 (GH wd) (pv 2) (W.cl wd) (Z.deeper _))) (pv 0),?_⟩
   .have e:y="cells"\/y="step":=Fg _ _ (Ũ hy) rfl
    rcases e with e | e
    .subst e
     exact ⟨o,ϱ⟩
    .subst e
     exact ⟨C,ϱ⟩
   .rcases Ba h1 with ⟨rfl,rfl⟩ | ⟨rfl,rfl⟩
    .rcases Ba d with ⟨rfl,e⟩ | ⟨_,e⟩
     .rfl
     .exact absurd e D
    .rcases Ba d with ⟨_,e⟩ | ⟨rfl,e⟩
     .exact absurd e.symm D
     .rfl
   .rcases Ba h with ⟨_,rfl⟩ | ⟨_,rfl⟩
    .exact ⟨_,Ω⟩
    .exact ⟨_,Θ _ Ω⟩
   .cases j with
    | zero =>
     cases h1
     cases d
     refine ⟨ϱ,o,ϱ,λv' J=>?_⟩
     rcases ϕ.mp J with e | e
     .cases e
      exact absurd rfl D
     .cases ϵ.mp e
      rfl
    | succ j =>
     cases j with
     | zero =>
      cases h1
      cases d
      refine ⟨ϱ,C,ϱ,λv' J=>?_⟩
      rcases ϕ.mp J with e | e
      .cases e
       rfl
      .cases ϵ.mp e
       exact absurd rfl D
     | succ j=>cases d
   .refine ⟨_,ϱ,x.1,_,ϱ,a,O,_,ϱ,g _ _ ha,f1,_,x.2,ϱ,ar,⟨a,O,ϱ,g _ _ ha⟩,?_⟩
    rw [hv]
    refine ⟨cc,_,_,_,ϱ,ϱ,Nz Y.l,ay (by rw [Ż,G];rfl),_,ϱ,r0,_,_,_,ϱ,ϱ,Nz f,?_,q _ (NC _)⟩
    have e5:i=((i.toNat:Nat):Int):=(ŧ i0).symm
    have lt:i.toNat<row.length:=by omega
    have e6:(row.map V.int)[i.toNat]?=some (.int (vl row i)):=by
     rw [Ż,ξ lt]
     unfold vl
     rw [List.getD,ξ lt]
     rfl
    have z:=ay e6
    rw [← e5] at z
    exact z
def _root_.L2.Fun.okCE{x e:Str}{st:ð}{N ps:Ĉ}{k:Nat}{sp:Sp}(F:Fun K x e st f fd)(S:ag N ps (NE st))(len:∀vs H Q E,sp vs H Q E->vs.length=ps.length)
  (g:∀(A:ô) (d:ą) (s:ú) (H:Hp) (vs:î V) (Q:VK) (E:XK),NU k (A.deeper (PyProof.Rows.envOfC e (NE st) s.heap.objs.size f fd.code))->sp vs H Q E ->
   ∃t,PSs (gW (Zn P w) P w K mg base N e (NE st) f fd.code A d s H E) (NF st) t/\t {nx:=λ_ H'=>Q .non H',rt:=Q} (start N vs) H):NH P w K mg base (Zn P w) (k+1) f fd ps sp:=by
 obtain ⟨y,z,kV,l,C,D,o,G,q,rfl,r,h⟩:=F.ex
 exact vU r h S len λA d s H vs Q E u j=>g A d s H vs Q E u j
def se{x:Zc}{h:Int}(f:Ar x.1 x.2)(n:¬cX x h):xk x.1 x.2 h/\aI x.1 x.2=.non:=by
 obtain ⟨wd,g⟩:=x
 by_cases e:wd=.need
 .subst e
  obtain ⟨a,rfl,_⟩:=Ar.n f
  exact ⟨Int.not_le.mp λz=>n λ_ b d=>by cases d;exact z,ϱ⟩
 .exact absurd (λz=>absurd z e) n
inductive xK (P1 P2:ø) (CW:Wd->ø) (CN:ø) (vs:î V) (H:Hp) (Q:VK) (E:XK):Prop|mk c rs X x v hand:vs=[.ref c,v,.int hand]->Rows H c rs X->NL P1 P2 H->(aX x X).length<=1000->Ar x.1 x.2->StO CW H x.1 x.2 v->be (aB X) x=true->((cX x hand->∀t ch H',Rows H' c rs (ce x (Zk x hand X).2 X)->NL P1 P2 H'->H' t=some (.tup [.int (Zk x hand X).1,.ref ch])->ChT H' (Zk x hand X).2 ch->NK (P1::P2::rs) H H'->Q (.ref t) H'))->((¬cX x hand->∀ev H',Rows H' c rs X->NL P1 P2 H'->NK (P1::P2::rs) H H'->E ev (some CN) H'))->xK P1 P2 CW CN vs H Q E
def zP{X:Cx}{b c:ø}{u v:V}{σ:L2.St}(i j:Nat)(x y:Str)(h1:X.N[i]?=some x/\σ[i]?=some (some u)/\X.env.kindOf x=some .cell/\X.env.cells.lookup x=some b/\X.fn x=true)(h2:X.N[j]?=some y/\σ[j]?=some (some v)/\X.env.kindOf y=some .cell/\X.env.cells.lookup y=some c/\X.fn y=true):uX X [(b,u),(c,v)] σ:=λp hm=>by
 rcases ϕ.mp hm with e | e
 .cases e
  exact ⟨i,x,h1⟩
 .cases ϵ.mp e
  exact ⟨j,y,h2⟩
def Ed{cc J P2 CN:ø}{fS:Wd->ø}{dS:Wd->õ}(F:Fun K "step_on" "step_on" b9 f fd)(W:TxW K CW)(an:BB mg base)(as:fd.code=.ref cc)(av:PySem.W.codeHdIn K cc J=true)(HG:∀g:ñ,K.In g->∀wd,GM P w K mg g Za 1 (CW wd) "house" vi (cK CW wd))
  (HS:∀(wd:Wd) (val:Int->Int) (n:Nat) (g:ñ),n<=1000->K.In g->NH P w K mg g (Zn P w) 5 (fS wd) (dS wd) tz (iU P w K mg CW CN val n wd g))(mS:∀wd,gX K (CW wd) "step_done" (fS wd))(bS:∀wd,NT K (dS wd) tz [])
  (GP:GF P w K mg base Za 2 "put" MW (u9 CW)):NH P w K mg base (Zn P w) 6 f fd MF (xK J P2 CW CN):=by
 refine F.okCE sc_step_on (λvs H Q E h=>?_) (λA0 a6 s H vs Q E hr h=>?_)
 .obtain ⟨c,rs,X,x,v,d,rfl,_⟩:=h
  rfl
 obtain ⟨c,rs,X,x,v,d,rfl,L,tb,r,k,⟨a,dx,rfl,ha⟩,th,q,qe⟩:=h
 have nd:=sc_step_on.nd
 have ne:s.heap.objs.size+2≠s.heap.objs.size+1:=by omega
 have O:(aI x.1 x.2=.non/\aX x X=[])\/∃j row,aI x.1 x.2=.int ((j:Nat):Int)/\X[j]?=some row/\aX x X=row/\hN x=j:=by
  by_cases nk:cX x d
  .exact (fV k th nk).2
  .have e:=(se k nk).2
   exact .inl ⟨e,by unfold aX;rw [e]⟩
 refine ⟨_,ac (sN 3 nd (sE (cs:=[(s.heap.objs.size+2,.ref a),(s.heap.objs.size+1,.ref c)]) (sp:=λg=>iU P w K mg CW CN (vl (aX x X)) (aX x X).length x.1 g) (pv 1) (W.cl x.1) (mS x.1)
   (λg I=>HS x.1 (vl (aX x X)) (aX x X).length g r I) hr (bS x.1) sF (Zb (pv 2) (vv (P:=J) (cl:=[("step",s.heap.objs.size+2),("cells",s.heap.objs.size+1)]) as av an rfl rfl rfl))))
  (ac (bz (pc GP hr (aj (pv 0) (Zb (pv 1) (Zj K (pv 3))))))
  (Ze (pv 3))),?_⟩
 have hf:(kZ x.1 x.2).lookup ("step_done":Str)=none:=jW θ θ θ θ θ x.1 x.2
 refine ⟨zP 1 0 "step" "cells" ⟨ϱ,ϱ,ϱ,ϱ,ϱ⟩ ⟨ϱ,ϱ,ϱ,ϱ,ϱ⟩,_,ϱ,a,dx,_,ϱ,ha,hf,_,ϱ,tb.a,λfv c3 H2 k2 ab bC bG ad l g I pb=>?_⟩
 obtain ⟨u,C⟩:=zk tb L (.inl rfl) k2
 have U:NL J P2 H2:=by
  obtain ⟨y,e1⟩:=cq tb.a
  exact ⟨.inr ⟨c3,ab,l⟩,lH (S:=[J]) tb.b (λz=>tb.ne (ϵ.mp z).symm) (λb m c q z=>by rw [ϵ.mp m,e1] at z;cases z) (λb o n e=>k2 b o (λz=>n (z▸Ω)) e),tb.ne⟩
 have D:=stay tb L C ha ϰ
 have ct:CloT P w K mg g 4 fv (g8 (vl (aX x X)) (aX x X).length) H2:=vO (t:=true) ne pb ad l W (HG g I) u k D O
 refine ⟨.ref a,x.2,d,fv,ϱ,k,⟨a,dx,ϱ,D⟩,ct,?_⟩
 by_cases nk:cX x d
 case neg=>exact .inr ⟨(se k nk).1,λev=>qe nk ev H2 u U C⟩
 have ic:=(fV k th nk).1
 refine .inl ⟨ic,λt ch H3 s3 ht a1=>?_⟩
 obtain ⟨l1,a5⟩:=EK (val:=vl (aX x X)) k ic
 have G:=u.keep s3
 have Y:=U.keep s3
 refine ⟨_,ϱ,_,ϱ,_,ϱ,t,_,_,_,ϱ,ϱ,NA ht,St.at1,c,rs,X,x,_,ch,_,ϱ,G,k,⟨a,dx,ϱ,s3 _ _ D⟩,a1,l1,a5,O,λH4 ah k4=>?_⟩
 have Z:NK (J::P2::rs) H3 H4:=k4.sub λb m=>Θ _ (Θ _ m)
 have a0:=fo Y G Z
 exact ⟨_,ϱ,q nk t ch H4 ah (Y.rows G k4) (a0 _ _ ht) (a1.keep a0) (C.trans ((ND s3).trans Z))⟩
variable {P1 P2:ø}
open PySem.Calls PyProof.Rows in
def AF{X:Cx}{a:ï}{pos:Pos}{ta:TE}(o:PE X a ta):PE X (.UnaryOp .Not a pos) (fun σ H Q=>ta σ H λx H1=>∃k,Ds X.K x H1 k/\Q (.bl (!k)) H1):=by
 intro d s σ H Q I h
 refine UnaryOp_ (Zg (o d s σ H _ I h) λv f ⟨x,H1,g,j,q1⟩=>?_)
 exact not_of (Zg (xo d f σ H1 x v (λk e=>Q (.bl (!k)) e) g j q1) λk q ⟨e,l,q2⟩=>⟨.bl (!k),e,l,ϱ,q2⟩)
def aR:î Zc->Int->î (ć)->î Int×î (ć)
 | [],_,X=>([],X)
 | x::r,h,X=>((Zk x h X).1::(aR r (Zk x h X).1 (ce x (Zk x h X).2 X)).1,(aR r (Zk x h X).1 (ce x (Zk x h X).2 X)).2)
def bw(hs:ć)(h:Int):Int:=hs.getLastD h
def uI(a:Int)(d:ć)(h:Int):bw (a::d) h=bw d a:=by
 unfold bw
 cases d<;>rfl
def iX(d:ć)(a h:Int):bw (d++[a]) h=a:=by
 unfold bw
 simp
theorem mI(x:Zc):∀(xs:î Zc) (h:Int) (X:î (ć)),aR (xs++[x]) h X=((aR xs h X).1++[(Zk x (bw (aR xs h X).1 h) (aR xs h X).2).1],ce x (Zk x (bw (aR xs h X).1 h) (aR xs h X).2).2 (aR xs h X).2)
 | [],_,_=>rfl
 | y::r,h,X=>by
  show ((Zk y h X).1::(aR (r++[x]) (Zk y h X).1 (ce y (Zk y h X).2 X)).1,(aR (r++[x]) (Zk y h X).1 (ce y (Zk y h X).2 X)).2)=_
  rw [mI x r]
  have e:(aR (y::r) h X).1=(Zk y h X).1::(aR r (Zk y h X).1 (ce y (Zk y h X).2 X)).1:=rfl
  have e2:(aR (y::r) h X).2=(aR r (Zk y h X).1 (ce y (Zk y h X).2 X)).2:=rfl
  rw [e,e2,uI]
  rfl
theorem jn:∀(xs:î Zc) (h:Int) (X:î (ć)),aB (aR xs h X).2=aB X
 | [],_,_=>rfl
 | y::r,h,X=>by
  show aB (aR r _ _).2=_
  rw [jn r,ni]
theorem mH:∀(xs:î Zc) (h:Int) (X:î (ć)),(aR xs h X).1.length=xs.length
 | [],_,_=>rfl
 | y::r,h,X=>congrArg (·+1) (mH r _ _)
def okS(xs:î Zc)(h:Int)(X:î (ć)):Prop:=∀i x,xs[i]?=some x->cX x (bw (aR (xs.take i) h X).1 h)
def Sml(X:î (ć)):Prop:=∀m∈aB X,m<=1000
def jA{X:î (ć)}(h:Sml X)(x:Zc):(aX x X).length<=1000:=by
 unfold aX
 split
 .rename_i j _
  cases e:X[j.toNat]? with
  | none=>rw [List.getD,e];exact ϖ _
  | some row =>
   rw [List.getD,e]
   have:=h ((row.length:Nat):Int) (ϑ.mpr ⟨row,ž e,ϱ⟩)
   show row.length<=1000
   lia
 .exact ϖ _
abbrev Own(P1 P2:ø)(rs:ĉ):ĉ:=P1::P2::rs
def yr{H:Hp}{c l:ø}{d:ĉ}{X:î (ć)}(t:NL P1 P2 H)(r:Rows H c d X)(n:H l=none):l∉Own P1 P2 d/\l≠c:=by
 refine ⟨λm=>?_,λz=>by rw [z,r.l] at n;cases n⟩
 rcases ϕ.mp m with z | m
 .obtain ⟨y,e⟩:=cq t.a
  rw [z,e] at n;cases n
 rcases ϕ.mp m with z | m
 .obtain ⟨y,e⟩:=cq t.b
  rw [z,e] at n;cases n
 .obtain ⟨y,e⟩:=r.at m
  cases e▸n
def rL{S:ĉ}{H H1:Hp}{l:ø}{o:HO}(k:NK S H H1)(n:H l=none):NK S H (upd H1 l o):=λb u nb e=>by
 exact am (ap e n)▸k b u nb e
def Rows.upd{H:Hp}{c l:ø}{rs:ĉ}{X:î (ć)}{o:HO}(r:Rows H c rs X)(n:l∉c::rs):Rows (upd H l o) c rs X :=
 r.fr (S:=[l]) (NK.upd Ω) λb m z=>n (ϵ.mp z▸m)
def NL.upd{H:Hp}{l:ø}{o:HO}{us:î V}(t:NL P1 P2 H)(hl:H l=some (.lst us)):NL P1 P2 (upd H l o) :=
 have k:NK [l] H (L2.upd H l o):=NK.upd Ω
 have nc:∀b∈[l],∀c q,H b≠some (iR c q):=λb m c q z=>by rw [ϵ.mp m,hl] at z;cases z
 ⟨lH t.a (λz=>pJ t.a hl (λ_ y=>by cases y) (ϵ.mp z).symm) nc k,lH t.b (λz=>pJ t.b hl (λ_ y=>by cases y) (ϵ.mp z).symm) nc k,t.ne⟩
def pG(X:î (ć))(xs:î Zc):Prop:=∀x∈xs,be (aB X) x=true
inductive xM (P1 P2:ø) (CW:Wd->ø) (CN:ø) (vs:î V) (H:Hp) (Q:VK) (E:XK):Prop|mk c rs X tp us xs hand:vs=[.ref c,.ref tp,.int hand]->Rows H c rs X->NL P1 P2 H->Sml X->H tp=some (.tup us)->StsP CW H xs us->ArS xs->xs.length<=20->pG X xs->((okS xs hand X->∀t H',Rows H' c rs (aR xs hand X).2->NL P1 P2 H'->H' t=some (.tup ((aR xs hand X).1.map V.int))->NK (Own P1 P2 rs) H H'->Q (.ref t) H'))->((¬okS xs hand X->∀ev H' X',aB X'=aB X->Rows H' c rs X'->NL P1 P2 H'->NK (Own P1 P2 rs) H H'->E ev (some CN) H'))->xM P1 P2 CW CN vs H Q E
def Ej{CN:ø}(F:Fun K "hands_behind" "hands_behind" eF f fd)(B:TxB mg)(GO:GF P w K mg base (Zn P w) 6 "step_on" MF (xK P1 P2 CW CN)):NH P w K mg base (Zn P w) 7 f fd ML (xM P1 P2 CW CN):=by
 refine F.okE sc_hands_behind (λvs H Q E h=>?_) (λb1 A a7 s H vs Q E hr h=>?_)
 .obtain ⟨c,O,X,tp,us,xs,d,rfl,_⟩:=h
  rfl
 obtain ⟨c,O,X,tp,us,xs,d,rfl,e,tb,sm,U,st,ar,hl,al,q,qe⟩:=h
 have nd:=sc_hands_behind.nd
 have pl:xs.length=us.length:=st.len
 have hz:(1000:Nat)<=sizeLine:=by decide
 refine ⟨_,ac (sN 3 nd (bF aO))
  (ac (eQ PassesOwn.leaving rfl (uq (pv 1)) (gN 4 nd)
   (ac (sN 2 nd (Zj K (pc GO hr (aj (pv 0) (Zb (pv 4) (pv 2))) (hx:=sF))))
   (au (bz (dg Ţ ş Ş cE (pv 3) (Zd (pv 2)))))))
  (Ze (bM fU rfl B.tuple PyProof.Rows.boot_tuple (Zd (pv 3))))),?_⟩
 refine ⟨χ,λl Z=>?_⟩
 have s1:=aa (o:=.lst []) Z
 obtain ⟨W,a1⟩:=yr tb e Z
 have a3:l∉c::O:=λm=>(ϕ.mp m).elim a1 λm=>W (Θ _ (Θ _ m))
 refine ⟨_,ϱ,tp,ϱ,⟨_,NA (s1 _ _ U)⟩,?_⟩
 refine rN (xs:=us) (λi σ G=>∃y4,σ=[some (.ref c),some (.ref tp),some (.int (bw (aR (xs.take i) d X).1 d)),some (.ref l),y4]/\Rows G c O (aR (xs.take i) d X).2/\NL P1 P2 G/\G l=some (.lst ((aR (xs.take i) d X).1.map V.int))/\NK (Own P1 P2 O) H G/\∀j x,j<i->xs[j]?=some x->cX x (bw (aR (xs.take j) d X).1 d))
  ⟨none,rfl,e.keep s1,tb.keep s1,Ny,rL (ND (NC _)) Z,λj x hj=>absurd hj (Ř j)⟩ (λi σ G _ z=>by obtain ⟨_,_,_,_,_,k,_⟩:=z;exact NA (fo tb e k _ _ U)) ?_ ?_
 .rintro i u σ G hu ⟨y4,rfl,g,L,r,k1,ok⟩
  obtain ⟨x,ex,sx⟩:=st.get hu
  have a4:=u5 tb e k1 sx
  have mx:=ž ex
  have C:aB (aR (xs.take i) d X).2=aB X:=jn _ _ _
  have a5:Sml (aR (xs.take i) d X).2:=λm hm=>sm m (C▸hm)
  have et:xs.take (i+1)=xs.take i++[x]:=by rw [Ų,ex];rfl
  have Y:=mI x (xs.take i) d X
  rw [← et] at Y
  have li:=(ſ.mp ex).1
  have lr:(aR (xs.take i) d X).1.length<=20:=by rw [mH,ŷ];lia
  refine ⟨_,ϱ,_,ϱ,_,ϱ,c,O,_,x,u,_,ϱ,g,L,jA a5 x,ar x mx,a4,by rw [C];exact al x mx,λnk t ch H2 I J ht b5 k2=>?_,λnk ev H2 I J k2=>qe (λo=>nk (o i x ex)) ev H2 _ C I J (k1.trans k2)⟩
  have D:=k2 _ _ W r
  refine ⟨t,_,_,_,ϱ,ϱ,NA ht,St.at0,?_⟩
  refine ⟨_,ϱ,.inl ⟨ϱ,_,Nz D⟩,_,ϱ,l,_,_,ϱ,ϱ,D,by rw [ν];lia,?_⟩
  refine ⟨some u,?_,?_,J.upd D,?_,rL (k1.trans k2) Z,λj y hj ey=>?_⟩
  .rw [Y,iX]
   rfl
  .exact Y▸I.upd a3
  .rw [Y,ż]
   exact Ny
  .rcases ŀ.mp hj with z | z
   .exact ok j y z ey
   .subst z
    rw [ex] at ey
    cases ey
    exact nk
 .rintro σ G ⟨y4,rfl,g,L,r,k1,ok⟩
  rw [← pl,Ū] at g r
  refine ⟨_,ϱ,l,_,ϱ,.inl ⟨Nz r,λt nt=>?_⟩⟩
  have s2:=aa (o:=.tup ((aR xs d X).1.map V.int)) nt
  exact q (λj x ex=>ok j x (by rw [← pl];exact (ſ.mp ex).1) ex) t _ (g.keep s2) (L.keep s2) Ny (k1.trans (ND s2))
def jv(xs:î Zc)(st k:Nat):Prop:=st<=k/\(∀i y,st<=i->i<k->xs[i]?=some y->aI y.1 y.2=.non)/\∃x,xs[k]?=some x/\aI x.1 x.2≠.non
inductive Cb (CW:Wd->ø) (vs:î V) (H:Hp) (Q:VK) (E:XK):Prop|mk tp us xs st:vs=[.ref tp,.int ((st:Nat):Int)]->H tp=some (.tup us)->StsP CW H xs us->ArS xs->xs.length<=20->st<=100->((∀k,jv xs st k->Q (.int ((k:Nat):Int)) H))->(((∀k,¬jv xs st k)->Q .non H))->Cb CW vs H Q E
def Ek(F:Fun K "first_at_house" "first_at_house" cW f fd)(B:TxB mg)(W:TxW K CW)(GH:∀wd,GM P w K mg base Za 1 (CW wd) "house" vi (cK CW wd)):NH P w K mg base Za 2 f fd Nx (Cb CW):=by
 refine F.oj sc_first_at_house λU A t s H vs Q E X h=>?_
 obtain ⟨tp,D,xs,d,rfl,g,G,J,hl,lst,q,L⟩:=h
 have nd:=sc_first_at_house.nd
 have pl:xs.length=D.length:=G.len
 refine ⟨_,ac (eQ Ņ rfl (kO rfl B.range (Zb (pv 1) (aq az rfl B.len Ź (Zd (pv 0))))) (gN 2 nd)
   (au (aC (aJ vy (lI λwd=>pm0 (GH wd) (oP K (pv 0) (pv 2)) (W.cl wd) X) gE (aF _)) (Ze (pv 2)) ao)))
  (Ze gE),?_⟩
 refine ⟨_,ϱ,_,ϱ,tp,_,ϱ,.inr (NA g),_,_,ϱ,⟨ω,ω,ω,ω⟩,?_⟩
 refine cH (λi σ u=>u=H/\(∀j y,d<=j->j<d+i->xs[j]?=some y->aI y.1 y.2=.non)/\∃y2,σ=[some (.ref tp),some (.int ((d:Nat):Int)),y2]) ⟨ϱ,(λj y h1 Y=>by lia),none,ϱ⟩ ?_ ?_
 .rintro i σ u hi ⟨rfl,r,y2,rfl⟩
  have I:d+i<D.length:=by lia
  obtain ⟨x,ex,sa,l,e,o⟩:=G.get (ξ I)
  have O:((d:Nat):Int)+(i:Nat)=((d+i:Nat):Int):=by lia
  rw [O]
  have f1:=jW (m:="house") θ θ θ θ θ x.1 x.2
  refine ⟨x.1,_,ϱ,_,ϱ,tp,_,_,_,ϱ,ϱ,NA g,ay (by rw [ξ I,e]),sa,l,_,ϱ,o,f1,_,x.2,ϱ,J x (ž ex),⟨sa,l,ϱ,o⟩,ϱ,_,ϱ,?_⟩
  by_cases en:aI x.1 x.2=.non
  .rw [τ en]
   refine a8 ⟨ϱ,λj y h1 Y C=>?_,_,ϱ⟩
   by_cases z:j=d+i
   .rw [z,ex] at C;cases C;exact en
   .exact r j y h1 ω C
  .exact Γ en▸bx ⟨_,ϱ,q _ ⟨Nat.le_add_right _ _,r,x,ex,en⟩⟩
 .rintro σ u ⟨rfl,r,_,rfl⟩
  refine L λk ⟨h1,_,x,ex,Z⟩=>Z (r k x h1 ?_ ex)
  have:=(ſ.mp ex).1
  lia
inductive En where
 | pact (p:Pa) (xs:î Zc) (hs:ć)
 | step (p:Pa) (xs:î Zc) (k:Nat) (cs:î (Int×Int)) (h:Int)
 | undo (p:Pa) (xs:î Zc) (k:Nat) (cs:î (Int×Int))
def En.nm:En->Pa
 | .pact p _ _=>p
 | .step p _ _ _ _=>p
 | .undo p _ _ _=>p
def En.wd:En->Str
 | .pact ..=>"pact"
 | .step ..=>"step"
 | .undo ..=>"undo"
def En.tx:En->Str
 | .pact _ xs _=>Zf (mS false) xs
 | .step _ xs _ _ _=>Zf (mS true) xs
 | .undo _ xs _ _=>Zf (mS true) xs
def EnR(H:Hp):En->î V->Prop
 | .pact _ _ hs,vs=>∃t,vs=[.ref t]/\H t=some (.tup (hs.map V.int))
 | .step _ _ k cs h,vs=>∃t,vs=[.int ((k:Nat):Int),.ref t,.int h]/\ChT H cs t
 | .undo _ _ k cs,vs=>∃t,vs=[.int ((k:Nat):Int),.ref t]/\ChT H cs t
def NV(H:Hp)(e:En)(u:V):Prop:=∃t pa vs,u=.ref t/\H t=some (.tup (.str e.wd::.ref pa::.str e.tx::vs))/\H pa=some (.tup [.int e.nm.1,.int e.nm.2])/\EnR H e vs
def EnR.keep{H H':Hp}{e:En}{vs:î V}(s:a9 H H')(h:EnR H e vs):EnR H' e vs:=by
 cases e with
 | pact p xs hs=>exact h.imp λt z=>⟨z.1,s _ _ z.2⟩
 | step p xs k cs h'=>exact h.imp λt z=>⟨z.1,z.2.keep s⟩
 | undo p xs k cs=>exact h.imp λt z=>⟨z.1,z.2.keep s⟩
def NV.keep{H H':Hp}{e:En}{u:V}(s:a9 H H')(h:NV H e u):NV H' e u:=by
 obtain ⟨t,d,vs,rfl,h1,f,g⟩:=h
 exact ⟨t,d,vs,ϱ,s _ _ h1,s _ _ f,g.keep s⟩
def FitP(b:Bool)(X:î (ć))(xs:î Zc):Prop:=ArS xs/\xs≠[]/\xs.length<=12/\Ab b (aB X) xs
def FitP.all{b:Bool}{X:î (ć)}{xs:î Zc}(h:FitP b X xs):pG X xs:=λx hx=>by
 obtain ⟨i,e⟩:=ť hx
 exact h.2.2.2.1 i (ſ.mp e).1 x e
def aT(bs:î En):Ć:=bs.filterMap λe=>match e with | .step _ _ k _ _=>some k | _=>none
def bh(bs:î En):Nat:=(bs.filter λe=>match e with | .undo ..=>true | _=>false).length
def left(bs:î En):Ć:=(aT bs).take ((aT bs).length-bh bs)
def Bt(X:î (ć))(bs:î En)(xs:î Zc)(k:Nat)(cs:î (Int×Int))(h:Int)(X':î (ć))(st:Nat)(h0:Int):Prop :=
 (∀b∈bs,∃p' k' cs' h',b=.step p' xs k' cs' h')/\((bs=[]/\st=0/\h0=0)\/∃r p' k' cs',bs=r++[.step p' xs k' cs' h0]/\st=k'+1)/\jv xs st k/\okS ((xs.drop st).take (k-st)) h0 X /\
 ∃x,xs[k]?=some x/\Zk x (bw (aR ((xs.drop st).take (k-st)) h0 X).1 h0) (aR ((xs.drop st).take (k-st)) h0 X).2=(h,cs)/\X'=ce x cs (aR ((xs.drop st).take (k-st)) h0 X).2
def Fit(X:î (ć))(bs:î En):En->î (ć)->Prop
 | .pact _ xs hs,X'=>FitP false X xs/\bs=[]/\okS xs 0 X/\hs=(aR xs 0 X).1/\X'=(aR xs 0 X).2
 | .step _ xs k cs h,X'=>FitP true X xs/\∃st h0,Bt X bs xs k cs h X' st h0
 | .undo _ xs k cs,X'=>FitP true X xs/\(∀b∈bs,(∃p' k' cs' h',b=.step p' xs k' cs' h')\/∃p' k' cs',b=.undo p' xs k' cs')/\bs≠[]/\(left bs).getLast?=some k/\(∀j∈left bs,∃x,xs[j]?=some x/\x.1≠.give)/\∃x,xs[k]?=some x/\aI x.1 x.2≠.non/\cs=bkS x X/\X'=ce x cs X
structure FiX(P1 P2 CP:ø)(CW:Wd->ø)(H:Hp)(c:ø)(rs:ĉ)(X:î (ć))(bl:ø)(us:î V)(bs:î En)(b:Bool)(xs:î Zc)(t:ø)(vs:î V)(v:V):Prop where
 rw:Rows H c rs X
 tb:NL P1 P2 H
 sm:Sml X
 fb:H bl=some (.lst us)
 fs:Paired (NV H) bs us
 lb:bs.length<=1000
 en:∃w pn,H t=some (.tup (.str w::.ref pn::.str (Zf (mS b) xs)::vs))
 pa:PaO CP CW H (mS b) xs v
 nb:bl∉c::rs
 ar:ArS xs
 l12:xs.length<=12
 al:pG X xs
def FiX.keep{H H':Hp}{c bl t:ø}{rs:ĉ}{X:î (ć)}{us vs:î V}{bs:î En}{b:Bool}{xs:î Zc}{v:V}(s:NI H H')(h:FiX P1 P2 CP CW H c rs X bl us bs b xs t vs v):FiX P1 P2 CP CW H' c rs X bl us bs b xs t vs v :=
 ⟨h.rw.keep s,h.tb.keep s,h.sm,s _ _ h.fb,NB h.fs λ_ _ z=>z.keep s.ts,h.lb,let ⟨w,pn,e⟩:=h.en;⟨w,pn,s _ _ e⟩,h.pa.keep s,h.nb,h.ar,h.l12,h.al⟩
def NoF(P1 P2 CN:ø)(c:ø)(rs:ĉ)(X:î (ć))(H:Hp)(Q:VK)(E:XK):Prop:=∀H' X',aB X'=aB X->Rows H' c rs X'->NL P1 P2 H'->NK (Own P1 P2 rs) H H'->Q (.bl false) H'/\∀ev,E ev (some CN) H'
def wc(X:î (ć))(bs:î En)(b:Bool)(xs:î Zc)(hs:ć):Prop:=b=false/\bs=[]/\okS xs 0 X/\(aR xs 0 X).1=hs
inductive Au (P1 P2 CP:ø) (CW:Wd->ø) (CN:ø) (vs:î V) (H:Hp) (Q:VK) (E:XK):Prop|mk c rs X bl us bs b xs hs t ht v:vs=[.ref c,.ref bl,.ref t,v]->FiX P1 P2 CP CW H c rs X bl us bs b xs t [.ref ht] v->H ht=some (.tup (hs.map V.int))->((wc X bs b xs hs->∀H',Rows H' c rs (aR xs 0 X).2->NL P1 P2 H'->NK (Own P1 P2 rs) H H'->Q (.bl true) H'))->((¬wc X bs b xs hs->NoF P1 P2 CN c rs X H Q E))->Au P1 P2 CP CW CN vs H Q E
def zR{H:Hp}{a:ø}{ns:ć}(h:H a=some (.tup (ns.map V.int))):(cTs cInt).rp K H ns (.ref a):=by
 refine ⟨a,_,ϱ,.inl h,?_⟩
 clear h
 induction ns with
 | nil=>exact .nil
 | cons n r ih=>exact .cons rfl ih
def qw{H:Hp}{a:ø}{cs:î (Int×Int)}(h:ChT H cs a):(cTs cPa).rp K H cs (.ref a):=by
 obtain ⟨f,h1,d⟩:=h
 exact ⟨a,_,ϱ,.inl h1,NB d λx u ⟨b,e,z⟩=>e▸Do (k:=x) z⟩
def A9(b:Bool):decide (V.str (mS b)=V.str "held")=!b:=by cases b<;>decide +kernel
def at3{x y z a:V}{xs:î V}:atI (x::y::z::a::xs) 3=some a:=ay (j:=3) rfl
def at4{x y z a b:V}{xs:î V}:atI (x::y::z::a::b::xs) 4=some b:=ay (j:=4) rfl
def at5{x y z a b c:V}{xs:î V}:atI (x::y::z::a::b::c::xs) 5=some c:=ay (j:=5) rfl
def Ec{O:ø}(F:Fun K "is_pact_fit" "is_pact_fit" fL f fd)(T:TxP K CP)(GB:GF P w K mg base (Zn P w) 7 "hands_behind" ML (xM P1 P2 CW O)):NH P w K mg base (Zn P w) 8 f fd vn (Au P1 P2 CP CW O):=by
 refine F.okE nV (λvs H Q E h=>?_) (λZ A C s H vs Q E L h=>?_)
 .obtain ⟨c,G,X,U,u,bs,b,xs,k,t,W,v,rfl,_⟩:=h
  rfl
 obtain ⟨c,G,X,U,u,bs,b,xs,k,t,W,v,rfl,i,Y,q,x⟩:=h
 refine ⟨_,Ze (kS (bH lK (aE (pv 3) rfl) aw (aF _)) (kS (AF (pv 1)) (iu (bH (rE (cTs cInt) (hun (c:=1) L)) (pc GB L (aj (pv 0) (Zb (aE (pv 3) rfl) af)) (hx:=sF)) (Zj K (pv 2)) (aF _))))),?_⟩
 obtain ⟨a,I,sl,tp,y,rfl,l⟩:=i.pa
 obtain ⟨w',pn,h1⟩:=i.en
 have J:¬wc X bs b xs k->Q (.bl false) H:=λz=>(x z H X rfl i.rw i.tb (ND (NC _))).1
 refine ⟨_,ϱ,a,CP,I,_,_,ϱ,l.ins,T.cl,T.nm,Cs _ _ _,ϱ,_,ϱ,?_⟩
 rw [A9]
 cases b with
 | true=>exact a8 (J λz=>by cases z.1)
 | false =>
  refine bx ⟨_,ϱ,_,.inl ⟨_,Nz i.fb,ϱ⟩,_,ϱ,?_⟩
  have pl:=i.fs.len
  cases bs with
  | cons e r =>
   cases u with
   | nil=>cases pl
   | cons _ _=>exact a8 (J λz=>by cases z.2.1)
  | nil =>
   cases u with
   | cons _ _=>cases pl
   | nil =>
    refine bx ⟨_,ϱ,_,ϱ,a,CP,I,_,_,ϱ,l.ins,T.cl,T.np,kR _ _ _,c,G,X,tp,y,xs,0,ϱ,i.rw,i.tb,i.sm,l.tp,l.st,i.ar,by have:=i.l12;lia,i.al,λok t' o d g D j=>?_,λok ev o X' e' d g j=>(x (λz=>ok z.2.2.1) o X' e' d g j).2 ev⟩
    have ts:=fo i.tb i.rw j
    refine ⟨_,ϱ,t,_,_,_,ϱ,ϱ,NA (ts _ _ h1),at3,_,k,zR D,zR (ts _ _ Y),?_⟩
    by_cases e:(aR xs 0 X).1=k
    .exact τ e▸q ⟨ϱ,ϱ,ok,e⟩ o d g j
    .rw [Γ e]
     exact (x (λz=>e z.2.2.2) o _ (jn _ _ _) d g j).1
def sq{t u:TS}{D:Ends}{σ:L2.St}{H:Hp}(h:∀nx,(∀σ H,u D σ H->nx σ H)->t {D with nx:=nx} σ H):BX t u D σ H:=h _ λ_ _ z=>z
variable {P1 P2:ø}
def dy{X:Cx}{st:î ð}{t u:TS}(h:PSs X st t)(hw:∀D σ H,u D σ H->t D σ H):PSs X st u:=yi u h hw
def Lst(bs:î En)(st:Nat)(h0:Int):Prop:=(bs=[]/\st=0/\h0=0)\/∃r p' xs' k' cs',bs=r++[.step p' xs' k' cs' h0]/\st=k'+1
def Bu(bs:î En)(xs:î Zc):Prop:=∀o∈bs,∃p' xs' k' cs' h',o=.step p' xs' k' cs' h'/\Zf (mS true) xs'=Zf (mS true) xs
def tQ(X:î (ć))(bs:î En)(b:Bool)(xs:î Zc)(k:Int)(cs:î (Int×Int))(h:Int)(X':î (ć)):Prop:=b=true/\Bu bs xs/\∃st h0,Lst bs st h0/\∃k':Nat,k=(k':Int)/\jv xs st k'/\okS ((xs.drop st).take (k'-st)) h0 X /\
 ∃x,xs[k']?=some x/\Zk x (bw (aR ((xs.drop st).take (k'-st)) h0 X).1 h0) (aR ((xs.drop st).take (k'-st)) h0 X).2=(h,cs)/\X'=ce x cs (aR ((xs.drop st).take (k'-st)) h0 X).2
def Wlk(bs:î En):Prop:=∀o∈bs,(∃p' xs' k' cs' h',o=.step p' xs' k' cs' h'/\k'<=50)\/∃p' xs' k' cs',o=.undo p' xs' k' cs'
inductive As (P1 P2 CP:ø) (CW:Wd->ø) (CN:ø) (vs:î V) (H:Hp) (Q:VK) (E:XK):Prop|mk c rs X bl us bs b xs k cs h t ht v:vs=[.ref c,.ref bl,.ref t,v]->FiX P1 P2 CP CW H c rs X bl us bs b xs t [.int k,.ref ht,.int h] v->ChT H cs ht->Wlk bs->((∀X',tQ X bs b xs k cs h X'->∀H',Rows H' c rs X'->NL P1 P2 H'->NK (Own P1 P2 rs) H H'->Q (.bl true) H'))->(((∀X',¬tQ X bs b xs k cs h X')->NoF P1 P2 CN c rs X H Q E))->As P1 P2 CP CW CN vs H Q E
def fE{bs:î En}{st d:Nat}{h0 f:Int}(a:Lst bs st h0)(c:Lst bs d f):st=d/\h0=f:=by
 rcases a with ⟨e,rfl,rfl⟩ | ⟨r,p',xs',k',cs',e,rfl⟩
 .rcases c with ⟨_,rfl,rfl⟩ | ⟨r2,_,_,_,_,e2,_⟩
  .exact ⟨ϱ,ϱ⟩
  .rw [e] at e2;simp at e2
 .rcases c with ⟨e2,_⟩ | ⟨r2,p2,x2,k2,c2,e2,rfl⟩
  .rw [e] at e2;simp at e2
  .rw [e] at e2
   have:=List.append_inj_right' e2 rfl
   cases this
   exact ⟨ϱ,ϱ⟩
def qo{xs:î Zc}{st k k':Nat}(a:jv xs st k)(c:jv xs st k'):k=k':=by
 obtain ⟨d,e,x,ex,f⟩:=a
 obtain ⟨g,h,y,j,l⟩:=c
 rcases Nat.lt_trichotomy k k' with z | z | z
 .exact absurd (h k x d z ex) f
 .exact z
 .exact absurd (e k' y g z j) l
def bd(b:Bool)(xs:î Zc)(o:En):Bool:=decide (V.str o.wd=V.str "undo")||!decide (V.str o.tx=V.str (Zf (mS b) xs))
def Dq{bs:î En}{xs:î Zc}(hw:Wlk bs)(h:(bs.map (bd true xs)).any id=false):Bu bs xs:=λo ho=>by
 have z:bd true xs o=false:=by
  have:=List.any_eq_false.mp h (bd true xs o) (ϑ.mpr ⟨o,ho,ϱ⟩)
  simpa using this
 rcases hw o ho with ⟨p',xs',k',cs',h',rfl,_⟩ | ⟨p',xs',k',cs',rfl⟩
 .refine ⟨p',xs',k',cs',h',ϱ,?_⟩
  have e:=(Bool.or_eq_false_iff.mp z).2
  have d:(En.step p' xs' k' cs' h').tx=Zf (mS true) xs:=by simpa using e
  exact d
 .have e:decide (V.str ("undo":Str)=V.str ("undo":Str))=false:=(Bool.or_eq_false_iff.mp z).1
  rw [τ rfl] at e
  cases e
def ER{bs:î En}{b:Bool}{xs:î Zc}(h:(bs.map (bd b xs)).any id=true)(d:b=true):¬Bu bs xs:=λa=>by
 subst d
 obtain ⟨z,hz,e⟩:=Ė.mp h
 obtain ⟨o,ho,rfl⟩:=ϑ.mp hz
 obtain ⟨p',xs',k',cs',h',rfl,et⟩:=a o ho
 have e1:bd true xs (.step p' xs' k' cs' h')=false:=by
  show (decide (V.str ("step":Str)=V.str ("undo":Str))||!decide (V.str (Zf (mS true) xs')=V.str (Zf (mS true) xs)))=false
  rw [τ (congrArg V.str et)]
  decide +kernel
 rw [e1] at e
 cases e
def Er(b:Bool):(!decide (V.str (mS b)=V.str "walked"))=!b:=by rw [vI]
def rT(xs:î V)(a b:Nat)(h1:a<=b)(d:b<=xs.length):bn xs (some (a:Int)) (some (b:Int))=(xs.drop a).take (b-a):=by
 unfold bn
 rw [HT.cP,HT.cP,ņ d,ņ (show a<=xs.length by lia)]
theorem jp{α β:Type}{R:α->β->Prop}:∀(a b:Nat) {xs:î α} {ys:î β},Paired R xs ys->Paired R ((xs.drop a).take b) ((ys.drop a).take b)
 | 0,0,_,_,_=>by simp;exact .nil
 | 0,b+1,_,_,.nil=>.nil
 | 0,b+1,_,_,.cons x r=>.cons x (jp 0 b r)
 | a+1,b,_,_,.nil=>by simp;exact .nil
 | a+1,b,_,_,.cons x r=>jp a b r
def Ea{CN:ø}(F:Fun K "is_step_fit" "is_step_fit" cr f fd)(B:TxB mg)(T:TxP K CP)(ds:GF P w K mg base Za 2 "first_at_house" Nx (Cb CW))(GB:GF P w K mg base (Zn P w) 7 "hands_behind" ML (xM P1 P2 CW CN))(GO:GF P w K mg base (Zn P w) 6 "step_on" MF (xK P1 P2 CW CN)) :
  NH P w K mg base (Zn P w) 8 f fd vn (As P1 P2 CP CW CN):=by
 refine F.okE sc_is_step_fit (λvs H Q E h=>?_) (λe7 A d6 s H vs Q E hr h=>?_)
 .obtain ⟨c,rs,X,bl,us,bs,b,xs,k,cs,h,t,ht,v,rfl,_⟩:=h
  rfl
 obtain ⟨c,rs,X,bl,us,bs,b,xs,k,cs,h,t,ht,v,rfl,i,h3,hw,q,qn⟩:=h
 have nd:=sc_is_step_fit.nd
 refine ⟨_, ac (aC (PW.pt (cU (aJ f8 (aE (pv 3) rfl) aw (aF _)) (cR (bj (aq (iQ rfl) rfl B.any PyProof.Rows.boot_any (Zd (fz kL rfl (cg (pv 1)) (fun _ _ _ _ => bo)
       (λ_ _ _ _=>yn (bH lK (Zj K (pv 0)) aw (aF _)) (iu (bH f8 (Zj K (pv 0)) (Zj K (pv 1)) (aF _))))))))))) (Ze eS) ao)
  (ac (sN 4 nd (ou (eM (pv 1) (λ_=>rfl)) (ai aU (Zj K (bc K (pv 1) (eR cA af))) af) af))
  (ac (sN 5 nd (ou (eM (pv 1) (λ_=>rfl)) (Zj K (bc K (pv 1) (eR cA af))) af))
  (dy (u:=λD σ H1=>∃G h0,b=true/\Bu bs xs/\Lst bs G h0/\G<=51/\NI H H1/\σ=[some (.ref c),some (.ref bl),some (.ref t),some v,some (.int ((G:Nat):Int)),some (.int h0),none]/\∀v J,Q v J->D.rt v J)
   (ac (aC (aJ f8 (Zj K (pv 2)) (pc ds hr (Zb (aE (pv 3) rfl) (pv 4))) (aF _)) (Ze eS) ao)
   (ac (sN 6 nd (pc GB hr (aj (pv 0) (Zb (aL uh (aE (pv 3) rfl) (aN (pv 4)) (aN (Zj K (pv 2)))) (pv 5))) (hx:=sF)))
   (Ze (bH (rE (cT2 cInt (cTs cPa)) (hun (c:=3) hr)) (pc GO hr (aj (pv 0) (Zb (oP K (aE (pv 3) rfl) (Zj K (pv 2))) (ou (eM (pv 6) (λ_=>rfl)) (oP K (pv 6) (eR cA af)) (pv 5)))) (hx:=sF))
    (aA (Zb (Zj K (pv 2)) (Zj K (pv 2)))) (aF _))))) ?s2))),?_⟩
 .rintro D σ H1 ⟨G,h0,hb,al,ls,el,s0,rfl,nx⟩
  have i:=i.keep s0
  have h3:=h3.keep s0.ts
  obtain ⟨a,dx,sl,tp,g,rfl,pa⟩:=i.pa
  obtain ⟨w',pn,h1⟩:=i.en
  have pl:xs.length=g.length:=pa.st.len
  have dV:=i.l12
  have no:(∀X',¬tQ X bs b xs k cs h X')->∀J X',aB X'=aB X->Rows J c rs X'->NL P1 P2 J->NK (Own P1 P2 rs) H1 J->Q (.bl false) J/\∀ev,E ev (some CN) J:=λz J X' e d7 C d=>qn z J X' e d7 C ((ND s0).trans d)
  refine ⟨_,ϱ,t,_,_,_,ϱ,ϱ,NA h1,at3,_,ϱ,a,CP,dx,_,_,ϱ,pa.ins,T.cl,T.np,kR _ _ _,_,ϱ,tp,g,xs,G,ϱ,pa.tp,pa.st,i.ar,ω,ω,λd fh=>?_,λnf=>?_⟩
  rotate_left
  .refine ⟨ϱ,_,ϱ,?_⟩
   rw [show (!decide (V.int k=V.non))=true from by rw [Γ (λz=>by cases z)];rfl]
   exact bx (nx _ _ (no (λX' ⟨_,_,b5,b6,W,d,_,fh,_⟩=>nf d ((fE ls W).1▸fh)) H1 X rfl i.rw i.tb (ND (NC _))).1)
  refine ⟨ϱ,_,ϱ,?_⟩
  by_cases ek:k=(d:Int)
  case neg =>
   rw [show (!decide (V.int k=V.int (d:Int)))=true from by rw [Γ (λz=>ek (V.int.inj z))];rfl]
   exact bx (nx _ _ (no (λX' ⟨_,_,b5,b6,W,k2,e2,bi,_⟩=>ek (by rw [e2,qo fh ((fE ls W).1▸bi)])) H1 X rfl i.rw i.tb (ND (NC _))).1)
  subst ek
  rw [show (!decide (V.int (d:Int)=V.int (d:Int)))=false from by rw [τ rfl];rfl]
  obtain ⟨le,dN,x,ex,d3⟩:=id fh
  have lk:=(ſ.mp ex).1
  refine a8 ⟨_,ϱ,_,ϱ,a,CP,dx,_,_,ϱ,pa.ins,T.cl,T.np,kR _ _ _,_,ϱ,_,ϱ,_,ϱ,t,_,_,_,ϱ,ϱ,NA h1,at3,_,ϱ,tp,_,ϱ,NA pa.tp,?_,λsp d9=>?_⟩
  .rintro ⟨_,z⟩
   rw [HT.cP] at z
   lia
  have L:=aa (o:=.tup (bn g (some (G:Int)) (some (d:Int)))) d9
  have bS:(upd H1 sp (.tup (bn g (some (G:Int)) (some (d:Int))))) sp=some (.tup ((g.drop G).take (d-G))):=by
   exact rT g G d le ω▸Ny
  have bT:StsP CW (upd H1 sp (.tup (bn g (some (G:Int)) (some (d:Int))))) ((xs.drop G).take (d-G)) ((g.drop G).take (d-G)):=NB (jp G (d-G) pa.st) λ_ _ z=>z.keep L
  generalize (upd H1 sp (.tup (bn g (some (G:Int)) (some (d:Int)))))=H2 at L bS bT ⊢
  have sub:∀y∈(xs.drop G).take (d-G),y∈xs:=λy hy=>Ŀ (ň hy)
  have an:=i.rw.keep L
  have as:=i.tb.keep L
  refine ⟨_,rfl,c,rs,X,sp,_,(xs.drop G).take (d-G),h0,rfl,an,as,i.sm,bS,bT,λy hy=>i.ar y (sub y hy),?_,λy hy=>i.al y (sub y hy),λok hl H3 ab ad bt k3=>?_,λdc ev H3 X3 e3 ab ad k3=>(no (λX' ⟨_,_,b5,b6,W,k2,e2,bi,ok2,_⟩=>dc (by obtain ⟨rfl,rfl⟩:=fE ls W;obtain rfl:d=k2:=(ω);exact ok2)) H3 X3 e3 ab ad ((ND L).trans k3)).2 ev⟩
  .rw [ŷ,Ś]
   lia
  generalize er:aR ((xs.drop G).take (d-G)) h0 X=r at *
  have b2:a9 H1 H3:=λb z e=>fo as an k3 _ _ (L _ _ e)
  have c0:StO CW H3 x.1 x.2 (g[d]'(ω)):=by
   obtain ⟨y,ey,sy⟩:=pa.st.get (ξ (show d<g.length by lia))
   rw [ex] at ey
   cases ey
   exact u5 as an k3 (sy.keep L)
  have c2:H3 a=some (.ins CP dx (pf (mS b) sl tp)):=stay as an k3 (L _ _ pa.ins) ϰ
  have b3:aB r.2=aB X:=by rw [← er];exact jn _ _ _
  refine ⟨_,ϱ,_,ϱ,a,CP,dx,_,_,ϱ,c2,T.cl,T.np,kR _ _ _,_,ϱ,t,_,_,_,ϱ,ϱ,NA (b2 _ _ h1),at3,tp,_,_,_,ϱ,ϱ,NA (b2 _ _ pa.tp),ay (ξ (show d<g.length by lia)),_,ϱ,_,.inr (.inl ⟨_,NA bt,ϱ⟩),?_⟩
  have c3:Sml r.2:=λn hn=>i.sm n (b3▸hn)
  have c4:be (aB r.2) x=true:=by rw [b3];exact i.al x (ž ex)
  have c5:∀m,cX x m:=λm z=>absurd (Ar.homeless (ns:=x.2) (.inr z)) d3
  have a6:∀{Y:Hp},NK (Own P1 P2 rs) H3 Y->a9 H1 Y:=λk4 b z e=>fo ad ab k4 _ _ (b2 _ _ e)
  have av:∀(t' ch t2:ø) (Y:Hp),Rows Y c rs (ce x (Zk x (bw r.1 h0) r.2).2 r.2)->NL P1 P2 Y->Y t'=some (.tup [.int (Zk x (bw r.1 h0) r.2).1,.ref ch])->ChT Y (Zk x (bw r.1 h0) r.2).2 ch->NK (Own P1 P2 rs) H3 Y->Y t2=none ->
    ∃p1 p2:Int×î (Int×Int),(cT2 cInt (cTs cPa)).rp K (upd Y t2 (.tup [.int h,.ref ht])) p1 (.ref t')/\(cT2 cInt (cTs cPa)).rp K (upd Y t2 (.tup [.int h,.ref ht])) p2 (.ref t2)/\D.rt (.bl (decide (p1=p2))) (upd Y t2 (.tup [.int h,.ref ht])):=λt' ch t2 Y Z a2 ah O k4 n2=>by
   have s5:=aa (o:=.tup [.int h,.ref ht]) n2
   refine ⟨Zk x (bw r.1 h0) r.2,(h,cs),⟨t',_,_,ϱ,.inl (s5 _ _ ah),ϱ,qw (O.keep s5.ts)⟩,⟨t2,_,_,ϱ,.inl Ny,ϱ,qw ((h3.keep (a6 k4)).keep s5.ts)⟩,?_⟩
   by_cases e:Zk x (bw r.1 h0) r.2=(h,cs)
   .rw [τ e]
    rw [e] at Z
    exact nx _ _ (q _ ⟨hb,al,G,h0,ls,d,ϱ,fh,by subst er;exact ok,x,ex,by subst er;exact e,ϱ⟩ _ (by subst er;exact Z.keep s5) (a2.keep s5) ((ND (s0.trans L)).trans (k3.trans (k4.trans (ND s5)))))
   .rw [Γ e]
    refine nx _ _ (no (λX' ⟨_,_,b5,b6,W,k2,e2,bi,_,x2,co,ed,_⟩=>e ?_) _ _ ((ni _ _ _).trans b3) (Z.keep s5) (a2.keep s5) ((ND L).trans (k3.trans (k4.trans (ND s5))))).1
    obtain ⟨rfl,rfl⟩:=fE ls W
    obtain rfl:d=k2:=by lia
    rw [ex] at co
    cases co
    exact er▸ed
  rcases Ő r.1 with e0 | ⟨zs,z,e0⟩
  .have em:bw r.1 h0=h0:=by rw [e0];rfl
   rw [em] at av
   rw [e0]
   refine a8 ⟨_,ϱ,?_⟩
   refine ⟨c,rs,r.2,x,_,_,ϱ,ab,ad,jA c3 x,i.ar x (ž ex),c0,c4,λ_ t' ch Y Z a2 ah O k4=>?_,λnk=>absurd (c5 _) nk⟩
   exact ⟨_,ϱ,t,_,_,_,ϱ,ϱ,NA (a6 k4 _ _ h1),at5,_,ϱ,t,_,_,_,ϱ,ϱ,NA (a6 k4 _ _ h1),at4,χ,λt2 n2=>av _ _ _ _ Z a2 ah O k4 n2⟩
  .rw [ŏ] at e0
   have em:bw r.1 h0=z:=by rw [e0,iX]
   rw [em] at av
   rw [e0,ż] at bt ⊢
   have e1:(!(zs.map V.int++[z].map V.int).isEmpty)=true:=by simp
   rw [e1]
   refine bx ⟨_,ϱ,_,ϱ,hl,_,_,_,ϱ,ϱ,NA bt,dw _ _,?_⟩
   refine ⟨c,rs,r.2,x,_,_,ϱ,ab,ad,jA c3 x,i.ar x (ž ex),c0,c4,λ_ t' ch Y Z a2 ah O k4=>?_,λnk=>absurd (c5 _) nk⟩
   exact ⟨_,ϱ,t,_,_,_,ϱ,ϱ,NA (a6 k4 _ _ h1),at5,_,ϱ,t,_,_,_,ϱ,ϱ,NA (a6 k4 _ _ h1),at4,χ,λt2 n2=>av _ _ _ _ Z a2 ah O k4 n2⟩
 obtain ⟨a,dx,sl,tp,g,rfl,pa⟩:=i.pa
 obtain ⟨w',pn,h1⟩:=i.en
 have b4:=i.fb
 have aM:=i.fs
 have lb:=i.lb
 have hz:(1000:Nat)<=sizeLine:=by decide
 have a7:bs.length=us.length:=aM.len
 have no:(∀X',¬tQ X bs b xs k cs h X')->∀J,NI H J->Q (.bl false) J:=λz J s'=>(qn z J X rfl (i.rw.keep s') (i.tb.keep s') (ND s')).1
 refine ⟨_,ϱ,a,CP,dx,_,_,ϱ,pa.ins,T.cl,T.nm,Cs _ _ _,ϱ,_,ϱ,?_⟩
 rw [Er]
 cases hb:b with
 | false=>exact bx (bx (no (λX' z=>by cases hb▸z.1) _ (NC _)))
 | true =>
 subst hb
 refine a8 ⟨_,ϱ,bl,ϱ,⟨_,Nz b4⟩,?_⟩
 refine eg (xs:=us) (λj ys J=>J=H/\ys=((bs.take j).map (bd true xs)).map V.bl) ⟨ϱ,ϱ⟩ ω (λj ys J _ z=>by rw [z.1];exact Nz b4) ?_ ?_
 .rintro j w2 ys J hu ⟨rfl,rfl⟩
  obtain ⟨o,eo,ho⟩:=aM.get hu
  obtain ⟨C,a4,a5,rfl,bN,_,_⟩:=ho
  have et:((bs.take (j+1)).map (bd true xs)).map V.bl=((bs.take j).map (bd true xs)).map V.bl++[V.bl (bd true xs o)]:=by rw [Ų,eo,ż,ż];rfl
  refine fW ⟨_,ϱ,C,_,_,_,ϱ,ϱ,NA bN,St.at0,ϱ,_,ϱ,aP (λc1=>⟨ϱ,?_⟩) (λc1=>?_)⟩
  .rw [et,show bd true xs o=true from by unfold bd;rw [show decide (V.str o.wd=V.str "undo")=true from c1];rfl]
  .refine ⟨_,ϱ,C,_,_,_,ϱ,ϱ,NA bN,St.at2,_,ϱ,t,_,_,_,ϱ,ϱ,NA h1,St.at2,ϱ,ϱ,?_⟩
   rw [et,show bd true xs o=!decide (V.str o.tx=V.str (Zf (mS true) xs)) from by unfold bd;rw [show decide (V.str o.wd=V.str "undo")=false from by simpa using c1];rfl]
 .rintro ys J ⟨rfl,rfl⟩ ll dr
  rw [← a7,Ū]
  have L:=aa (o:=.lst ((bs.map (bd true xs)).map V.bl)) dr
  refine ⟨ll,bs.map (bd true xs),ϱ,Nz Ny,_,ϱ,?_⟩
  cases ea:(bs.map (bd true xs)).any id with
  | true=>exact bx (no (λX' z=>ER ea rfl z.2.1) _ L)
  | false =>
  have al:=Dq hw ea
  have I:=L _ _ b4
  generalize (upd J ll (.lst ((bs.map (bd true xs)).map V.bl)))=H1 at L I ⊢
  rcases Ő bs with rfl | ⟨r,o,eb⟩
  .cases aM
   exact a8 ⟨_,ϱ,_,.inl ⟨_,Nz I,ϱ⟩,a8 ⟨_,ϱ,_,.inl ⟨_,Nz I,ϱ⟩,a8 ⟨0,0,ϱ,al,.inl ⟨ϱ,ϱ,ϱ⟩,ϖ _,L,ϱ,λ_ _ z=>z⟩⟩⟩
  .rw [ŏ] at eb
   obtain ⟨p',aZ,d,b0,h0,rfl,_⟩:=al o (by rw [eb];simp)
   have e4:d<=50:=by
    rcases hw (.step p' aZ d b0 h0) (by rw [eb];simp) with ⟨_,_,_,_,_,e,l⟩ | ⟨_,_,_,_,e⟩
    .cases e;exact l
    .cases e
   have eu:∃U C a4 bP a5,us=U++[.ref C]/\J C=some (.tup (.str "step"::.ref a4::.str bP::a5))/\∃tc,a5=[.int ((d:Nat):Int),.ref tc,.int h0]:=by
    rcases Ő us with z | ⟨U,u0,e⟩
    .rw [z,eb] at a7
     simp at a7
    .rw [ŏ] at e
     subst e
     have l0:r.length=U.length:=by rw [eb] at a7;simpa using a7
     obtain ⟨o2,eo,C,a4,a5,rfl,g1,g2,g3⟩:=aM.get (j:=U.length) (u:=u0) (by simp)
     have:o2=.step p' aZ d b0 h0:=by
      rw [eb,← l0] at eo
      simpa using eo.symm
     subst this
     obtain ⟨tc,rfl,_⟩:=g3
     exact ⟨U,C,a4,_,_,ϱ,g1,tc,ϱ⟩
   obtain ⟨U,C,a4,bP,a5,rfl,g1,tc,rfl⟩:=eu
   have g2:=L _ _ g1
   have e1:(!(U++[V.ref C]).isEmpty)=true:=by simp
   refine a8 ⟨_,ϱ,_,.inl ⟨_,Nz I,ϱ⟩,?_⟩
   rw [e1]
   refine bx ⟨_,ϱ,_,ϱ,bl,_,_,_,ϱ,ϱ,Nz I,dw _ _,C,_,_,_,ϱ,ϱ,NA g2,at3,_,_,ϱ,ϱ,_,ϱ,_,.inl ⟨_,Nz I,ϱ⟩,?_⟩
   rw [e1]
   exact bx ⟨_,ϱ,_,ϱ,bl,_,_,_,ϱ,ϱ,Nz I,dw _ _,C,_,_,_,ϱ,ϱ,NA g2,at5,d+1,h0,ϱ,al,.inr ⟨r,p',aZ,d,b0,eb,ϱ⟩,ω,L,ϱ,λ_ _ z=>z⟩
variable {P1 P2:ø}
def vw{X:Cx}{e:ï}{ta:TE}{f:Str}{pos:Pos}(K:ò)(d:PE X e ta)(g:attributeBase e f X.env (eval e X.env)=eval e X.env)(h:X.K=K:=by rfl):PE X (.Attribute e f pos) (wm K ta f):=by
 subst h
 exact aE d g
def rD(a b:î En):aT (a++b)=aT a++aT b:=List.filterMap_append
def mZ(a b:î En):bh (a++b)=bh a+bh b:=by
 unfold bh
 rw [List.filter_append,Ž]
def dq(xs:î V)(n:Nat)(h:n<=xs.length):bn xs none (some (n:Int))=xs.take n:=by
 unfold bn
 rw [HT.cP,HT.on,ņ h]
 simp
def Ust(bs:î En)(xs:î Zc):Prop:=∀o∈bs,(∃p' k' cs' h' x,o=.step p' xs k' cs' h'/\xs[k']?=some x/\aI x.1 x.2≠.non)\/∃p' k' cs',o=.undo p' xs k' cs'
def tO(X:î (ć))(bs:î En)(xs:î Zc)(k:Int)(cs:î (Int×Int))(X':î (ć)):Prop:=∃k':Nat,k=(k':Int)/\(left bs).getLast?=some k'/\(∀j∈left bs,∃x,xs[j]?=some x/\x.1≠.give)/\∃x,xs[k']?=some x/\bkS x X=cs/\X'=ce x cs X
inductive Aq (P1 P2 CP:ø) (CW:Wd->ø) (CN:ø) (vs:î V) (H:Hp) (Q:VK) (E:XK):Prop|mk c rs X bl us bs b xs k cs t ht v:vs=[.ref c,.ref bl,.ref t,v]->FiX P1 P2 CP CW H c rs X bl us bs b xs t [.int k,.ref ht] v->ChT H cs ht->((((bs=[]\/∃r o,bs=r++[o]/\o.tx≠Zf (mS b) xs)/\NoF P1 P2 CN c rs X H Q E)\/(b=true/\bs≠[]/\Ust bs xs/\bh bs<=(aT bs).length/\(∀X',tO X bs xs k cs X'->∀H',Rows H' c rs X'->NL P1 P2 H'->NK (Own P1 P2 rs) H H'->Q (.bl true) H')/\((∀X',¬tO X bs xs k cs X')->NoF P1 P2 CN c rs X H Q E))))->Aq P1 P2 CP CW CN vs H Q E
def sr(xs:î Zc)(j:Nat):Bool:=(xs[j]?).any λx=>decide (x.1=.give)
def rK{bs:î En}{xs:î Zc}(f:Ust bs xs){j:Nat}(h:j∈left bs):∃x,xs[j]?=some x/\aI x.1 x.2≠.non:=by
 have h1:j∈aT bs:=ň h
 obtain ⟨o,d,e⟩:=ĭ.mp h1
 rcases f o d with ⟨p',k',cs',h',x,rfl,ex,hx⟩ | ⟨p',k',cs',rfl⟩
 .cases e
  exact ⟨x,ex,hx⟩
 .cases e
def D9{cc CN:ø}{fB:Wd->ø}{dB:Wd->õ}(F:Fun K "is_undo_fit" "is_undo_fit" aH f fd)(B:TxB mg)(T:TxP K CP)(W:TxW K CW)(dT:BB mg base)(dV:fd.code=.ref cc)(e3:PySem.W.codeHdIn K cc P2=true)(HG:∀Bh:ñ,K.In Bh->∀wd,GM P w K mg Bh Za 1 (CW wd) "house" vi (cK CW wd))
  (GU:∀wd,GM P w K mg base Za 1 (CW wd) "sure" vi (ko wd))(HB:∀(wd:Wd) (val:Int->Int) (n:Nat) (Bh:ñ),n<=1000->K.In Bh->NH P w K mg Bh Za 5 (fB wd) (dB wd) HI (kr P w K mg CW val n wd Bh))(mB:∀wd,gX K (CW wd) "back" (fB wd))(bB:∀wd,NT K (dB wd) HI [])
  (GP:GF P w K mg base Za 2 "put" MW (u9 CW)):NH P w K mg base (Zn P w) 8 f fd vn (Aq P1 P2 CP CW CN):=by
 refine F.okCE sc_is_undo_fit (λvs H Q E h=>?_) (λA0 ad s H vs Q E hr h=>?_)
 .obtain ⟨c,rs,X,bl,us,bs,b,xs,k,cs,t,ht,v,rfl,_⟩:=h
  rfl
 obtain ⟨c,rs,X,bl,us,bs,b,xs,k,cs,t,ht,v,rfl,i,h3,cZ⟩:=h
 have nd:=sc_is_undo_fit.nd
 have dd:NU 5 _:=hr.mono ζ
 have ne:s.heap.objs.size+3≠s.heap.objs.size+1:=by lia
 obtain ⟨w',pn,h1⟩:=i.en
 obtain ⟨a,dx,sl,tp,bN,rfl,pa⟩:=i.pa
 have pl:xs.length=bN.length:=pa.st.len
 have g:=i.fb
 have a5:=i.fs
 have lb:=i.lb
 have hz:(1000:Nat)<=sizeLine:=by decide
 have a6:bs.length=us.length:=a5.len
 have lst:∀r o,bs=r++[o]->∃O C a3 a4,us=O++[.ref C]/\H C=some (.tup (.str o.wd::.ref a3::.str o.tx::a4)):=λr o e0=>by
  rcases Ő us with z | ⟨O,u0,e⟩
  .rw [z,e0] at a6
   simp at a6
  .rw [ŏ] at e
   subst e
   have l0:r.length=O.length:=by rw [e0] at a6;simpa using a6
   obtain ⟨o2,eo,C,a3,a4,rfl,g1,_⟩:=a5.get (j:=O.length) (u:=u0) (by simp)
   have:o2=o:=by
    rw [e0,← l0] at eo
    simpa using eo.symm
   subst this
   exact ⟨O,C,a3,a4,ϱ,g1⟩
 rcases cZ with ⟨why,qn⟩ | ⟨rfl,nb,hus,lu,q,qn⟩
 .have no:Q (.bl false) H:=(qn H X rfl i.rw i.tb (ND (NC _))).1
  refine ⟨_,ac (aC (PW.pt (cU (eN (eM (pv 1) (λ_=>rfl))) (cR (aJ f8 (Zj K (bc K (pv 1) (eR cA af))) (Zj K (pv 2)) (aF _))))) (Ze eS) ao) aQ,?_⟩
  rcases why with rfl | ⟨r,o,rfl,hne⟩
  .cases a5
   exact ⟨_,ϱ,false,.inl ⟨_,Nz g,ϱ⟩,bx (bx no)⟩
  .obtain ⟨O,C,a3,a4,rfl,g1⟩:=lst r o rfl
   refine ⟨_,ϱ,true,.inl ⟨_,Nz g,by simp⟩,a8 ?_⟩
   refine ⟨_,ϱ,_,ϱ,bl,_,_,_,ϱ,ϱ,Nz g,dw _ _,C,_,_,_,ϱ,ϱ,NA g1,St.at2,_,ϱ,t,_,_,_,ϱ,ϱ,NA h1,St.at2,ϱ,_,ϱ,?_⟩
   rw [show (!decide (V.str o.tx=V.str (Zf (mS b) xs)))=true from by rw [Γ (λz=>hne (V.str.inj z))];rfl]
   exact bx no
 have no:(∀X',¬tO X bs xs k cs X')->∀d,NI H d->Q (.bl false) d:=λz d s'=>(qn z d X rfl (i.rw.keep s') (i.tb.keep s') (ND s')).1
 have go:∀{t5:TS},PSs (gW (Zn P w) P w K mg base vF "is_undo_fit" (NE aH) f fd.code A0 ad s H E) ((NF aH).drop 4) t5->(∀D σ H1,(∃z4 z5 ll,NI H H1/\σ=[some (.ref c),some (.ref bl),some (.ref t),some (.ref a),z4,z5,some (.ref ll),none,none]/\H1 ll=some (.lst ((left bs).map λj=>V.int ((j:Nat):Int)))/\∀v d,Q v d->D.rt v d)->t5 D σ H1) ->
   ∃T0,PSs (gW (Zn P w) P w K mg base vF "is_undo_fit" (NE aH) f fd.code A0 ad s H E) (NF aH) T0/\T0 {nx:=λ_ d=>Q .non d,rt:=Q} (L2.start vF [.ref c,.ref bl,.ref t,.ref a]) H:=λ{t5} h5 q5=>by
  refine ⟨_,ac (aC (PW.pt (cU (eN (eM (pv 1) (λ_=>rfl))) (cR (aJ f8 (Zj K (bc K (pv 1) (eR cA af))) (Zj K (pv 2)) (aF _))))) (Ze eS) ao)
  (ac (f7 (iy:=4) kK rfl (cg (pv 1)) (λ_ _ _ _=>rC (Zl (Zj K (pv 0)) aw)) (λ_ _ _ _=>Zj K (pv 0)) nd rfl (Or.inl rfl))
  (ac (f7 (iy:=5) kJ rfl (cg (pv 1)) (λ_ _ _ _=>rC (Zl (Zj K (pv 0)) aw)) (λ_ _ _ _=>pv 0) nd rfl (Or.inl rfl))
  (ac (sN 6 nd (aL dY (pv 4) ba (aN (ai iz (aq az rfl B.len Ź (Zd (pv 4))) (aq az rfl B.len Ź (Zd (pv 5))))))) (dy h5 q5)))),?_⟩
  obtain ⟨r,o,e0⟩:∃r o,bs=r++[o]:=by rcases Ő bs with z | ⟨r,o,e⟩;exact absurd z nb;exact ⟨r,o,by rw [e,ŏ]⟩
  obtain ⟨O,C,a3,a4,bP,g1⟩:=lst r o e0
  have di:o.tx=Zf (mS true) xs:=by rcases hus o (by rw [e0];simp) with ⟨_,_,_,_,_,rfl,_⟩ | ⟨_,_,_,rfl⟩<;>rfl
  rw [di] at g1
  have ax:=g
  rw [bP] at ax
  refine sq λny Y=>?_
  refine ⟨_,ϱ,true,.inl ⟨_,Nz g,by rw [bP];simp⟩,a8 ?_⟩
  refine ⟨_,ϱ,_,ϱ,bl,_,_,_,ϱ,ϱ,Nz ax,dw _ _,C,_,_,_,ϱ,ϱ,NA g1,St.at2,_,ϱ,t,_,_,_,ϱ,ϱ,NA h1,St.at2,ϱ,_,ϱ,vQ rfl ?_⟩
  refine Y _ _ (sq λny Y=>?_)
  refine ⟨_,ϱ,bl,ϱ,⟨_,Nz g⟩,?_⟩
  have aM:∀{j:Nat} {b:En},bs[j]?=some b->bs.take (j+1)=bs.take j++[b]:=λe=>by rw [Ų,e];rfl
  refine eg (xs:=us) (λj l d=>d=H/\l=(aT (bs.take j)).map λn=>V.int ((n:Nat):Int)) ⟨ϱ,ϱ⟩ ω (λj l d _ z=>by rw [z.1];exact Nz g) ?_ ?_
  .rintro j w' l d hu ⟨rfl,rfl⟩
   obtain ⟨b,eb,a0,d1,d2,rfl,G,d3,g3'⟩:=a5.get hu
   rw [aM eb,rD]
   rcases hus b (ž eb) with ⟨p',Z,cs',h',x,rfl,_⟩ | ⟨p',Z,cs',rfl⟩
   .obtain ⟨tc,rfl,_⟩:=g3'
    refine ⟨_,ϱ,a0,_,_,_,ϱ,ϱ,NA G,St.at0,ϱ,_,ϱ,aP (λ_=>?_) (λc=>absurd (τ rfl) c)⟩
    refine ⟨_,ϱ,a0,_,_,_,ϱ,ϱ,NA G,at3,ϱ,?_⟩
    rw [ż]
    rfl
   .refine ⟨_,ϱ,a0,_,_,_,ϱ,ϱ,NA G,St.at0,ϱ,_,ϱ,aP (λc=>absurd (show ("undo":Str)=("step":Str) from V.str.inj (Ξ c)) θ) (λ_=>⟨ϱ,?_⟩)⟩
    have:aT [En.undo p' xs Z cs']=[]:=rfl
    rw [this,ų]
  have et:bs.take us.length=bs:=by rw [← a6];exact Ū
  rintro l d ⟨rfl,rfl⟩ ah dI
  rw [et]
  have L:=aa (o:=.lst ((aT bs).map λn=>V.int ((n:Nat):Int))) dI
  have c2:(upd d ah (.lst ((aT bs).map λn=>V.int ((n:Nat):Int)))) ah=_:=Ny
  generalize (upd d ah (.lst ((aT bs).map λn=>V.int ((n:Nat):Int))))=H1 at L c2 ⊢
  refine Y _ _ (sq λny Y=>?_)
  refine ⟨_,ϱ,bl,ϱ,⟨_,Nz (L _ _ g)⟩,?_⟩
  refine eg (xs:=us) (λj l d=>d=H1/\l.length=bh (bs.take j)) ⟨ϱ,ϱ⟩ ω (λj l d _ z=>by rw [z.1];exact Nz (L _ _ g)) ?_ ?_
  .rintro j w' l d hu ⟨rfl,ly⟩
   obtain ⟨b,eb,a0,d1,d2,rfl,G,d3,g3'⟩:=a5.get hu
   have G:=L _ _ G
   rw [aM eb,mZ,← ly]
   rcases hus b (ž eb) with ⟨p',Z,cs',h',x,rfl,_⟩ | ⟨p',Z,cs',rfl⟩
   .exact ⟨_,ϱ,a0,_,_,_,ϱ,ϱ,NA G,St.at0,ϱ,_,ϱ,aP (λc=>absurd (show ("step":Str)=("undo":Str) from V.str.inj (Ξ c)) θ) (λ_=>⟨ϱ,ϱ⟩)⟩
   .refine ⟨_,ϱ,a0,_,_,_,ϱ,ϱ,NA G,St.at0,ϱ,_,ϱ,aP (λ_=>⟨_,ϱ,ϱ,?_⟩) (λc=>absurd (τ rfl) c)⟩
    rw [Ž]
    rfl
  rintro l d ⟨rfl,ly⟩ ul dK
  rw [et] at ly
  have s2:=aa (o:=.lst l) dK
  have b5:=s2 _ _ c2
  have c4:(upd d ul (.lst l)) ul=some (.lst l):=Ny
  generalize (upd d ul (.lst l))=H2 at s2 b5 c4 ⊢
  refine Y _ _ (sq λny Y=>?_)
  refine ⟨_,ϱ,_,ϱ,ah,_,ϱ,.inl (Nz b5),_,ϱ,ul,_,ϱ,.inl (Nz c4),_,_,ϱ,ϱ,_,ϱ,ah,_,ϱ,Nz b5,λll du=>?_⟩
  have ee:((((aT bs).map λn=>V.int ((n:Nat):Int)).length:Nat):Int)-((l.length:Nat):Int)=(((aT bs).length-bh bs:Nat):Int):=by rw [ν,ly];lia
  rw [ee,dq _ _ (by rw [ν];lia)]
  have s3:=aa (o:=.lst (((aT bs).map λn=>V.int ((n:Nat):Int)).take ((aT bs).length-bh bs))) du
  refine Y _ _ ⟨_,_,ll,L.trans (s2.trans s3),ϱ,?_,λ_ _ z=>z⟩
  rw [Ny]
  unfold left
  rw [ģ]
 have l2:(left bs).length<=1000:=by
  have h0:(aT bs).length<=bs.length:=List.length_filterMap_le _ _
  unfold left
  rw [ŷ]
  lia
 by_cases hg:∃Z:Nat,k=(Z:Int)/\(left bs).getLast?=some Z
 case neg =>
  refine go (ac (aC (PW.pt (cU (eN (eM (pv 6) (fun _ => rfl))) (cU (aJ f8 (bc K (pv 6) (eR cA af)) (Zj K (pv 2)) (aF _))
        (cR (bj (aq (iQ rfl) rfl B.any PyProof.Rows.boot_any (Zd (fz f6 rfl (cg (pv 6)) (λ_ _ _ _=>bo) (λ_ _ _ _=>lI λwd=>pm0 (GU wd) (oP K (vw K (pv 1) rfl) (pv 0)) (W.cl wd) hr))))))))) (Ze eS) ao) aQ) ?_
  rintro D σ H1 ⟨z4,z5,ll,L,rfl,J,nx⟩
  have ak:=L _ _ h1
  have c5:=nx _ _ (no (λX' ⟨Z,e,el,_⟩=>hg ⟨Z,e,el⟩) H1 L)
  rcases Ő (left bs) with z | ⟨r2,k2,e2⟩
  .exact ⟨_,ϱ,false,.inl ⟨_,Nz J,by rw [z];rfl⟩,bx (bx c5)⟩
  .rw [ŏ] at e2
   have I:=J
   rw [e2,ż] at I
   refine ⟨_,ϱ,true,.inl ⟨_,Nz J,by rw [e2];simp⟩,a8 ?_⟩
   refine ⟨_,ϱ,_,ϱ,ll,_,_,_,ϱ,ϱ,Nz I,dw _ _,_,ϱ,t,_,_,_,ϱ,ϱ,NA ak,at3,ϱ,_,ϱ,?_⟩
   rw [show (!decide (V.int ((k2:Nat):Int)=V.int k))=true from by rw [decide_eq_false (λz=>hg ⟨k2,(V.int.inj z).symm,by rw [e2];simp⟩)];rfl]
   exact bx (bx c5)
 obtain ⟨Z,rfl,fl⟩:=hg
 obtain ⟨r2,e2⟩:=List.getLast?_eq_some_iff.mp fl
 obtain ⟨x,ex,d4⟩:=rK hus (j:=Z) (by rw [e2];simp)
 have lk:=(ſ.mp ex).1
 obtain ⟨sa,U,d5,b2⟩:∃sa U,bN[Z]?=some (.ref sa)/\H sa=some (.ins (CW x.1) U (kZ x.1 x.2)):=by
  obtain ⟨u,eu,sa,U,rfl,b2⟩:=pa.st.get1 ex
  exact ⟨sa,U,eu,b2⟩
 have a7:=i.ar x (ž ex)
 obtain ⟨ic,bT⟩:=fV (h:=0) a7 (i.al x (ž ex)) (λz=>absurd (Ar.homeless (ns:=x.2) (.inr z)) d4)
 refine go (ac (aC (PW.pt (cU (eN (eM (pv 6) (fun _ => rfl))) (cU (aJ f8 (bc K (pv 6) (eR cA af)) (Zj K (pv 2)) (aF _))
         (cR (bj (aq (iQ rfl) rfl B.any PyProof.Rows.boot_any (Zd (fz f6 rfl (cg (pv 6)) (λ_ _ _ _=>bo) (λ_ _ _ _=>lI λwd=>pm0 (GU wd) (oP K (vw K (pv 1) rfl) (pv 0)) (W.cl wd) hr))))))))) (Ze eS) ao)
   (ac (sN 7 nd (oP K (aE (pv 3) rfl) (Zj K (pv 2))))
   (ac (sN 8 nd (sE (cs:=[(s.heap.objs.size+3,.ref sa),(s.heap.objs.size+1,.ref c)]) (sp:=λBh=>kr P w K mg CW (vl (aX x X)) (aX x X).length x.1 Bh) (pv 7) (W.cl x.1) (mB x.1)
    (λBh bA=>HB x.1 (vl (aX x X)) (aX x X).length Bh (jA i.sm x) bA) dd (bB x.1) bE (Zd (vv (P:=P2) (cl:=[("step",s.heap.objs.size+3),("cells",s.heap.objs.size+1)]) dV e3 dT rfl rfl rfl))))
   (ac (bz (pc GP hr (aj (pv 0) (Zb (pv 7) (pv 8)))))
   (Ze (bH (rE (cTs cPa) (hun (c:=2) hr)) (pv 8) (Zj K (pv 2)) (aF _))))))) ?_
 rintro D σ H1 ⟨z4,z5,ll,L,rfl,J,nx⟩
 have i1:=i.keep L
 have Zd:=pa.keep L
 have ak:=L _ _ h1
 have I:=J
 rw [e2,ż] at I
 refine sq λny Y=>?_
 refine ⟨_,ϱ,true,.inl ⟨_,Nz J,by rw [e2];simp⟩,a8 ?_⟩
 refine ⟨_,ϱ,_,ϱ,ll,_,_,_,ϱ,ϱ,Nz I,dw _ _,_,ϱ,t,_,_,_,ϱ,ϱ,NA ak,at3,ϱ,_,ϱ,vQ rfl ?_⟩
 refine ⟨_,ϱ,ll,ϱ,⟨_,Nz J⟩,?_⟩
 refine eg (xs:=(left bs).map λj=>V.int ((j:Nat):Int)) (λj l d=>d=H1/\l=(((left bs).take j).map (sr xs)).map V.bl) ⟨ϱ,ϱ⟩ (by rw [ν];lia) (λj l d _ z=>by rw [z.1];exact Nz J) ?_ ?_
 .rintro j w2 l d hu ⟨rfl,rfl⟩
  rw [Ż] at hu
  obtain ⟨n,en,rfl⟩:=ř.mp hu
  obtain ⟨y,ey,_⟩:=rK hus (ž en)
  obtain ⟨uy,eu,ya,d7,rfl,d8⟩:=Zd.st.get1 ey
  refine fW ⟨y.1,_,ϱ,a,CP,dx,_,_,ϱ,Zd.ins,T.cl,T.np,kR _ _ _,_,ϱ,tp,_,_,_,ϱ,ϱ,NA Zd.tp,ay eu,ya,d7,_,ϱ,d8,jW θ θ θ θ θ y.1 y.2,_,ϱ,ϱ,?_⟩
  rw [Ų,en,ż,ż]
  show _=_++[V.bl (sr xs n)]
  rw [show sr xs n=decide (y.1=.give) from by unfold sr;rw [ey];rfl]
 .rintro l d ⟨rfl,rfl⟩ l3 dS
  rw [ν,Ū]
  have s2:=aa (o:=.lst (((left bs).map (sr xs)).map V.bl)) dS
  refine ⟨l3,(left bs).map (sr xs),ϱ,Nz Ny,_,ϱ,?_⟩
  cases ea:((left bs).map (sr xs)).any id with
  | true =>
   refine bx (nx _ _ (no (λX' ⟨_,_,_,fg,_⟩=>?_) _ (L.trans s2)))
   obtain ⟨z,d9,e⟩:=Ė.mp ea
   obtain ⟨j,hj,rfl⟩:=ϑ.mp d9
   obtain ⟨y,ey,hy⟩:=fg j hj
   have:sr xs j=false:=by unfold sr;rw [ey];exact decide_eq_false hy
   rw [this] at e
   cases e
  | false =>
  have fg:∀j∈left bs,∃x,xs[j]?=some x/\x.1≠.give:=λj hj=>by
   obtain ⟨y,ey,_⟩:=rK hus hj
   refine ⟨y,ey,λz=>?_⟩
   have:=List.any_eq_false.mp ea (sr xs j) (ϑ.mpr ⟨j,hj,ϱ⟩)
   apply this
   show sr xs j=true
   unfold sr
   exact ey▸τ z
  generalize (upd d l3 (.lst (((left bs).map (sr xs)).map V.bl)))=H2 at s2 ⊢
  have i2:=i1.keep s2
  have Zb:=Zd.keep s2
  have c6:=s2 _ _ ak
  have aS:=s2 _ _ (L _ _ b2)
  refine a8 (Y _ _ (sq λny Y=>?_))
  refine ⟨_,ϱ,a,CP,dx,_,_,ϱ,Zb.ins,T.cl,T.np,kR _ _ _,_,ϱ,t,_,_,_,ϱ,ϱ,NA c6,at3,tp,_,_,_,ϱ,ϱ,NA Zb.tp,ay d5,?_⟩
  have hf:(kZ x.1 x.2).lookup ("back":Str)=none:=jW θ θ θ θ θ x.1 x.2
  refine Y _ _ (sq λny Y=>?_)
  refine ⟨zP 7 0 "step" "cells" ⟨ϱ,ϱ,ϱ,ϱ,ϱ⟩ ⟨ϱ,ϱ,ϱ,ϱ,ϱ⟩,_,ϱ,sa,U,_,ϱ,aS,hf,i2.tb.b,λfv c3 H3 k3 dz fe ff dA aZ Bh bA pb=>?_⟩
  obtain ⟨c0,b4⟩:=zk i2.tb i2.rw (.inr rfl) k3
  have dp:NL P1 P2 H3:=by
   obtain ⟨y,e1⟩:=cq i2.tb.b
   exact ⟨lH (S:=[P2]) i2.tb.a (λz=>i2.tb.ne (ϵ.mp z)) (λb m c q z=>by rw [ϵ.mp m,e1] at z;cases z) (λb o n e=>k3 b o (λz=>n (z▸Ω)) e),.inr ⟨c3,dz,aZ⟩,i2.tb.ne⟩
  have b6:=stay i2.tb i2.rw b4 aS ϰ
  have ct:CloT P w K mg Bh 4 fv (g8 (vl (aX x X)) (aX x X).length) H3:=vO (t:=false) ne pb dA aZ W (HG Bh bA) c0 a7 b6 bT
  refine ⟨.ref sa,x.2,fv,ϱ,a7,ic,⟨sa,U,ϱ,b6⟩,ct,λch H4 s4 cf=>?_⟩
  obtain ⟨l1,dc⟩:=EQ (val:=vl (aX x X)) a7 ic
  have an:=c0.keep s4
  have bi:=dp.keep s4
  refine Y _ _ (sq λny Y=>?_)
  refine ⟨_,ϱ,_,ϱ,_,ϱ,c,rs,X,x,_,ch,_,ϱ,an,a7,⟨sa,U,ϱ,s4 _ _ b6⟩,cf,l1,dc,bT,λH5 bC k5=>?_⟩
  have ca:NK (Own P1 P2 rs) H4 H5:=k5.sub λb m=>Θ _ (Θ _ m)
  have bm:=fo bi an ca
  have cb:=fo i2.tb i2.rw b4
  have dr:=bm _ _ (s4 _ _ (cb _ _ c6))
  have ds:ChT H5 cs ht:=((((h3.keep L.ts).keep s2.ts).keep cb).keep s4.ts).keep bm
  have kk:NK (Own P1 P2 rs) H H5:=(ND (L.trans s2)).trans (b4.trans ((ND s4).trans ca))
  refine Y _ _ ?_
  refine ⟨_,ϱ,_,ϱ,t,_,_,_,ϱ,ϱ,NA dr,at4,_,cs,qw (cf.keep bm),qw ds,?_⟩
  by_cases e:bkS x X=cs
  .rw [show decide (bk (vl (aX x X)) x.1 x.2=cs)=true from τ e]
   rw [show bk (vl (aX x X)) x.1 x.2=cs from e] at bC
   exact nx _ _ (q _ ⟨Z,ϱ,fl,fg,x,ex,e,ϱ⟩ H5 bC (bi.rows an k5) kk)
  .rw [show decide (bk (vl (aX x X)) x.1 x.2=cs)=false from Γ e]
   refine nx _ _ (qn (λX' ⟨k2,ek,el,_,x2,cp,dG,_⟩=>e ?_) H5 _ (ni _ _ _) bC (bi.rows an k5) kk).1
   obtain rfl:Z=k2:=by lia
   rw [ex] at cp
   cases cp
   exact dG
variable {P1 P2:ø}
def none_of{H H':Hp}{a:ø}(s:NI H H')(n:H' a=none):H a=none:=by
 cases e:H a with
 | none=>rfl
 | some o=>cases s _ _ e▸n
def Cm(K:ò):î V->Hp->VK->Prop:=λxs H Q=>∃p ys,xs=[.ref p]/\(NO K H p ys\/NN K H p ys)/\Q (.int ((ys.length:Nat):Int)) H
def Cl(K:ò):î V->Hp->VK->Prop:=λxs H Q=>∃p ys,xs=[.ref p]/\(NO K H p ys\/NN K H p ys)/\∀l,H l=none->Q (.ref l) (upd H l (.lst ys))
def vM{g:L2.St}{d:î V->Hp->Prop}{H:Hp}{c:ø}{e:ĉ}{X:î (ć)}(r:Rows H c e X)(t:X.length<=1000)(o:d ((aB X).map V.int) H) :
  ∃(W:Nat->î V->Hp->Prop) (n:Nat),W 0 [] H/\n<=sizeLine/\∀i ys H,W i ys H->((Itl K c).stop i H/\d ys H) \/
   ((Itl K c).go i H/\i<n/\∀x H',(Itl K c).yld i H x H'->wn (some x::g) H' λc H2=>if c=true then tCB (Cm K) (jy (jx 0) jg) (some x::g) H2 λy H3=>W (i+1) (ys++[y]) H3 else W (i+1) ys H2):=by
 have q:(1000:Nat)<=sizeLine:=by decide
 have pl:X.length=e.length:=r.r.len
 refine eg (xs:=e.map V.ref) (λi ys H'=>H'=H/\ys=(aB (X.take i)).map V.int) ⟨ϱ,ϱ⟩ (by rw [ν];lia) (λi ys H' _ z=>by rw [z.1];exact Nz r.l) ?_ ?_
 .rintro i u ys H' f ⟨rfl,rfl⟩
  rw [Ż] at f
  obtain ⟨a,h,rfl⟩:=ř.mp f
  obtain ⟨xs,ex,j⟩:=r.r.get h
  refine fW ⟨_,ϱ,a,_,ϱ,.inl (Nz j),ϱ,?_⟩
  have k:X.take (i+1)=X.take i++[xs]:=by rw [Ų,ex];rfl
  rw [k,ν]
  unfold aB
  rw [ż,ż]
  rfl
 .rintro ys H' ⟨rfl,rfl⟩
  rw [ν,← pl,Ū]
  exact o
def vN{D:L2.St}{h:î V->Hp->Prop}{H:Hp}{c:ø}{w:ĉ}{X:î (ć)}(r:Rows H c w X)(Q:X.length<=1000)(L:∀rs' H',NI H H'->(∀a∈rs',H a=none)->rs'.Nodup->Paired (λ(xs:ć) a=>H' a=some (.lst (xs.map V.int))) X rs'->h (rs'.map V.ref) H') :
  ∃(W:Nat->î V->Hp->Prop) (n:Nat),W 0 [] H/\n<=sizeLine/\∀i ys H,W i ys H->((Itl K c).stop i H/\h ys H) \/
   ((Itl K c).go i H/\i<n/\∀x H',(Itl K c).yld i H x H'->wn (some x::D) H' λc H2=>if c=true then tCB (Cl K) (jy (jx 0) jg) (some x::D) H2 λy H3=>W (i+1) (ys++[y]) H3 else W (i+1) ys H2):=by
 have O:(1000:Nat)<=sizeLine:=by decide
 have pl:X.length=w.length:=r.r.len
 refine eg (xs:=w.map V.ref) (λi ys H'=>∃rs',ys=rs'.map V.ref/\NI H H'/\(∀a∈rs',H a=none)/\rs'.Nodup/\(∀a∈rs',H' a≠none)/\Paired (λ(xs:ć) a=>H' a=some (.lst (xs.map V.int))) (X.take i) rs') ⟨[],rfl,NC _,(λa m=>by cases m),List.nodup_nil,(λa m=>by cases m),.nil⟩ (by rw [ν];lia) (λi ys H' _ z=>by obtain ⟨_,_,s,_⟩:=z;exact Nz (s _ _ r.l)) ?_ ?_
 .rintro i u ys H' C ⟨rs',rfl,g,t,d,f,j⟩
  rw [Ż] at C
  obtain ⟨a,F,rfl⟩:=ř.mp C
  obtain ⟨xs,ex,G⟩:=r.r.get F
  refine fW ⟨_,ϱ,a,_,ϱ,.inl (Nz (g _ _ G)),λl q=>?_⟩
  have k:=aa (o:=.lst (xs.map V.int)) q
  have I:X.take (i+1)=X.take i++[xs]:=by rw [Ų,ex];rfl
  refine ⟨rs'++[l],by rw [ż];rfl,g.trans k,λb m=>?_,?_,λb m=>?_,?_⟩
  .rcases ź.mp m with m | m
   .exact t b m
   .exact ϵ.mp m▸none_of g q
  .rw [ĝ]
   refine ⟨d,by simp,λb m P J z=>?_⟩
   rw [z,ϵ.mp J] at m
   exact f l m q
  .rcases ź.mp m with m | m
   .cases e:H' b with
    | none=>exact absurd e (f b m)
    | some o=>rw [k _ _ e];exact λz=>by cases z
   .rw [ϵ.mp m,Ny]
    exact λz=>by cases z
  .rw [I]
   exact (NB j λ_ _ z=>k _ _ z).app (.cons Ny .nil)
 .rintro ys H' ⟨rs',rfl,g,t,d,f,j⟩
  rw [ν,← pl,Ū] at j
  exact L rs' H' g t d j
def yl{X:Cx}{tg l:ï}{tl:TE}(K:ò)(hl:PE X l tl)(hK:X.K=K:=by rfl):PI X tg l (BH K tl):=by subst hK;exact cg hl
inductive Ex where
 | pact (p:Pa) (b:Bool) (xs:î Zc) (hs:ć)
 | step (p:Pa) (b:Bool) (xs:î Zc) (k:Int) (cs:î (Int×Int)) (h:Int)
 | undo (p:Pa) (b:Bool) (xs:î Zc) (k:Int) (cs:î (Int×Int))
def Ex.nm:Ex->Pa
 | .pact p _ _ _=>p
 | .step p _ _ _ _ _=>p
 | .undo p _ _ _ _=>p
def Ex.wd:Ex->Str
 | .pact ..=>"pact"
 | .step ..=>"step"
 | .undo ..=>"undo"
def Ex.b:Ex->Bool
 | .pact _ b _ _=>b
 | .step _ b _ _ _ _=>b
 | .undo _ b _ _ _=>b
def Ex.xs:Ex->î Zc
 | .pact _ _ xs _=>xs
 | .step _ _ xs _ _ _=>xs
 | .undo _ _ xs _ _=>xs
def ExR(H:Hp):Ex->î V->Prop
 | .pact _ _ _ hs,vs=>∃t,vs=[.ref t]/\H t=some (.tup (hs.map V.int))
 | .step _ _ _ k cs h,vs=>∃t,vs=[.int k,.ref t,.int h]/\ChT H cs t
 | .undo _ _ _ k cs,vs=>∃t,vs=[.int k,.ref t]/\ChT H cs t
def NW(H:Hp)(e:Ex)(u:V):Prop:=∃t pa vs,u=.ref t/\H t=some (.tup (.str e.wd::.ref pa::.str (Zf (mS e.b) e.xs)::vs))/\H pa=some (.tup [.int e.nm.1,.int e.nm.2])/\ExR H e vs
def ExR.keep{H H':Hp}{e:Ex}{vs:î V}(s:a9 H H')(h:ExR H e vs):ExR H' e vs:=by
 cases e with
 | pact p b xs hs=>exact h.imp λt z=>⟨z.1,s _ _ z.2⟩
 | step p b xs k cs h'=>exact h.imp λt z=>⟨z.1,z.2.keep s⟩
 | undo p b xs k cs=>exact h.imp λt z=>⟨z.1,z.2.keep s⟩
def NW.keep{H H':Hp}{e:Ex}{u:V}(s:a9 H H')(h:NW H e u):NW H' e u:=by
 obtain ⟨t,d,vs,rfl,h1,f,g⟩:=h
 exact ⟨t,d,vs,ϱ,s _ _ h1,s _ _ f,g.keep s⟩
def z7(bs:î En)(b:Bool)(xs:î Zc):Prop:=bs=[]\/∃r o,bs=r++[o]/\o.tx≠Zf (mS b) xs
def z9(X:î (ć))(bs:î En):Ex->î (ć)->Prop
 | .pact _ b xs hs,X'=>wc X bs b xs hs/\X'=(aR xs 0 X).2
 | .step _ b xs k cs h,X'=>tQ X bs b xs k cs h X'
 | .undo _ b xs k cs,X'=>¬z7 bs b xs/\tO X bs xs k cs X'
def Af(bs:î En):Ex->Prop
 | .pact ..=>True
 | .step ..=>Wlk bs
 | .undo _ b xs _ _=>z7 bs b xs\/(b=true/\bs≠[]/\Ust bs xs/\bh bs<=(aT bs).length)
def ph(X:î (ć))(bs:î En)(e:Ex)(X':î (ć)):Prop:=e.xs.length<=12/\Ab e.b (aB X) e.xs/\z9 X bs e X'
structure FiJ(P1 P2:ø)(H:Hp)(c:ø)(rs:ĉ)(X:î (ć))(bl:ø)(us:î V)(bs:î En)(e:Ex)(u:V):Prop where
 rw:Rows H c rs X
 tb:NL P1 P2 H
 sm:Sml X
 lx:X.length<=1000
 fb:H bl=some (.lst us)
 fs:Paired (NV H) bs us
 lb:bs.length<=1000
 en:NW H e u
 nb:bl∉c::rs
 ar:ArS e.xs
 x0:e.xs≠[]
 l13:e.xs.length<=13
 ask:Af bs e
inductive Ca (P1 P2:ø) (vs:î V) (H:Hp) (Q:VK) (E:XK):Prop|mk c rs X bl us bs e u:vs=[.ref c,.ref bl,u]->FiJ P1 P2 H c rs X bl us bs e u->((∀X',ph X bs e X'->∀H',Rows H' c rs X'->NL P1 P2 H'->NK (Own P1 P2 rs) H H'->Q (.bl true) H'))->(((∀X',¬ph X bs e X')->∀H' X',aB X'=aB X->Rows H' c rs X'->NL P1 P2 H'->NK (Own P1 P2 rs) H H'->Q (.bl false) H'))->Ca P1 P2 vs H Q E
structure T4(K:ò)(mg:ď)(CT CA CB CN:ø):Prop where
 mT:mg "NoText"=some (.ref CT)
 mA:mg "NoPlace"=some (.ref CA)
 mB:mg "NoWayBack"=some (.ref CB)
 mN:mg "NoNeed"=some (.ref CN)
 xT:PySem.W.exmAny K (.ref CT) [.ref CT,.ref CA,.ref CB,.ref CN]=some true
 xA:PySem.W.exmAny K (.ref CA) [.ref CT,.ref CA,.ref CB,.ref CN]=some true
 xB:PySem.W.exmAny K (.ref CB) [.ref CT,.ref CA,.ref CB,.ref CN]=some true
 xN:PySem.W.exmAny K (.ref CN) [.ref CT,.ref CA,.ref CB,.ref CN]=some true
def Ei{CT CA CB U:ø}(F:Fun K "is_fit" "is_fit" eE f fd)(B:TxB mg)(T:TxP K CP)(Y:T4 K mg CT CA CB U)(GR:GF P w K mg base (Zn P w) 8 "read_pact" Nf (toE (u8 CP CW CT)))(GL:GF P w K mg base (Zn P w) 5 "look" Nr (toE (qN CP CW CA CB)))(G1:GF P w K mg base (Zn P w) 8 "is_pact_fit" vn (Au P1 P2 CP CW U))(G2:GF P w K mg base (Zn P w) 8 "is_step_fit" vn (As P1 P2 CP CW U))(G3:GF P w K mg base (Zn P w) 8 "is_undo_fit" vn (Aq P1 P2 CP CW U)) :
  NH P w K mg base Za 9 f fd Nm (Ca P1 P2):=by
 refine F.oj sc_is_fit λah A J s H vs Q E hr h=>?_
 obtain ⟨c,Z,X,bl,us,bs,e,u,rfl,i,q,qn⟩:=h
 have nd:=sc_is_fit.nd
 have pT:∀d L,b8 (Zn P w) (Cx.tr (gW Za P w K mg base vn "is_fit" (NE eE) f ah A J s H E).nox d L) L:=λd L=>D4 (X:=(gW Za P w K mg base vn "is_fit" (NE eE) f ah A J s H E).nox)
 refine ⟨_,au (AB (C1:=CT) (C2:=CA) (C3:=CB) (C4:=U) rfl rfl rfl rfl rfl rfl rfl Y.mT Y.mA Y.mB Y.mN (λd L=>ac (sN 3 nd (pc GR hr (Zd (Zj K (pv 2))) (hx:=pT d L)))
  (ac (bz (pc GL hr (Zb (pv 3) (fz sk rfl (yl K (pv 0)) (λ_ _ _ _=>bo) (λ_ _ _ _=>aq (r:=Cm K) az rfl B.len Ź (Zd (pv 0))))) (hx:=pT d L)))
  (ac (aC (Zl (Zj K (pv 2)) aw) (Ze (pc G1 hr (aj (pv 0) (aj (pv 1) (Zb (pv 2) (pv 3)))) (hx:=pT d L))) ao)
  (ac (aC (Zl (Zj K (pv 2)) aw) (Ze (pc G2 hr (aj (pv 0) (aj (pv 1) (Zb (pv 2) (pv 3)))) (hx:=pT d L))) ao)
  (Ze (pc G3 hr (aj (pv 0) (aj (pv 1) (Zb (pv 2) (pv 3)))) (hx:=pT d L))))))) (λev=>Ze eS)),?_⟩
 obtain ⟨t,pn,vs,rfl,h1,h2,h3⟩:=i.en
 have no:(∀D,¬ph X bs e D)->∀y,NI H y->Q (.bl false) y:=λz y s'=>qn z y X rfl (i.rw.keep s') (i.tb.keep s') (ND s')
 refine ⟨λ_ c y=>∃C,c=some C/\(C=CT\/C=CA\/C=CB\/C=U)/\Q (.bl false) y,?_,λev C σ' y ⟨C',e1,e2,e3⟩=>⟨?_,e3⟩⟩
 rotate_left
 .cases e1
  rcases e2 with rfl | rfl | rfl | rfl
  .exact Y.xT
  .exact Y.xA
  .exact Y.xB
  .exact Y.xN
 refine ⟨_,ϱ,t,_,_,_,ϱ,ϱ,NA h1,St.at2,e.b,e.xs,ϱ,i.ar,i.x0,i.l13,λO a dx sl tp an H1 s1 _ pa=>?_,λO tk H1 s1 ev=>⟨CT,ϱ,.inl rfl,no (λD z=>O z.1) H1 s1⟩⟩
 have ab:=i.rw.keep s1
 refine ⟨_,ϱ,_,ϱ,c,ϱ,⟨_,Nz ab.l⟩,?_⟩
 refine vM ab i.lx (λl nl=>?_)
 have s2:=aa (o:=.lst ((aB X).map V.int)) nl
 refine ⟨_,l,e.b,e.xs,aB X,ϱ,⟨a,dx,sl,tp,an,ϱ,pa.keep s2⟩,i.ar,ω,Ny,λdu H3 s3=>?_,λp k H3 tk du s3 ev=>⟨_,ϱ,by cases p;exact .inr (.inr (.inl rfl));exact .inr (.inl rfl),no (λD z=>zI du z.2.1) H3 (s1.trans (s2.trans s3))⟩⟩
 have G:=s1.trans (s2.trans s3)
 have W:Ab e.b (aB X) e.xs:=by cases du with | calm al nn=>exact ⟨al,nn⟩
 have b3:PaO CP CW H3 (mS e.b) e.xs (.ref a):=⟨a,dx,sl,tp,an,ϱ,pa.keep (s2.trans s3)⟩
 have I:=G _ _ h1
 have a0:=h3.keep G.ts
 have i3:FiX P1 P2 CP CW H3 c Z X bl us bs e.b e.xs t vs (.ref a):=⟨i.rw.keep G,i.tb.keep G,i.sm,G _ _ i.fb,NB i.fs λ_ _ z=>z.keep G.ts,i.lb,⟨_,_,I⟩,b3,i.nb,i.ar,O,λx hx=>by
  obtain ⟨j,ej⟩:=ť hx
  exact W.1 j (ſ.mp ej).1 x ej⟩
 have q3:∀D,z9 X bs e D->∀y,Rows y c Z D->NL P1 P2 y->NK (Own P1 P2 Z) H3 y->Q (.bl true) y:=λD g y a1 a2 k'=>q D ⟨O,W,g⟩ y a1 a2 ((ND G).trans k')
 have n3:(∀D,¬z9 X bs e D)->NoF P1 P2 U c Z X H3 Q (λ_ c y=>∃C,c=some C/\(C=CT\/C=CA\/C=CB\/C=U)/\Q (.bl false) y):=λg y D e' a1 a2 k' =>
  have z:=qn (λbt z=>g bt z.2.2) y D e' a1 a2 ((ND G).trans k')
  ⟨z,λev=>⟨U,ϱ,.inr (.inr (.inr rfl)),z⟩⟩
 have ad:=i.ask
 cases e with
 | pact p b xs hs =>
  obtain ⟨ht,rfl,h4⟩:=a0
  refine ⟨_,ϱ,t,_,_,_,ϱ,ϱ,NA I,St.at0,ϱ,_,ϱ,aP (λ_=>?_) (λc=>absurd (τ rfl) c)⟩
  exact ⟨_,ϱ,_,ϱ,_,ϱ,_,ϱ,c,Z,X,bl,us,bs,b,xs,hs,t,ht,_,ϱ,i3,h4,λg=>q3 _ ⟨g,ϱ⟩,λg=>n3 λD z=>g z.1⟩
 | step p b xs k cs h =>
  obtain ⟨ht,rfl,h4⟩:=a0
  refine ⟨_,ϱ,t,_,_,_,ϱ,ϱ,NA I,St.at0,ϱ,_,ϱ,aP (λc=>absurd (show ("step":Str)=("pact":Str) from V.str.inj (Ξ c)) θ) (λ_=>?_)⟩
  refine ⟨_,ϱ,t,_,_,_,ϱ,ϱ,NA I,St.at0,ϱ,_,ϱ,aP (λ_=>?_) (λc=>absurd (τ rfl) c)⟩
  exact ⟨_,ϱ,_,ϱ,_,ϱ,_,ϱ,c,Z,X,bl,us,bs,b,xs,k,cs,h,t,ht,_,ϱ,i3,h4,ad,q3,n3⟩
 | undo p b xs k cs =>
  obtain ⟨ht,rfl,h4⟩:=a0
  refine ⟨_,ϱ,t,_,_,_,ϱ,ϱ,NA I,St.at0,ϱ,_,ϱ,aP (λc=>absurd (show ("undo":Str)=("pact":Str) from V.str.inj (Ξ c)) θ) (λ_=>?_)⟩
  refine ⟨_,ϱ,t,_,_,_,ϱ,ϱ,NA I,St.at0,ϱ,_,ϱ,aP (λc=>absurd (show ("undo":Str)=("step":Str) from V.str.inj (Ξ c)) θ) (λ_=>?_)⟩
  refine ⟨_,ϱ,_,ϱ,_,ϱ,_,ϱ,c,Z,X,bl,us,bs,b,xs,k,cs,t,ht,_,ϱ,i3,h4,?_⟩
  rcases ad with nu | ⟨hb,nb,hus,lu⟩
  .exact .inl ⟨nu,n3 λD z=>z.1 nu⟩
  .have nn:¬z7 bs b xs:=λz=>by
    rcases z with z | ⟨r,o,e0,hne⟩
    .exact nb z
    .subst hb
     rcases hus o (by rw [e0];simp) with ⟨_,_,_,_,_,rfl,_⟩ | ⟨_,_,_,rfl⟩<;>exact hne rfl
   exact .inr ⟨hb,nb,hus,lu,λD g=>q3 D ⟨nn,g⟩,λg=>n3 λD z=>g D z.2⟩
variable {P1 P2:ø}
def zA{X d:î (ć)}{bs:î En}{e:En}(h:Fit X bs e d):aB d=aB X:=by
 cases e with
 | pact p xs hs =>
  obtain ⟨_,_,_,_,rfl⟩:=h
  exact jn _ _ _
 | step p xs k cs hh =>
  obtain ⟨_,_,_,_,_,_,_,x,_,_,rfl⟩:=h
  rw [ni,jn]
 | undo p xs k cs =>
  obtain ⟨_,_,_,_,_,x,_,_,_,rfl⟩:=h
  exact ni _ _ _
def Zi(p:Pa)(es:î En):î En:=es.filter λe=>decide (e.nm=p)
def Run:î En->î En->î (ć)->î (ć)->Prop
 | _,[],X,Y=>X=Y
 | pre,e::r,X,Y=>∃Z,Fit X (Zi e.nm pre) e Z/\Run (pre++[e]) r Z Y
theorem Run.app{e:En}{Y Z:î (ć)}:∀{es pre:î En} {X:î (ć)},Run pre es X Y->Fit Y (Zi e.nm (pre++es)) e Z->Run pre (es++[e]) X Z
 | [],pre,X,h,f=>by
  have h:X=Y:=h
  subst h
  rw [ų] at f
  exact ⟨Z,f,ϱ⟩
 | a::r,pre,X,⟨W,h1,h2⟩,f=>⟨W,h1,Run.app h2 (by rw [ő];exact f)⟩
theorem Run.sz{Y:î (ć)}:∀{es pre:î En} {X:î (ć)},Run pre es X Y->aB Y=aB X
 | [],_,X,h=>by
  have h:X=Y:=h
  rw [h]
 | a::r,pre,X,⟨W,h1,h2⟩=>(Run.sz h2).trans (zA h1)
def En.ex:En->Ex
 | .pact p xs hs=>.pact p false xs hs
 | .step p xs k cs h=>.step p true xs k cs h
 | .undo p xs k cs=>.undo p true xs k cs
def En.ex_nm(e:En):e.ex.nm=e.nm:=by cases e<;>rfl
def NV.ex{H:Hp}{e:En}{u:V}(h:NV H e u):NW H e.ex u:=by
 obtain ⟨t,d,vs,rfl,h1,f,g⟩:=h
 cases e<;>exact ⟨t,d,vs,ϱ,h1,f,g⟩
def OkE:En->Prop
 | .step _ xs k _ _=>xs.length<=12/\∃x,xs[k]?=some x/\aI x.1 x.2≠.non
 | _=>True
def oU{X g:î (ć)}{bs:î En}{e:En}(h:Fit X bs e g):OkE e:=by
 cases e with
 | pact p xs hs=>exact ϰ
 | step p xs k cs hh =>
  obtain ⟨d,j,h0,_,_,⟨_,_,x,ex,f⟩,_⟩:=h
  exact ⟨d.2.2.1,x,ex,f⟩
 | undo p xs k cs=>exact ϰ
def sY{X l:î (ć)}{bs:î En}{e:En}(h:Fit X bs e l):ph X bs e.ex l:=by
 cases e with
 | pact p xs hs =>
  obtain ⟨d,q,ok,rfl,rfl⟩:=h
  exact ⟨d.2.2.1,d.2.2.2,⟨ϱ,q,ok,ϱ⟩,ϱ⟩
 | step p xs k cs hh =>
  obtain ⟨d,t,h0,fb,fl,u,ok,x,ex,w,rfl⟩:=h
  refine ⟨d.2.2.1,d.2.2.2,ϱ,λo G=>?_,t,h0,?_,k,ϱ,u,ok,x,ex,w,ϱ⟩
  .obtain ⟨g,j,f,y,e⟩:=fb o G
   exact ⟨g,xs,j,f,y,e,ϱ⟩
  .rcases fl with z | ⟨r,g,j,f,e,e2⟩
   .exact .inl z
   .exact .inr ⟨r,g,xs,j,f,e,e2⟩
 | undo p xs k cs =>
  obtain ⟨d,fb,C,fl,D,x,ex,_,F,rfl⟩:=h
  refine ⟨d.2.2.1,d.2.2.2,λz=>?_,k,ϱ,fl,D,x,ex,F.symm,ϱ⟩
  rcases z with z | ⟨r,o,e0,hne⟩
  .exact C z
  .rcases fb o (by rw [e0];simp) with ⟨_,_,_,_,rfl⟩ | ⟨_,_,_,rfl⟩<;>exact hne rfl
def rJ{bs:î En}{k:Nat}(h:(left bs).getLast?=some k):bh bs<(aT bs).length:=by
 have:left bs≠[]:=λz=>by cases z▸h
 unfold left at this
 rcases Nat.lt_or_ge (bh bs) (aT bs).length with z | z
 .exact z
 .rw [Nat.sub_eq_zero_of_le z] at this
  exact absurd (List.take_zero) this
def iY{X w:î (ć)}{bs:î En}{e:En}(h:Fit X bs e w)(ok:∀o∈bs,OkE o):Af bs e.ex:=by
 cases e with
 | pact p xs hs=>exact ϰ
 | step p xs k cs hh =>
  obtain ⟨r,y,h0,fb,_⟩:=h
  intro o j
  obtain ⟨f,g,d,q,rfl⟩:=fb o j
  obtain ⟨l,x,ex,_⟩:=ok _ j
  have:=(ſ.mp ex).1
  exact .inl ⟨f,xs,g,d,q,ϱ,ω⟩
 | undo p xs k cs =>
  obtain ⟨r,fb,t,fl,_⟩:=h
  refine .inr ⟨ϱ,t,λo j=>?_,Į (rJ fl)⟩
  rcases fb o j with ⟨f,g,d,q,rfl⟩ | ⟨f,g,d,rfl⟩
  .obtain ⟨_,x,ex,u⟩:=ok _ j
   exact .inl ⟨f,g,d,q,x,ϱ,ex,u⟩
  .exact .inr ⟨f,g,d,ϱ⟩
theorem uj{Y:î (ć)}:∀{es pre:î En} {X:î (ć)},Run pre es X Y->∀o∈es,OkE o
 | [],_,_,_,o,ho=>by cases ho
 | a::r,pre,X,⟨W,h1,h2⟩,o,ho=>by
  rcases ϕ.mp ho with rfl | ho
  .exact oU h1
  .exact uj h2 o ho
def zy{X g j:î (ć)}{bs:î En}{e:Ex}(a:ph X bs e g)(c:ph X bs e j):g=j:=by
 obtain ⟨_,_,a⟩:=a
 obtain ⟨_,_,c⟩:=c
 cases e with
 | pact p b xs hs=>exact a.2.trans c.2.symm
 | step p b xs k cs h =>
  obtain ⟨_,_,u,h0,l,k1,o,f1,_,x,ex,_,rfl⟩:=a
  obtain ⟨_,_,q,w,f,k2,r,f2,_,t,d,_,rfl⟩:=c
  obtain ⟨rfl,rfl⟩:=fE l f
  obtain rfl:k1=k2:=by lia
  rw [ex] at d
  cases d
  rfl
 | undo p b xs k cs =>
  obtain ⟨_,k1,o,_,_,x,ex,_,rfl⟩:=a
  obtain ⟨_,k2,r,_,_,t,d,_,rfl⟩:=c
  obtain rfl:k1=k2:=by lia
  rw [ex] at d
  cases d
  rfl
structure PlI(P1 P2:ø)(H0 H:Hp)(c ah:ø)(rs:ĉ)(X:î (ć))(es:î En)(av:î (Pa×ø)):Prop where
 rw:Rows H c rs X
 tb:NL P1 P2 H
 ad:H ah=some (.dT (av.map λx=>(pk x.1,V.ref x.2)))
 ls:∀x∈av,∃us,H x.2=some (.lst us)/\Paired (NV H) (Zi x.1 es) us
 no:∀e∈es,e.nm∈av.map (·.1)
 na:(av.map (·.1)).Nodup
 ns:(av.map (·.2)).Nodup
 f1:H0 ah=none
 f2:∀a∈c::rs,H0 a=none
 f3:∀x∈av,H0 x.2=none
 dj:∀x∈av,x.2∉c::rs
 kp:NK [P1,P2] H0 H
 la:av.length<=es.length+1
def jP(p:Pa)(d:î En)(e:En):Zi p (d++[e])=Zi p d++(if e.nm=p then [e] else []):=by
 unfold Zi
 rw [List.filter_append]
 congr 1
 by_cases z:e.nm=p
 .rw [List.filter_cons,τ z,ů z]
  rfl
 .rw [List.filter_cons,Γ z,ŵ z]
  rfl
def yX{p:Pa}{d:î En}{ps:î Pa}(h:∀e∈d,e.nm∈ps)(n:p∉ps):Zi p d=[]:=by
 unfold Zi
 refine List.filter_eq_nil_iff.mpr λe f z=>?_
 exact n ((Ξ z)▸h e f)
def Cq{p q:Pa}(h:pk p=pk q):p=q:=by
 have d:(Sum.inl p.1:Key)=Sum.inl q.1/\(Sum.inl p.2:Key)=Sum.inl q.2:=by
  unfold pk at h
  simp only [List.cons.injEq,and_true] at h
  exact h
 exact Prod.ext (Sum.inl.inj d.1) (Sum.inl.inj d.2)
theorem xg:∀{av:î (Pa×ø)} {p:Pa} {v:V},jf (av.map λx=>(pk x.1,V.ref x.2)) (pk p)=some v->∃a,v=.ref a/\(p,a)∈av
 | [],_,_,h=>by cases h
 | x::r,p,v,h=>by
  unfold jf at h
  rw [Ŗ,List.find?_cons] at h
  by_cases z:pk x.1=pk p
  .rw [τ z] at h
   cases h
   refine ⟨x.2,ϱ,?_⟩
   exact Cq z▸Ω
  .rw [Γ z] at h
   obtain ⟨a,e,m⟩:=xg (av:=r) h
   exact ⟨a,e,Θ _ m⟩
theorem lG:∀{av:î (Pa×ø)} {p:Pa},jf (av.map λx=>(pk x.1,V.ref x.2)) (pk p)=none->p∉av.map (·.1)
 | [],_,_,m=>by cases m
 | x::r,p,h,m=>by
  unfold jf at h
  rw [Ŗ,List.find?_cons] at h
  by_cases z:pk x.1=pk p
  .rw [τ z] at h
   cases h
  .rw [Γ z] at h
   rcases ϕ.mp m with e | m
   .exact z (by rw [e])
   .exact lG (av:=r) h m
section
variable {H0 H H':Hp}{c ah:ø}{rs:ĉ}{X X':î (ć)}{es:î En}{av:î (Pa×ø)}
def PlI.keep(h:PlI P1 P2 H0 H c ah rs X es av)(s:NI H H'):PlI P1 P2 H0 H' c ah rs X es av :=
 ⟨h.rw.keep s,h.tb.keep s,s _ _ h.ad,λx m=>by obtain ⟨us,e,p⟩:=h.ls x m;exact ⟨us,s _ _ e,NB p λ_ _ z=>z.keep s.ts⟩,h.no,h.na,h.ns,h.f1,h.f2,h.f3,h.dj,h.kp.trans (ND s),h.la⟩
def PlI.new(h:PlI P1 P2 H0 H c ah rs X es av){p:Pa}{z:ø}(D:p∉av.map (·.1))(hz:H z=none)(K:av.length<=es.length):PlI P1 P2 H0 (upd (upd H z (.lst [])) ah (.dT (av.map (λx=>(pk x.1,V.ref x.2))++[(pk p,V.ref z)]))) c ah rs X es (av++[(p,z)]):=by
 have J:=aa (o:=.lst []) hz
 have h1:=h.keep J
 have k:z≠ah:=λe=>by rw [e,h.ad] at hz;cases hz
 have r:ah∉c::rs:=λm=>by
  rcases ϕ.mp m with e | m
  .have:=h.ad
   rw [e,h.rw.l] at this
   cases this
  .obtain ⟨xs,e⟩:=h.rw.at m
   rw [h.ad] at e
   cases e
 have d:NK [ah] (upd H z (.lst [])) (upd (upd H z (.lst [])) ah (.dT (av.map (λx=>(pk x.1,V.ref x.2))++[(pk p,V.ref z)]))):=NK.upd Ω
 have ts:a9 (upd H z (.lst [])) (upd (upd H z (.lst [])) ah (.dT (av.map (λx=>(pk x.1,V.ref x.2))++[(pk p,V.ref z)]))):=λb xs e=>d b _ (λm=>by rw [ϵ.mp m,h1.ad] at e;cases e) e
 have t:(upd (upd H z (.lst [])) ah (.dT (av.map (λx=>(pk x.1,V.ref x.2))++[(pk p,V.ref z)]))) z=some (.lst []):=d _ _ (λm=>k (ϵ.mp m)) Ny
 have u:z∉c::rs:=λm=>by
  rcases ϕ.mp m with e | m
  .rw [e,h.rw.l] at hz;cases hz
  .obtain ⟨xs,e⟩:=h.rw.at m
   cases e▸hz
 refine ⟨h1.rw.fr d λb m z=>r (ϵ.mp z▸m),⟨lH h1.tb.a (λm=>?_) (λb m c q z=>?_) d,lH h1.tb.b (λm=>?_) (λb m c q z=>?_) d,h.tb.ne⟩,?_,λx m=>?_,λe m=>?_,?_,?_,h.f1,h.f2,λx m=>?_,λx m=>?_,?_,?_⟩
 .obtain ⟨y,e⟩:=cq h1.tb.a
  rw [ϵ.mp m,h1.ad] at e
  cases e
 .rw [ϵ.mp m,h1.ad] at z
  cases z
 .obtain ⟨y,e⟩:=cq h1.tb.b
  rw [ϵ.mp m,h1.ad] at e
  cases e
 .rw [ϵ.mp m,h1.ad] at z
  cases z
 .rw [Ny,ż]
  rfl
 .rcases ź.mp m with m | m
  .obtain ⟨w,e,F⟩:=h1.ls x m
   exact ⟨w,d _ _ (λz=>by rw [ϵ.mp z,h1.ad] at e;cases e) e,NB F λ_ _ z=>z.keep ts⟩
  .cases ϵ.mp m
   refine ⟨[],t,?_⟩
   show Paired _ (Zi p es) []
   exact yX h.no D▸.nil
 .exact ż▸Ō _ (h.no e m)
 .rw [ż,ĝ]
  refine ⟨h.na,by simp,λa f b g e=>?_⟩
  rw [List.map_singleton] at g
  rw [e,ϵ.mp g] at f
  exact D f
 .rw [ż,ĝ]
  refine ⟨h.ns,by simp,λa f b g e=>?_⟩
  rw [List.map_singleton] at g
  rw [e,ϵ.mp g] at f
  obtain ⟨x,G,ex⟩:=ϑ.mp f
  obtain ⟨w,C,_⟩:=h.ls x G
  have ex:x.2=z:=ex
  rw [ex,hz] at C
  cases C
 .rcases ź.mp m with m | m
  .exact h.f3 x m
  .cases ϵ.mp m
   show H0 z=none
   cases e:H0 z with
   | none=>rfl
   | some o =>
    have:=h.kp z o (λm=>?_) e
    .cases hz▸this
    .rcases ϕ.mp m with y | m
     .obtain ⟨I,j⟩:=cq h.tb.a
      rw [y,j] at hz;cases hz
     .obtain ⟨I,j⟩:=cq h.tb.b
      rw [ϵ.mp m,j] at hz;cases hz
 .rcases ź.mp m with m | m
  .exact h.dj x m
  .cases ϵ.mp m
   exact u
 .exact λb o n e=>d b o (λm=>by rw [ϵ.mp m,h.f1] at e;cases e) (h1.kp b o n e)
 .exact Ž▸Nat.succ_le_succ K
theorem uA{α β:Type}(f:α->β):∀{l:î α},(l.map f).Nodup->∀{x y:α},x∈l->y∈l->f x=f y->x=y
 | [],_,_,_,m,_,_=>by cases m
 | a::r,nd,x,y,mx,my,e=>by
  rw [Ŗ] at nd
  obtain ⟨n1,n2⟩:=ĥ.mp nd
  rcases ϕ.mp mx with e1 | m1
  .rcases ϕ.mp my with e2 | m2
   .rw [e1,e2]
   .exact absurd (ϑ.mpr ⟨y,m2,by rw [← e1];exact e.symm⟩) n1
  .rcases ϕ.mp my with e2 | m2
   .exact absurd (ϑ.mpr ⟨x,m1,by rw [← e2];exact e⟩) n1
   .exact uA f n2 m1 m2 e
def PlI.app(h:PlI P1 P2 H0 H c ah rs X es av){e:En}{a:ø}{us:î V}{u:V}(m:(e.nm,a)∈av)(I:H a=some (.lst us))(P:Paired (NV H) (Zi e.nm es) us)(k:NK (Own P1 P2 rs) H H')(F:Rows H' c rs X')(G:NL P1 P2 H')(en:NV H e u):PlI P1 P2 H0 (upd H' a (.lst (us++[u]))) c ah rs X' (es++[e]) av:=by
 have r:=fo h.tb h.rw k
 have l:∀{b:ø} {vs:î V},H b=some (.lst vs)->b∉c::rs->b∉Own P1 P2 rs:=λ{b vs} e n z=>by
  rcases ϕ.mp z with y | z
  .obtain ⟨J,j⟩:=cq h.tb.a
   rw [y,j] at e;cases e
  rcases ϕ.mp z with y | z
  .obtain ⟨J,j⟩:=cq h.tb.b
   rw [y,j] at e;cases e
  .exact n (Θ _ z)
 have g:H' a=some (.lst us):=k _ _ (l I (h.dj _ m)) I
 have q:NK [a] H' (upd H' a (.lst (us++[u]))):=NK.upd Ω
 have t:a9 H' (upd H' a (.lst (us++[u]))):=λb xs e=>q b _ (λm=>by rw [ϵ.mp m,g] at e;cases e) e
 have ts:a9 H (upd H' a (.lst (us++[u]))):=λb xs e=>t _ _ (r _ _ e)
 have w:∀x∈av,x.2=a->x=(e.nm,a):=λx f ex=>uA _ h.ns f m ex
 have C:∀x∈av,x.1=e.nm->x=(e.nm,a):=λx f ex=>uA _ h.na f m ex
 have D:=h.dj _ m
 refine ⟨F.upd D,G.upd g,?_,λx f=>?_,λj O=>?_,h.na,h.ns,h.f1,h.f2,h.f3,h.dj,λb o n d=>?_,?_⟩
 .have:=stay h.tb h.rw k h.ad ϰ
  exact q _ _ (λz=>by rw [ϵ.mp z,g] at this;cases this) this
 .obtain ⟨vs,d,K⟩:=h.ls x f
  rw [jP]
  by_cases z:e.nm=x.1
  .have ex:=C x f z.symm
   subst ex
   rw [ů z]
   refine ⟨us++[u],Ny,(NB P λ_ _ y=>y.keep ts).app (.cons (en.keep ts) .nil)⟩
  .rw [ŵ z,ų]
   have L:x.2≠a:=λy=>z (by rw [w x f y])
   exact ⟨vs,q _ _ (λy=>L (ϵ.mp y)) (k _ _ (l d (h.dj x f)) d),NB K λ_ _ y=>y.keep ts⟩
 .rcases ź.mp O with y | y
  .exact h.no j y
  .exact ϵ.mp y▸ϑ.mpr ⟨_,m,ϱ⟩
 .refine q b o (λz=>?_) (k b o (λz=>?_) (h.kp b o n d))
  .rw [ϵ.mp z,show H0 a=none from h.f3 _ m] at d
   cases d
  .rcases ϕ.mp z with y | z
   .exact n (y▸Ω)
   rcases ϕ.mp z with y | z
   .exact n (y▸Θ _ Ω)
   .rw [h.f2 b (Θ _ z)] at d
    cases d
 .exact Ž▸υ h.la
end
inductive bK (P1 P2 CF:ø) (vs:î V) (H:Hp) (Q:VK) (E:XK):Prop|mk c0 rs0 X Y el us us2 es:vs=[.ref c0,.ref el]->Rows H c0 rs0 X->NL P1 P2 H->Sml X->X.length<=1000->H el=some (.lst (us++us2))->Paired (NV H) es us->(us++us2).length<=900->Run [] es X Y->(((us2=[]/\∀c rs H',Rows H' c rs Y->NL P1 P2 H'->(∀a∈c::rs,H a=none)->NK [P1,P2] H H'->Q (.ref c) H')\/∃e u r,us2=u::r/\NW H e u/\ArS e.xs/\e.xs≠[]/\e.xs.length<=13/\Af (Zi e.nm es) e/\(∀X',¬ph Y (Zi e.nm es) e X')/\∀tk H',NL P1 P2 H'->NK [P1,P2] H H'->E (.int ((es.length:Nat):Int) tk) (some CF) H'))->bK P1 P2 CF vs H Q E
open XA in
def wD{CF fI:ø}{dI:õ}(M:MkX K CF fI)(FI:NH P w K mg base Za 1 fI dI vT (qH CF))(bI:NT K dI vT [])(mF:mg "NoFit"=some (.ref CF))(F:Fun K "played" "played" hU f fd)(B:TxB mg)(GI:GF P w K mg base Za 9 "is_fit" Nm (Ca P1 P2)):NH P w K mg base (CXA P w) 10 f fd MG (bK P1 P2 CF):=by
 refine okA F sc_played (λvs H Q E h=>?_) (λdu A cv s H vs Q E hr h=>?_)
 .obtain ⟨c0,c4,X,Y,el,us,a1,d,rfl,_⟩:=h
  rfl
 obtain ⟨c0,c4,X,Y,el,us,a1,d,rfl,bi,tb,sm,lx,a3,bl,le,bm,q⟩:=h
 have nd:=sc_played.nd
 have hz:(1000:Nat)<=sizeLine:=by decide
 have bC:d.length=us.length:=bl.len
 have cc:NU (1+1) _:=hr.mono ζ
 have lu:(us++a1).length=us.length+a1.length:=Ž
 refine ⟨_,ac (f7 (iy:=2) sj rfl (cg (pv 0)) (λ_ _ _ _=>bo) (λ_ _ _ _=>bM (r:=Cl K) eh rfl B.list Ħ (Zd (pv 0))) nd rfl (Or.inl rfl))
  (ac (sN 3 nd yo)
  (ac (eQ PassesOwn.leaving rfl (bD rfl B.range (Zd (aq az rfl B.len Ź (Zd (pv 1))))) (gN 4 nd)
   (ac (sN 5 nd (bc K (pv 1) (pv 4)))
   (ac (sN 6 nd (AG (Dh hr) (pv 3) (Zj K (pv 5)) (bF aO) ⟨ϱ,ϱ,ϱ,ϱ⟩))
   (ac (aC (eN (bj (pc GI hr (aj (pv 2) (Zb (pv 6) (pv 5)))))) (au (iV j0 rfl M FI bI cc rfl mF (Zd (pv 4)))) ao)
   (au (bz (dg Ţ ş Ş cE (pv 6) (Zd (pv 5)))))))))
  (Ze (pv 2)))),?_⟩
 refine ⟨_,ϱ,c0,ϱ,⟨_,Nz bi.l⟩,?_⟩
 refine vN bi lx λO H1 s1 f1 cz pr c nc=>?_
 have s2:=aa (o:=.lst (O.map V.ref)) nc
 have bG:Rows (upd H1 c (.lst (O.map V.ref))) c O X:=⟨Ny,NB pr λ_ _ z=>s2 _ _ z,cz⟩
 have f2:∀a∈c::O,H a=none:=λa m=>(ϕ.mp m).elim (λe=>by rw [e];exact none_of s1 nc) (f1 a)
 have al:=s1.trans s2
 generalize (upd H1 c (.lst (O.map V.ref)))=H2 at s2 bG al ⊢
 refine λah bP=>?_
 have s3:=aa (o:=.dT []) bP
 have p0:PlI P1 P2 H (upd H2 ah (.dT [])) c ah O X [] []:=⟨bG.keep s3,(tb.keep al).keep s3,Ny,(λx m=>by cases m),(λe m=>by cases m),List.nodup_nil,List.nodup_nil,none_of al bP,f2,(λx m=>by cases m),(λx m=>by cases m),ND (al.trans s3),ϖ _⟩
 generalize (upd H2 ah (.dT []))=H3 at p0 ⊢
 have bL:∀{G},NK [P1,P2] H G->G el=some (.lst (us++a1)):=λk=>k _ _ (λm=>by
  rcases ϕ.mp m with y | m
  .obtain ⟨w',e'⟩:=cq tb.a
   rw [y,e'] at a3;cases a3
  .obtain ⟨w',e'⟩:=cq tb.b
   rw [ϵ.mp m,e'] at a3;cases a3) a3
 have as:∀{G},NK [P1,P2] H G->a9 H G:=λk b xs e=>k _ _ (λm=>by
  rcases ϕ.mp m with y | m
  .obtain ⟨w',e'⟩:=cq tb.a
   rw [y,e'] at e;cases e
  .obtain ⟨w',e'⟩:=cq tb.b
   rw [ϵ.mp m,e'] at e;cases e) e
 refine ⟨_,ϱ,el,_,ϱ,.inl (Nz (bL p0.kp)),_,ϱ,ω,ω,?_⟩
 refine cH (n:=(us++a1).length) (λi σ G=>∃y4 y5 y6 Z av,i<=d.length/\σ=[some (.ref c0),some (.ref el),some (.ref c),some (.ref ah),y4,y5,y6]/\PlI P1 P2 H G c ah O Z (d.take i) av/\av.length<=(d.take i).length/\Run (d.take i) (d.drop i) Z Y/\aB Z=aB X) ⟨none,none,none,X,[],ϖ _,ϱ,p0,ι _,bm,ϱ⟩ ?_ ?_
 .rintro i σ G hi ⟨y4,y5,y6,Z,av,bT,rfl,p,la,rn,sz⟩
  have ei:(0:Int)+(i:Nat)=((i:Nat):Int):=ĕ _
  rw [ei]
  have li:(d.take i).length<=900:=by rw [ŷ];lia
  obtain ⟨e,u,eu,en0,ar,x0,l13,ask,cse⟩:∃(e:Ex) (u:V),(us++a1)[i]?=some u/\NW H e u/\ArS e.xs/\e.xs≠[]/\e.xs.length<=13/\Af (Zi e.nm (d.take i)) e /\
    ((∃a Z',e=a.ex/\NV H a u/\d[i]?=some a/\Fit Z (Zi e.nm (d.take i)) a Z'/\Run (d.take (i+1)) (d.drop (i+1)) Z' Y)\/(i=d.length/\(∀U,¬ph Z (Zi e.nm (d.take i)) e U)/\∀tk G,NL P1 P2 G->NK [P1,P2] H G->E (.int ((i:Nat):Int) tk) (some CF) G)):=by
   by_cases hl:i<d.length
   .have hu:i<us.length:=by lia
    obtain ⟨a,J,g⟩:=bl.get (ξ hu)
    have ed:d.drop i=a::d.drop (i+1):=by
     rw [œ hl]
     rw [ξ hl] at J
     rw [Δ J]
    have b2:d.take (i+1)=d.take i++[a]:=by rw [Ų,J];rfl
    rw [ed] at rn
    obtain ⟨Z',ft,L⟩:=rn
    have fx:=sY ft
    have fp:ArS a.ex.xs/\a.ex.xs≠[]:=by cases a<;>exact ⟨ft.1.1,ft.1.2.1⟩
    refine ⟨a.ex,us[i],by rw [Ŕ hu,ξ hu],g.ex,fp.1,fp.2,υ fx.1,?_,.inl ⟨a,Z',ϱ,g,J,by rw [En.ex_nm];exact ft,by rw [b2];exact L⟩⟩
    rw [En.ex_nm]
    exact iY ft λo ho=>uj bm o (ň ((List.mem_filter.mp ho).1))
   .have bN:i=d.length:=by lia
    rcases q with ⟨z,_⟩ | ⟨e,u,r,rfl,g,ar,x0,l13,ask,nf,qe⟩
    .rw [z,ų] at hi
     lia
    .rw [bN,List.drop_length] at rn
     have rn:Z=Y:=rn
     subst rn
     subst bN
     rw [Ū]
     exact ⟨e,u,by rw [bC,ū (ι _),ĺ];rfl,g,ar,x0,l13,ask,.inr ⟨ϱ,nf,qe⟩⟩
  obtain ⟨t,pn,vs,et,h1,h2,h3⟩:=id en0
  subst et
  have cl:=as p.kp _ _ h1
  have co:=as p.kp _ _ h2
  refine ⟨_,ϱ,_,ϱ,el,_,_,_,ϱ,ϱ,Nz (bL p.kp),ay eu,?_⟩
  refine ⟨_,ϱ,ah,ϱ,.inr ⟨_,.inl p.ad⟩,_,ϱ,t,_,_,_,ϱ,ϱ,NA cl,St.at1,χ,λz nz=>?_⟩
  have s4:=aa (o:=.lst []) nz
  have p4:=p.keep s4
  have go:∀(a:ø) (ax:î (Pa×ø)) (H5:Hp),PlI P1 P2 H H5 c ah O Z (d.take i) ax->(e.nm,a)∈ax->∃j:î V,FiJ P1 P2 H5 c O Z a j (Zi e.nm (d.take i)) e (.ref t)/\(∀I,NK (Own P1 P2 O) H5 I->NK [P1,P2] H I)/\∀C Z',e=C.ex->NV H C (.ref t)->d[i]?=some C->∀I,Rows I c O Z'->NL P1 P2 I->NK (Own P1 P2 O) H5 I->I a=some (.lst j)/\j.length<sizeLine/\PlI P1 P2 H (upd I a (.lst (j++[.ref t]))) c ah O Z' (d.take (i+1)) ax:=λa ax H5 p5 m5=>by
   obtain ⟨j,ha,pa⟩:=p5.ls _ m5
   have l6:(Zi e.nm (d.take i)).length<=(d.take i).length:=List.length_filter_le _ _
   have l7:(Zi e.nm (d.take i)).length=j.length:=pa.len
   refine ⟨j,⟨p5.rw,p5.tb,λn hn=>sm n (sz▸hn),?_,ha,pa,ω,en0.keep (as p5.kp),p5.dj _ m5,ar,x0,l13,ask⟩,λI k6 b o n e1=>k6 b o (λzz=>?_) (p5.kp b o n e1),λC Z' ee g J I W D k6=>?_⟩
   .have:=congrArg List.length sz
    unfold aB at this
    rw [ν,ν] at this
    lia
   .rcases ϕ.mp zz with y | zz
    .exact n (y▸Ω)
    rcases ϕ.mp zz with y | zz
    .exact n (y▸Θ _ Ω)
    .rw [p5.f2 b (Θ _ zz)] at e1
     cases e1
   .have b2:d.take (i+1)=d.take i++[C]:=by rw [Ų,J];rfl
    rw [ee,En.ex_nm] at m5 pa
    refine ⟨k6 _ _ (λzz=>?_) ha,ω,by rw [b2];exact p5.app m5 ha pa k6 W D (g.keep (as p5.kp))⟩
    rcases ϕ.mp zz with y | zz
    .obtain ⟨w',e'⟩:=cq p5.tb.a
     rw [y,e'] at ha;cases ha
    rcases ϕ.mp zz with y | zz
    .obtain ⟨w',e'⟩:=cq p5.tb.b
     rw [y,e'] at ha;cases ha
    .exact p5.dj _ m5 (Θ _ zz)
  have gd:∀{U},ph Z (Zi e.nm (d.take i)) e U->∃C,e=C.ex/\NV H C (.ref t)/\d[i]?=some C/\aB U=aB X/\Run (d.take (i+1)) (d.drop (i+1)) U Y:=λ{U} fx=>by
   rcases cse with ⟨C,Z',rfl,g,J,ft,L⟩ | ⟨_,nf,_⟩
   .have z:=zy fx (sY ft)
    subst z
    exact ⟨C,ϱ,g,J,(zA ft).trans sz,L⟩
   .exact absurd fx (nf _)
  have bd:(∀U,¬ph Z (Zi e.nm (d.take i)) e U)->∀tk G,NL P1 P2 G->NK [P1,P2] H G->E (.int ((i:Nat):Int) tk) (some CF) G:=λnf=>by
   rcases cse with ⟨C,Z',rfl,g,J,ft,L⟩ | ⟨_,_,qe⟩
   .exact absurd (sY ft) (nf _)
   .exact qe
  have il:∀{C},d[i]?=some C->i+1<=d.length/\(d.take (i+1)).length=(d.take i).length+1:=λ{C} J=>by
   have hl:=(ſ.mp J).1
   rw [ŷ,ŷ]
   lia
  refine ⟨_,pk e.nm,pn,s4 _ _ p.ad,ϱ,s4 _ _ co,?_,λv ev=>?_,λev=>?_⟩
  .rw [ν]
   lia
  .obtain ⟨a,rfl,m⟩:=xg ev
   obtain ⟨j,fi,kb,nx⟩:=go a av _ p4 m
   refine ⟨_,ϱ,_,ϱ,_,ϱ,c,O,Z,a,j,_,e,_,ϱ,fi,λU fx I W D k6=>⟨_,ϱ,a8 ?_⟩,λnf I U _ W D k6=>⟨_,ϱ,bx ?_⟩⟩
   .obtain ⟨C,ee,g,J,b1,L⟩:=gd fx
    obtain ⟨h6,l6,p6⟩:=nx C U ee g J I W D k6
    have:=il J
    refine ⟨_,ϱ,.inl ⟨ϱ,_,Nz h6⟩,_,ϱ,a,_,_,ϱ,ϱ,h6,l6,?_⟩
    exact ⟨_,_,_,U,av,this.1,ϱ,p6,ω,L,b1⟩
   .exact ⟨_,ϱ,_,ϱ,λdd tk a6=>bd nf tk _ (D.keep (aa a6)) ((kb I k6).trans (ND (aa a6)))⟩
  .have ct:=lG ev
   have p5:=p.new ct nz la
   obtain ⟨j,fi,kb,nx⟩:=go z _ _ p5 (Ψ _ Ω)
   refine ⟨_,ϱ,_,ϱ,_,ϱ,c,O,Z,z,j,_,e,_,ϱ,fi,λU fx I W D k6=>⟨_,ϱ,a8 ?_⟩,λnf I U _ W D k6=>⟨_,ϱ,bx ?_⟩⟩
   .obtain ⟨C,ee,g,J,b1,L⟩:=gd fx
    obtain ⟨h6,l6,p6⟩:=nx C U ee g J I W D k6
    have:=il J
    refine ⟨_,ϱ,.inl ⟨ϱ,_,Nz h6⟩,_,ϱ,z,_,_,ϱ,ϱ,h6,l6,?_⟩
    exact ⟨_,_,_,U,_,this.1,ϱ,p6,by rw [Ž];have:([(e.nm,z)]:î (Pa×ø)).length=1:=rfl;lia,L,b1⟩
   .exact ⟨_,ϱ,_,ϱ,λdd tk a6=>bd nf tk _ (D.keep (aa a6)) ((kb I k6).trans (ND (aa a6)))⟩
 .rintro σ G ⟨y4,y5,y6,Z,av,bT,rfl,p,la,rn,sz⟩
  rcases q with ⟨z,q⟩ | ⟨e,u,r,z,_⟩
  .rw [z,ų,← bC,List.drop_length] at rn
   have rn:Z=Y:=rn
   subst rn
   exact ⟨_,ϱ,q c O G p.rw p.tb p.f2 p.kp⟩
  .rw [lu,z,Ŷ] at bT
   lia
def A4(F:Fun K "_law_cell" "_law_cell" iq f fd)(B:TxB mg):NH P w K mg base Za 1 f fd L0 (nN K):=by
 refine F.oj qU λr A j s H vs Q E t h=>?_
 obtain ⟨a,d,k,rfl,l,q⟩:=h
 refine ⟨_,ac (aC (aJ ja (pv 1) (aq az rfl B.len Ź (Zd (pv 0))) (aF _)) (Ze (jI mQ (pv 0) (pv 1) (λ_ _=>rfl))) ao)
  (Ze af),?_⟩
 refine ⟨_,ϱ,_,ϱ,a,_,ϱ,.inl l,_,_,ϱ,ϱ,_,ϱ,?_⟩
 refine aP (λc=>?_) (λc=>?_)
 .have g:(k:Int)<(((d.map V.int).length:Nat):Int):=Ξ c
  rw [ν] at g
  have o:k<d.length:=by lia
  have q1:atI (d.map V.int) ((k:Nat):Int)=some (.int d[k]):=ay (by rw [Ż,ξ o]<;>rfl)
  have e:cT d k=d[k]:=by unfold cT;rw [List.getElem?_eq_getElem o];rfl
  rw [e] at q
  exact ⟨_,ϱ,_,ϱ,a,_,_,_,ϱ,ϱ,l,q1,q⟩
 .have g:¬(k:Int)<(((d.map V.int).length:Nat):Int):=λz=>c (τ z)
  rw [ν] at g
  have e:cT d k=0:=by unfold cT;rw [List.getElem?_eq_none ω];rfl
  rw [e] at q
  exact q
def yF(F:Fun K "_law_mixed" "_law_mixed" gw f fd):NH P w K mg base Za 1 f fd MV mz:=by
 refine F.oj sc__law_mixed λe A d s H vs Q E g h=>?_
 obtain ⟨c,k,rfl,q⟩:=h
 have nd:=sc__law_mixed.nd
 refine ⟨_,ac (sN 2 nd (ai aG (ai dD (ai aU (ai aU (pv 0) (ai dD af (pv 1))) af) af) af))
  (Ze (ai aG (ai dD (pv 2) (ai aU (ai cw (pv 2) af) af)) af)),?_⟩
 refine ⟨_,ϱ,_,ϱ,_,_,ϱ,ϱ,.inl ⟨θ,θ⟩,_,_,ϱ,ϱ,_,_,ϱ,ϱ,_,_,ϱ,ϱ,.inr ⟨θ,θ⟩,_,_,ϱ,ϱ,Qa 2147483646,?_⟩
 have h0:0<=(c+7919*k+1)*48271%2147483647:=Ů _ ζ
 have h1:(c+7919*k+1)*48271%2147483647<2147483647:=Ŵ _ ζ
 exact ⟨_,ϱ,_,ϱ,_,_,ϱ,ϱ,⟨ζ,ζ⟩,_,_,ϱ,ϱ,_,_,ϱ,ϱ,.inl ⟨ω,ω⟩,_,_,ϱ,ϱ,Qa 2147483646,q _ (Ů _ ζ) (Ŵ _ ζ)⟩
def InS(x:Int):Prop:=0<=x/\x<2147483647
inductive u7 (vs:î V) (H:Hp) (Q:VK) (E:XK):Prop|mk c n:vs=[.int c,.int ((n:Nat):Int)]->n<=1000->(∀l ns H',NI H H'->H l=none->H' l=some (.lst ((ns:ć).map V.int))->ns.length=n->(∀x∈ns,InS x)->Q (.ref l) H')->u7 vs H Q E
def wB(F:Fun K "_law_stream" "_law_stream" cu f fd)(B:TxB mg)(D:GF P w K mg base Za 1 "_law_mixed" MV mz):NH P w K mg base Za 2 f fd HL u7:=by
 refine F.oj nX λu A g s H vs Q E y h=>?_
 obtain ⟨c,n,rfl,G,q⟩:=h
 have I:(1000:Nat)<=sizeLine:=by decide
 refine ⟨_,Ze (fz kM rfl (bD rfl B.range (Zd (pv 1))) (λ_ _ _ _=>bo) (λ_ _ _ _=>pc D y (Zb (pv 1) (pv 0)))),?_⟩
 refine ⟨_,ϱ,_,ϱ,ω,ω,?_⟩
 rw [ğ]
 refine iK (n:=n) (λi j k=>k=H/\∃d:ć,j=d.map V.int/\d.length=i/\∀x∈d,InS x) ⟨ϱ,[],ϱ,ϱ,λx m=>by cases m⟩ ω ?_ ?_
 .rintro i j k J ⟨rfl,d,rfl,o,e⟩
  refine fW ⟨_,ϱ,_,ϱ,c,i,ϱ,λr z C=>⟨ϱ,d++[r],by rw [ż];rfl,by rw [Ž,o];rfl,λx m=>?_⟩⟩
  rcases ź.mp m with m | m
  .exact e x m
  .rw [ϵ.mp m]
   exact ⟨z,C⟩
 .rintro j k ⟨rfl,d,rfl,o,e⟩ l t
  exact q l d _ (aa t) t Ny o e
inductive ve (vs:î V) (H:Hp) (Q:VK) (E:XK):Prop|mk a b:vs=[.int a,.int b]->InS a->InS b->(∀r,inV r->Q (.int r) H)->ve vs H Q E
def wG(F:Fun K "_law_amount" "_law_amount" fM f fd):NH P w K mg base Za 1 f fd MH ve:=by
 refine F.oj nY λr A j s H vs Q E t h=>?_
 obtain ⟨a,b,rfl,k,l,q⟩:=h
 have d:(10:Int) ^ (36:Int).toNat=1000000000000000000000000000000000000:=by decide +kernel
 have g:(10:Int) ^ (35:Int).toNat=100000000000000000000000000000000000:=by decide +kernel
 have e:(10:Nat) ^ 40=10000000000000000000000000000000000000000:=by decide +kernel
 unfold InS at k l
 refine ⟨_,ac (aC (Zl (ai aG (pv 0) af) af) (Ze (ai iz (ai aG (pv 1) af) af)) ao)
  (Ze (ai iz (ai aG (ai dD (ai dD (ai dD (pv 0) (pv 0)) (pv 0)) (pv 1)) (ai kU af af)) (ai kU af af))),?_⟩
 refine ⟨_,ϱ,_,_,ϱ,ϱ,Qa 1,ϱ,_,ϱ,aP (λ_=>?_) (λ_=>?_)⟩
 .refine ⟨_,ϱ,_,_,ϱ,ϱ,Qa 20,_,_,ϱ,ϱ,q _ ?_⟩
  have e0:=Ů b (show (21:Int)≠0 by decide)
  have o:=Ŵ b (show (0:Int)<21 by decide)
  unfold St.inV
  rw [e]
  lia
 .refine ⟨_,ϱ,_,ϱ,_,_,ϱ,ϱ,.inl ⟨ω,ω⟩,_,ϱ,_,_,ϱ,ϱ,.inr ⟨ω,ω⟩,_,ϱ,_,_,ϱ,ϱ,.inr ⟨ω,ω⟩,_,_,ϱ,ϱ,⟨ζ,ζ,ζ⟩,_,_,ϱ,ϱ,(by show (0:Int)<10 ^ (36:Int).toNat;rw [d];decide),_,_,ϱ,ϱ,⟨ζ,ζ,ζ⟩,_,_,ϱ,ϱ,q _ ?_⟩
  rw [d,g]
  generalize a*a*a*b=z
  have e0:=Ů z (show (1000000000000000000000000000000000000:Int)≠0 by decide)
  have o:=Ŵ z (show (0:Int)<1000000000000000000000000000000000000 by decide)
  unfold St.inV
  rw [e]
  lia
inductive B9 (vs:î V) (H:Hp) (Q:VK) (E:XK):Prop|mk xl q ns sz:vs=[.ref xl,.ref q]->H xl=some (.lst ((ns:ć).map V.int))->ns.length=6->((∀x∈ns,InS x))->Sz H q sz->pd sz->(∀(x:Zc) v H',Ar x.1 x.2->be sz x=true->NI H H'->tSt H' x.1 x.2 v->Q v H')->B9 vs H Q E
def six{ns:ć}(h:ns.length=6):∃a b c d e g,ns=[a,b,c,d,e,g]:=by
 match ns,h with
 | [a,b,c,d,e,g],_=>exact ⟨a,b,c,d,e,g,rfl⟩
def nO{x m:Int}(h0:0<=x)(h1:x<m)(d:m<=8):inN x:=by
 refine ⟨h0,?_⟩
 have:(8:Int)<=10 ^ 40:=by decide +kernel
 lia
def CU(F:Fun K "_law_step" "_law_step" ii f fd)(B:TxB mg)(W:mg "min"=none)(GA:GF P w K mg base Za 1 "_law_amount" MH ve):NH P w K mg base Za 2 f fd Np B9:=by
 refine F.oj sc__law_step λbl A ab s H vs Q E O h=>?_
 obtain ⟨D,q0,ns,sz,rfl,Y,l6,u,hq,⟨z1,z5,Z⟩,q⟩:=h
 have nd:=sc__law_step.nd
 obtain ⟨a,b,c,d,e,g,rfl⟩:=six l6
 have ia:=u a (by simp)
 have ib:=u b (by simp)
 have b4:=u c (by simp)
 have b5:=u d (by simp)
 have ie:=u e (by simp)
 have ig:=u g (by simp)
 obtain ⟨wd,hw⟩:=EY (a%7) (Ů _ ζ) (Ŵ _ ζ)
 refine ⟨_,ac (sN 2 nd (bc K (bF (aj aw (aj aw (aj aw (aj aw (aj aw (Zb aw aw))))))) (ai aG (ixL K (pv 0)) af)))
  (ac (sN 3 nd (ai aG (ixL K (pv 0)) (aq az rfl B.len Ź (Zd (pv 1)))))
  (ac (sN 4 nd (ai aG (ixL K (pv 0)) (bc K (pv 1) (pv 3))))
  (ac (sN 5 nd (ai aG (ixL K (pv 0)) (bc K (pv 1) (pv 3))))
  (ac (aC (Zl (pv 2) aw) (Ze (aA (Zb (pv 2) (pc GA O (Zb (ixL K (pv 0)) (ixL K (pv 0))))))) ao)
  (ac (aC (Zl (pv 2) aw) (Ze (aA (Zb (pv 2) (ai iz (ai iz (ai aG (ixL K (pv 0)) af) af) (ai dD (ai kU af af) (ai aG (ixL K (pv 0)) af)))))) ao)
  (ac (aC (Zl (pv 2) aw) (Ze (aA (aj (pv 2) (aj (pv 3) (Zb (pv 4) (pc GA O (Zb (ixL K (pv 0)) (ixL K (pv 0))))))))) ao)
  (ac (aC (Zl (pv 2) aw) (Ze (aA (aj (pv 2) (aj (pv 3) (Zb (aq (wZ rfl) rfl W PyProof.Rows.boot_min (Zb (pv 4) (pv 5))) (aq (w8 rfl) rfl B.max PyProof.Rows.boot_max (Zb (pv 4) (pv 5)))))))) ao)
  (Ze (aA (aj (pv 2) (Zb (pv 3) (pv 4)))))))))))),?_⟩
 have ln:(sz.map V.int).length=sz.length:=ν _
 have J:(0:Int)<((sz.length:Nat):Int):=by lia
 have w0:0<=b%((sz.length:Nat):Int):=Ů _ ω
 have w1:b%((sz.length:Nat):Int)<((sz.length:Nat):Int):=Ŵ _ J
 obtain ⟨m,hm,a0,em⟩:=v9 w0 w1
 obtain ⟨m1,m8⟩:=Z m hm
 refine ⟨χ,λl hl=>?_⟩
 have L:NI H _:=aa (o:=.lst [.str "take",.str "mean",.str "sum",.str "give",.str "add",.str "plus",.str "need"]) hl
 have k:=L _ _ Y
 refine ⟨_,ϱ,D,_,_,_,ϱ,ϱ,Nz k,St.at0,_,_,ϱ,ϱ,Qa 6,l,_,_,_,ϱ,ϱ,Nz Ny,hw,?_⟩
 have G:=L _ _ hq
 generalize (upd H l _)=H1 at L G k ⊢
 have U:atI ([a,b,c,d,e,g].map V.int) 3=some (.int d):=ay (j:=3) rfl
 have y:atI ([a,b,c,d,e,g].map V.int) 4=some (.int e):=ay (j:=4) rfl
 have z:atI ([a,b,c,d,e,g].map V.int) 5=some (.int g):=ay (j:=5) rfl
 refine ⟨_,ϱ,D,_,_,_,ϱ,ϱ,Nz k,St.at1,_,ϱ,q0,_,ϱ,.inl (Nz G),_,_,ϱ,ϱ,by rw [ln];exact J,?_⟩
 rw [ln]
 refine ⟨_,ϱ,D,_,_,_,ϱ,ϱ,Nz k,St.at2,_,ϱ,_,ϱ,q0,_,_,_,ϱ,ϱ,Nz G,em,_,_,ϱ,ϱ,ω,?_⟩
 refine ⟨_,ϱ,D,_,_,_,ϱ,ϱ,Nz k,U,_,ϱ,_,ϱ,q0,_,_,_,ϱ,ϱ,Nz G,em,_,_,ϱ,ϱ,ω,?_⟩
 have o0:0<=c%m:=Ů _ ω
 have o1:c%m<m:=Ŵ _ ω
 have p0:0<=d%m:=Ů _ ω
 have p1:d%m<m:=Ŵ _ ω
 have iw:inN (b%((sz.length:Nat):Int)):=nO w0 w1 ω
 have X:inN (c%m):=nO o0 o1 m8
 have ip:inN (d%m):=nO p0 p1 m8
 have th:∀(C:Wd) (r:ć),hvI (aI C ((b%((sz.length:Nat):Int))::r))=some (b%((sz.length:Nat):Int))->oM C ((b%((sz.length:Nat):Int))::r)<m->be sz (C,(b%((sz.length:Nat):Int))::r)=true:=λC r e1 e2=>by
  rw [qE (x:=(C,(b%((sz.length:Nat):Int))::r)) e1 w1 a0]
  exact τ e2
 refine ⟨_,ϱ,ϱ,_,ϱ,aP (λc1=>?_) (λc1=>?_)⟩
 .obtain rfl:wd=.plus:=cD c1
  refine ⟨_,ϱ,_,ϱ,D,_,_,_,ϱ,ϱ,Nz k,y,_,ϱ,D,_,_,_,ϱ,ϱ,Nz k,z,e,g,ϱ,ie,ig,λr O=>⟨χ,λt I=>q (.plus,[r]) _ _ O rfl (L.trans (aa I)) ⟨t,ϱ,Ny⟩⟩⟩
 refine ⟨_,ϱ,ϱ,_,ϱ,aP (λc2=>?_) (λc2=>?_)⟩
 .obtain rfl:wd=.need:=cD c2
  refine ⟨_,ϱ,_,ϱ,D,_,_,_,ϱ,ϱ,Nz k,y,_,_,ϱ,ϱ,Qa 20,_,_,ϱ,ϱ,_,_,ϱ,ϱ,⟨ζ,ζ,ζ⟩,_,ϱ,D,_,_,_,ϱ,ϱ,Nz k,z,_,_,ϱ,ϱ,Qa 2,_,_,ϱ,ϱ,.inr ?_,_,_,ϱ,ϱ,χ,λt I=>q (.need,[_]) _ _ ?_ rfl (L.trans (aa I)) ⟨t,ϱ,Ny⟩⟩
  .have e0:=Ů g (show (3:Int)≠0 by decide)
   have e1:=Ŵ g (show (0:Int)<3 by decide)
   exact ⟨ω,ω⟩
  .have e0:=Ů g (show (3:Int)≠0 by decide)
   have e1:=Ŵ g (show (0:Int)<3 by decide)
   have e2:=Ů e (show (21:Int)≠0 by decide)
   have e3:=Ŵ e (show (0:Int)<21 by decide)
   have a6:(10:Int) ^ (37:Int).toNat=10000000000000000000000000000000000000:=by decide +kernel
   have a7:(10:Nat) ^ 40=10000000000000000000000000000000000000000:=by decide +kernel
   show inV _
   unfold St.inV
   rw [a6,a7]
   lia
 refine ⟨_,ϱ,ϱ,_,ϱ,aP (λc3=>?_) (λc3=>?_)⟩
 .obtain rfl:wd=.add:=cD c3
  refine ⟨_,ϱ,_,ϱ,_,ϱ,_,ϱ,D,_,_,_,ϱ,ϱ,Nz k,y,_,ϱ,D,_,_,_,ϱ,ϱ,Nz k,z,e,g,ϱ,ie,ig,λr O=>⟨χ,λt I=>q (.add,[(b%((sz.length:Nat):Int)),(c%m),r]) _ _ ⟨iw,X,O⟩ (th .add [(c%m),r] rfl o1) (L.trans (aa I)) ⟨t,ϱ,Ny⟩⟩⟩
 refine ⟨_,ϱ,ϱ,_,ϱ,aP (λc4=>?_) (λc4=>?_)⟩
 .obtain rfl:wd=.sum:=cD c4
  refine ⟨_,ϱ,_,ϱ,_,ϱ,_,ϱ,_,_,ϱ,_,ϱ,_,ϱ,_,_,ϱ,χ,λt I=>q (.sum,[(b%((sz.length:Nat):Int)),if (d%m)<(c%m) then (d%m) else (c%m),if (d%m)>(c%m) then (d%m) else (c%m)]) _ _ ⟨iw,?_,?_,?_⟩ (th .sum _ rfl ?_) (L.trans (aa I)) ⟨t,ϱ,Ny⟩⟩
  .split
   .exact ip
   .exact X
  .split
   .exact ip
   .exact X
  .split<;>split<;>lia
  .show (if (d%m)>(c%m) then (d%m) else (c%m))<m
   split<;>lia
 .have n1:=br (b:=.plus) c1
  have n2:=br (b:=.need) c2
  have n3:=br (b:=.add) c3
  have n4:=br (b:=.sum) c4
  refine ⟨_,ϱ,_,ϱ,_,ϱ,χ,λt I=>q (wd,[(b%((sz.length:Nat):Int)),(c%m)]) _ _ ?_ ?_ (L.trans (aa I)) ⟨t,ϱ,Ny⟩⟩
  .cases wd<;>first | contradiction | exact ⟨iw,X⟩
  .cases wd<;>first | contradiction | exact th _ _ rfl o1
def TsP(H:Hp)(xs:î Zc)(us:î V):Prop:=Paired (λ(x:Zc) v=>tSt H x.1 x.2 v) xs us
def ng{H H':Hp}{wd:Wd}{ns:ć}{v:V}(s:a9 H H')(h:tSt H wd ns v):tSt H' wd ns v:=by
 obtain ⟨a,e,z⟩:=h
 exact ⟨a,e,s _ _ z⟩
def TsP.keep{H H':Hp}{xs:î Zc}{us:î V}(s:a9 H H')(h:TsP H xs us):TsP H' xs us:=NB h λ_ _ z=>ng s z
inductive vd (vs:î V) (H:Hp) (Q:VK) (E:XK):Prop|mk c n q sz:vs=[.int c,.int ((n:Nat):Int),.ref q]->n<=12->Sz H q sz->pd sz->(∀l us (xs:î Zc) H',NI H H'->H l=none->H' l=some (.lst us)->TsP H' xs us->xs.length=n->ArS xs->(∀x∈xs,be sz x=true)->Q (.ref l) H')->vd vs H Q E
def Fr{ns:ć}{i n:Nat}(g:ns.length=6*n)(h:i<n):∃zs:ć,bn (ns.map V.int) (some (6*(i:Int))) (some (6*(i:Int)+6))=zs.map V.int/\zs.length=6/\∀x∈zs,x∈ns:=by
 refine ⟨(ns.drop (6*i)).take 6,?_,?_,λx f=>Ŀ (ň f)⟩
 .have d:(6*(i:Int))=((6*i:Nat):Int):=by lia
  have e:(6*(i:Int)+6)=((6*i+6:Nat):Int):=by lia
  rw [e,d,rT _ _ _ ω (by rw [ν];lia),ģ,List.map_drop]
  congr 1
  lia
 .rw [ŷ,Ś]
  lia
def AS(F:Fun K "_law_steps" "_law_steps" cN f fd)(B:TxB mg)(GS:GF P w K mg base Za 2 "_law_stream" HL u7)(GT:GF P w K mg base Za 2 "_law_step" Np B9):NH P w K mg base Za 3 f fd KS vd:=by
 refine F.oj sc__law_steps λa5 A D s H vs Q E Z h=>?_
 obtain ⟨c,n,q0,sz,rfl,hn,hq,z,q⟩:=h
 have nd:=sc__law_steps.nd
 have hz:(1000:Nat)<=sizeLine:=by decide
 refine ⟨_,ac (sN 3 nd (pc GS Z (Zb (pv 0) (ai dD af (pv 1)))))
  (Ze (fz md rfl (bD rfl B.range (Zd (pv 1))) (λ_ _ _ _=>bo) (λ_ _ _ _=>pc GT Z (Zb (aL (r:=DX K) dY (pv 2) (aN (ai dD af (pv 0))) (aN (ai aU (ai dD af (pv 0)) af))) (pv 1))))),?_⟩
 refine ⟨_,ϱ,_,ϱ,_,_,ϱ,ϱ,.inl ⟨θ,θ⟩,c,6*n,by simp,ω,λxl ns H1 G a7 I ln J=>?_⟩
 refine ⟨_,ϱ,_,ϱ,ω,ω,?_⟩
 rw [ğ]
 refine iK (n:=n) (λi t e=>NI H1 e/\∃xs:î Zc,TsP e xs t/\xs.length=i/\ArS xs/\∀x∈xs,be sz x=true) ⟨NC _,[],.nil,ϱ,(λx m=>by cases m),(λx m=>by cases m)⟩ ω ?_ ?_
 .rintro i t e hi ⟨g,xs,tx,W,X,Y⟩
  obtain ⟨j,ez,lz,C⟩:=Fr ln hi
  refine fW ⟨_,ϱ,_,ϱ,_,_,ϱ,ϱ,.inl ⟨θ,θ⟩,_,ϱ,_,ϱ,_,_,ϱ,ϱ,.inl ⟨θ,θ⟩,_,_,ϱ,ϱ,_,ϱ,xl,_,ϱ,Nz (g _ _ I),λu L=>?_⟩
  have d:=aa (o:=.lst (j.map V.int)) L
  have k:(upd e u (.lst (j.map V.int))) u=some (.lst (j.map V.int)):=Ny
  show (_:Prop)
  rw [ez]
  generalize (upd e u (.lst (j.map V.int)))=H3 at d k ⊢
  refine ⟨_,ϱ,u,q0,j,sz,ϱ,k,lz,λx hx=>J x (C x hx),d _ _ (g _ _ (G _ _ hq)),z,λx v H4 ax O s4 tv=>⟨g.trans (d.trans s4),xs++[x],(tx.keep (d.trans s4).ts).app (.cons tv .nil),by rw [Ž,W];rfl,λy U=>?_,λy U=>?_⟩⟩
  .rcases ź.mp U with m | m
   .exact X y m
   .rw [ϵ.mp m];exact ax
  .rcases ź.mp U with m | m
   .exact Y y m
   .rw [ϵ.mp m];exact O
 .rintro t e ⟨g,xs,tx,W,X,Y⟩ l nl
  have d:=aa (o:=.lst t) nl
  exact q l t xs _ (G.trans (g.trans d)) (none_of (G.trans g) nl) Ny (tx.keep d.ts) W X Y
def cm_in:Scope:=match NF bU with
 | .Assign _ (.ListComp (.Call _ [.BinOp _ _ (.ListComp _ _ sc _) _] _ _) _ _ _) _::_=>sc
 | _=>default
def DU{N:Ĉ}{sc:Scope}:NJ N sc cm_in "_law_number" ["_law_number"] [] :=
 ⟨θ,ϱ,θ,ϱ,λy hy h=>absurd h ((by decide +kernel:∀y∈cm_in.names,y.2≠.free) y hy),θ,ϱ,ϱ,λj h=>absurd h (Ř j)⟩
def EI:ï:=match NF bU with
 | .Assign _ (.ListComp e _ _ _) _::_=>e
 | _=>.Constant .none 0 ⟨0,0,0,0⟩
def D3{X:Cx}{e:ï}{t u:TE}(h:PE X e t)(hw:∀σ H Q,u σ H Q->t σ H Q):PE X e u:=λpins s σ H Q I q=>h pins s σ H Q I (hw σ H Q q)
def DC:TE:=fun σ H Q=>∃c0 wd ms,σ=[some (.ref c0)]/\H c0=some (.tup (.str (wS wd)::(ms:ć).map V.int))/\Ar wd ms/\∀H',NI H H'->Q (.str (txt wd ms)) H'
def AD{X:Cx}{K:ò}(Y:X.K=K)(hc:X.calm=true)(Z:X.mg "str"=none){C:ø}{O:ĉ}{s:ú}{H:Hp}:PE (X.blk Nv fj C O s H) EI DC:=by
 subst Y
 refine D3 (show PE (X.blk Nv fj C O s H) (.Call (.Attribute _ _ _) [_] [] _) _ from dg Ŧ PySem.F.slot_str_join PySem.F.type_str_join vH aw (Zd (ai uv (bF (Zd (jI (r:=yg X.K) uN (pv 0) af (λ_ _=>rfl)))) (fz DU hc (uq (aL uh (pv 0) (aN af) ba)) (λ_ _ _ _=>bo) (λ_ _ _ _=>bM rW rfl Z PyProof.Rows.boot_str (Zd (pv 0))))))) ?_
 rintro σ u Q ⟨L,wd,d,rfl,w,j,q⟩
 have x:=j.len
 refine ⟨ϱ,_,ϱ,L,_,_,_,ϱ,ϱ,NA w,St.at0,χ,λl P=>?_⟩
 have D:NI u _:=aa (o:=.lst [.str (wS wd)]) P
 refine ⟨_,ϱ,_,ϱ,L,_,ϱ,NA (D _ _ w),uR _ _,λt I=>?_⟩
 rw [Bn]
 have G:NI u _:=D.trans (aa (o:=.tup (d.map V.int)) I)
 have k:(upd (upd u l (.lst [.str (wS wd)])) t (.tup (d.map V.int))) l=some (.lst [.str (wS wd)]):=aa I _ _ Ny
 have f:(upd (upd u l (.lst [.str (wS wd)])) t (.tup (d.map V.int))) t=some (.tup (d.map V.int)):=Ny
 generalize (upd (upd u l _) t _)=H0 at G k f ⊢
 refine ⟨t,ϱ,⟨_,NA f⟩,?_⟩
 refine zh (g:=λi=>V.str (iS i)) (ns:=d) f (Λ x.2 ζ) (λi H1 Q U y h=>?_) (λH1 y p J=>?_)
 .exact ⟨_,ϱ,i,ϱ,Et (j.all i U),h H1 (NC _)⟩
 .refine ⟨l,p,_,_,ϱ,ϱ,aa J _ _ (y _ _ k),Ny,?_,λW z=>?_⟩
  .have h5:(d.map λi=>V.str (iS i)).length=d.length:=ν _
   have h6:([V.str (wS wd)]:î V).length=1:=rfl
   have h7:(4:Nat)<=sizeLine:=by decide
   lia
  .have e:([V.str (wS wd)]++d.map λi=>V.str (iS i))=(wS wd::d.map iS).map V.str:=by simp
   refine ⟨_,W,wS wd::d.map iS,ϱ,ϱ,Nz (by rw [Ny,e]),Λ (ki j) ζ,?_⟩
   exact q _ (G.trans (y.trans ((aa J).trans (aa z))))
inductive xH (vs:î V) (H:Hp) (Q:VK) (E:XK):Prop|mk b sl us xs:vs=[.str (mS b),.ref sl]->H sl=some (.lst us)->TsP H xs us->ArS xs->xs.length<=12->(∀H',NI H H'->Q (.str (Zf (mS b) xs)) H')->xH vs H Q E
def CQ(F:Fun K "_law_text" "_law_text" bU f fd)(B:TxB mg):NH P w K mg base Za 1 f fd KQ xH:=by
 refine F.oj sc__law_text λU A l s H vs Q E hr h=>?_
 obtain ⟨b,I,t,xs,rfl,y,C,g,hl,q⟩:=h
 have nd:=sc__law_text.nd
 have hz:(100000:Nat)<=sizeLine:=by decide
 have l1:(" ":Str).length=1:=by decide +kernel
 have L:("; ":Str).length=2:=by decide +kernel
 have pl:xs.length=t.length:=C.len
 have ml:=zb b
 refine ⟨_,ac (f7 (iy:=2) oh rfl (cg (pv 1)) (λ_ _ _ _=>bo) (λ_ _ _ _=>AD (K:=K) rfl rfl B.str) nd rfl (Or.inl rfl))
  (Ze (ai eT (ai eT (pv 0) aw) (dg Ŧ PySem.F.slot_str_join PySem.F.type_str_join vH aw (Zd (pv 2))))),?_⟩
 refine ⟨_,ϱ,I,ϱ,⟨_,Nz y⟩,?_⟩
 refine eg (xs:=t) (λi e r=>NI H r/\e=((xs.take i).map sx).map V.str) ⟨NC _,ϱ⟩ ω (λi e r _ z=>Nz (z.1 _ _ y)) ?_ ?_
 .rintro i u e r X ⟨G,rfl⟩
  obtain ⟨x,ex,tx⟩:=C.get X
  have k:=g x (ž ex)
  obtain ⟨J,rfl,j⟩:=tx.keep G
  refine fW ⟨J,x.1,x.2,ϱ,j,k,λH4 W=>⟨G.trans W,?_⟩⟩
  have O:xs.take (i+1)=xs.take i++[x]:=by rw [Ų,ex];rfl
  rw [O,ż,ż]
  rfl
 rintro e H1 ⟨Y,rfl⟩ p Z
 rw [← pl,Ū]
 have sm:=xD g
 have js:=jr g ω
 have D:=Y.trans (aa (o:=.lst ((xs.map sx).map V.str)) Z)
 have d:(upd H1 p (HO.lst ((xs.map sx).map V.str))) p=some (.lst ((xs.map sx).map V.str)):=Ny
 generalize (upd H1 p (HO.lst ((xs.map sx).map V.str)))=H2 at D d ⊢
 refine ⟨_,ϱ,_,_,ϱ,ϱ,by rw [l1];lia,ϱ,_,ϱ,_,p,xs.map sx,ϱ,ϱ,Nz d,by rw [L,ν];lia,_,_,ϱ,ϱ,?_,q _ D⟩
 have:(mS b++(" ":Str)).length=(mS b).length+(" ":Str).length:=by
  show ((mS b).cps++(" ":Str).cps).size=_
  rw [Ť]
  rfl
 rw [this,l1]
 lia
theorem u4(d:ć)(a:Nat):∀n,a+n<=d.length->sg (vl d) (a:Nat) n=((d.drop a).take n).sum
 | 0,_=>by simp [sg]
 | n+1,h=>by
  have ih:=u4 d a n ω
  show sg (vl d) a n+vl d ((a:Nat)+(n:Nat))=_
  have e:((d.drop a).take (n+1))=(d.drop a).take n++[d[a+n]'(ω)]:=by
   rw [Ų,Ĩ,ξ ω]
   rfl
  rw [e,List.sum_append,ih]
  have f:vl d ((a:Nat)+(n:Nat))=d[a+n]'(ω):=by
   unfold vl
   have:(((a:Nat):Int)+((n:Nat):Int)).toNat=a+n:=by lia
   rw [this,List.getD,ξ ω]
   rfl
  rw [f]
  simp
inductive Av (vs:î V) (H:Hp) (Q:VK) (E:XK):Prop|mk c rs X x v hand:vs=[v,.int hand,.ref c]->Rows H c rs X->Sml X->Ar x.1 x.2->tSt H x.1 x.2 v->be (aB X) x=true->(∀t ch H',Rows H' c rs (ce x (Zk x hand X).2 X)->H' t=some (.tup [.int (Zk x hand X).1,.ref ch])->ChT H' (Zk x hand X).2 ch->NK rs H H'->Q (.ref t) H')->Av vs H Q E
def yK(F:Fun K "_law_done" "_law_done" im f fd)(B:TxB mg)(b4:mg "sum"=none):NH P w K mg base Za 1 f fd KR Av:=by
 refine F.oj sc__law_done λd3 A bS s H vs Q E hr h=>?_
 obtain ⟨c,rs,X,x,v,t,rfl,W,sm,ar,⟨a,rfl,ha⟩,th,q⟩:=h
 have nd:=sc__law_done.nd
 have hz:(1000:Nat)<=sizeLine:=by decide
 obtain ⟨ic,bi⟩:=fV (h:=x.2.headD 0) ar th (λ_ a e=>by rw [e];exact Int.le_refl _)
 have aM:=jA sm x
 refine ⟨_,ac (aC (Zl (Zj K (pv 0)) aw) (Ze (aA (Zb (ai aU (pv 1) (Zj K (pv 0))) (aA aO)))) ao)
  (ac (aC (Zl (Zj K (pv 0)) aw) (Ze (aA (Zb (pv 1) (aA aO)))) ao)
  (ac (sN 3 nd (bc K (pv 2) (Zj K (pv 0))))
  (ac (aC (PW.pt (cU (Zl (Zj K (pv 0)) aw) (cR (Zl (Zj K (pv 0)) aw)))) (Ze (aA (Zb (bc K (pv 3) (Zj K (pv 0))) (aA aO)))) ao)
  (ac (aC (Zl (Zj K (pv 0)) aw) (Ze (aA (Zb (aq (je rfl) rfl b4 PyProof.Rows.boot_sum (Zd (aL dY (pv 3) (aN (Zj K (pv 0))) (aN (ai aU (Zj K (pv 0)) af))))) (aA aO)))) ao)
  (ac (aC (Zl (Zj K (pv 0)) aw) (au (bV (ai aU (bc K (pv 3) (Zj K (pv 0))) (Zj K (pv 0))) (gD (pv 3) (Zj K (pv 0)) cL))) (au (bV (pv 1) (gD (pv 3) (Zj K (pv 0)) cL))))
  (dy (u:=λD σ H1=>∃L g C j I,σ=[some (.ref a),some (.int t),some (.ref c),some (.ref L)]/\Rows H1 c rs (ce x (Zk x t X).2 X)/\NK rs H H1/\H1 a=some (.tup (.str (wS x.1)::.int j::.int g::I))/\H1 L=some (.lst ((C:ć).map V.int))/\0<=g/\g<C.length/\Zk x t X=(t,[(g,vl C g)])/\∀y H',Q y H'->D.rt y H')
   (Ze (aA (Zb (pv 1) (aA (Zd (aA (Zb (Zj K (pv 0)) (bc K (pv 3) (Zj K (pv 0)))))))))) ?s2)))))),?_⟩
 .rintro D σ H1 ⟨L,g,C,j,I,rfl,b2,k1,b3,cl,c0,c1,ed,nx⟩
  have e6:atI (C.map V.int) g=some (.int (vl C g)):=by
   have e5:g=((g.toNat:Nat):Int):=(ŧ c0).symm
   have lt:g.toNat<C.length:=by lia
   have z:=ay (xs:=C.map V.int) (j:=g.toNat) (v:=.int (vl C g)) (by
    rw [Ż,ξ lt]
    unfold vl
    rw [List.getD,ξ lt]
    rfl)
   rw [← e5] at z
   exact z
  refine ⟨_,ϱ,_,ϱ,a,_,_,_,ϱ,ϱ,NA b3,St.at2,_,ϱ,_,ϱ,a,_,_,_,ϱ,ϱ,NA b3,St.at2,L,_,_,_,ϱ,ϱ,Nz cl,e6,χ,λt1 n1=>⟨χ,λt2 O=>⟨χ,λt3 n3=>?_⟩⟩⟩
  have s1:=aa (o:=.tup [.int g,.int (vl C g)]) n1
  have s2:=aa (o:=.tup [.ref t1]) O
  have s3:=aa (o:=.tup [.int t,.ref t2]) n3
  have Z:=s1.trans (s2.trans s3)
  rw [ed] at b2 q
  exact nx _ _ (q t3 t2 _ (b2.keep Z) Ny ⟨_,s3 _ _ Ny,.cons ⟨t1,ϱ,s3 _ _ (s2 _ _ Ny)⟩ .nil⟩ (k1.trans (ND Z)))
 refine ⟨_,ϱ,a,_,_,_,ϱ,ϱ,NA ha,St.at0,ϱ,_,ϱ,aP (λc1=>?_) (λc1=>?_)⟩
 .obtain ⟨wd,ns⟩:=x
  obtain rfl:wd=.plus:=cD c1
  obtain ⟨z,rfl,_⟩:=ar.p
  refine ⟨_,ϱ,_,ϱ,a,_,_,_,ϱ,ϱ,NA ha,St.at1,_,_,ϱ,ϱ,χ,λt1 n1=>⟨χ,λt2 O=>?_⟩⟩
  have Z:=(aa (o:=.tup []) n1).trans (aa (o:=.tup [.int (t+z),.ref t1]) O)
  exact q t2 t1 _ (W.keep Z) Ny ⟨[],aa O _ _ Ny,.nil⟩ (ND Z)
 refine ⟨_,ϱ,a,_,_,_,ϱ,ϱ,NA ha,St.at0,ϱ,_,ϱ,aP (λc2=>?_) (λc2=>?_)⟩
 .obtain ⟨wd,ns⟩:=x
  obtain rfl:wd=.need:=cD c2
  obtain ⟨z,rfl,_⟩:=ar.n
  refine ⟨_,ϱ,χ,λt1 n1=>⟨χ,λt2 O=>?_⟩⟩
  have Z:=(aa (o:=.tup []) n1).trans (aa (o:=.tup [.int t,.ref t1]) O)
  exact q t2 t1 _ (W.keep Z) Ny ⟨[],aa O _ _ Ny,.nil⟩ (ND Z)
 have n1:=br (b:=.plus) c1
 have O:=br (b:=.need) c2
 obtain ⟨x0,as,ens,av⟩:=ar.home n1 O
 obtain ⟨j,k,hv,ex,er,ej⟩:=bi.resolve_left (λz=>by rw [av] at z;cases z.1)
 have bP:x0=((j:Nat):Int):=by
  rw [av] at hv
  exact V.int.inj hv
 obtain ⟨L,e0,J⟩:=W.r.get1 ex
 rw [er] at ic aM
 have G:H a=some (.tup (.str (wS x.1)::.int ((j:Nat):Int)::as.map V.int)):=by rw [ha,ens,bP];rfl
 refine ⟨_,ϱ,_,ϱ,a,_,_,_,ϱ,ϱ,NA G,St.at1,c,_,_,_,ϱ,ϱ,Nz W.l,ay (by rw [Ż,e0];rfl),?_⟩
 have val:∀g:Int,0<=g->g<k.length->atI (k.map V.int) g=some (.int (vl k g)):=λg c0 c1=>by
  have e5:g=((g.toNat:Nat):Int):=(ŧ c0).symm
  have lt:g.toNat<k.length:=by lia
  have z:=ay (xs:=k.map V.int) (j:=g.toNat) (v:=.int (vl k g)) (by
   rw [Ż,ξ lt]
   unfold vl
   rw [List.getD,ξ lt]
   rfl)
  rw [← e5] at z
  exact z
 have aZ:∀g v:Int,0<=g->g<k.length->Zk x t X=(t,[(g,v)])->ixN (k.map V.int).length g=some g.toNat/\Rows (upd H L (.lst ((k.map V.int).set g.toNat (.int v)))) c rs (ce x (Zk x t X).2 X)/\NK rs H (upd H L (.lst ((k.map V.int).set g.toNat (.int v))))/\(upd H L (.lst ((k.map V.int).set g.toNat (.int v)))) a=H a/\(upd H L (.lst ((k.map V.int).set g.toNat (.int v)))) L=some (.lst ((k.set g.toNat v).map V.int))/\vl (k.set g.toNat v) g=v:=λg v c0 c1 ed=>by
  have e5:g=((g.toNat:Nat):Int):=(ŧ c0).symm
  have lt:g.toNat<k.length:=by lia
  have em:(k.map V.int).set g.toNat (.int v)=(k.set g.toNat v).map V.int:=by rw [List.map_set]
  rw [em]
  refine ⟨?_,?_,NK.upd (ž e0),?_,Ny,?_⟩
  .rw [ν]
   have z:=jT lt
   rw [← e5] at z
   exact z
  .have z:=W.put (xs:=k.set g.toNat v) e0
   have e3:ce x (Zk x t X).2 X=X.set j (k.set g.toNat v):=by
    rw [ed]
    show qR X (hN x) g.toNat v=_
    unfold qR
    rw [ej,List.getD,ex]
    rfl
   rw [e3]
   exact z
  .rw [am (vD ha J (by intro z;cases z))]
  .unfold vl
   rw [List.getD,š lt]
   rfl
 have a5:x.1≠.sum->∃g I,as=g::I/\0<=g/\g<k.length:=λn3=>by
  obtain ⟨wd,ns⟩:=x
  cases wd with
  | take =>
   obtain ⟨p,b,rfl,h1,h2,_⟩:=ar.c rfl
   cases ens
   exact ⟨b,[],ϱ,h2.1,ic⟩
  | mean =>
   obtain ⟨p,b,rfl,h1,h2,_⟩:=ar.c rfl
   cases ens
   exact ⟨b,[],ϱ,h2.1,ic⟩
  | give =>
   obtain ⟨p,b,rfl,h1,h2,_⟩:=ar.c rfl
   cases ens
   exact ⟨b,[],ϱ,h2.1,ic⟩
  | add =>
   obtain ⟨p,b,d,rfl,h1,h2,_⟩:=ar.a
   cases ens
   exact ⟨b,[d],ϱ,h2.1,ic⟩
  | sum=>exact absurd rfl n3
  | plus=>exact absurd rfl n1
  | need=>exact absurd rfl O
 have ab:x.1=.take\/x.1=.mean->BW (jy (tOp (yh K) (jx 3) (tOp (yg K) (jx 0) (tC (.int 2)))) (jy (BW jg) jg)) [some (.ref a),some (.int t),some (.ref c),some (.ref L)] H Q:=λhx=>by
  obtain ⟨g,I,rfl,c0,Y⟩:=a5 (by rcases hx with z | z<;>rw [z]<;>decide)
  have ed:Zk x t X=(vl k g,[]):=by
   unfold Zk
   rw [er,ens]
   obtain ⟨wd,ns⟩:=x
   cases ens
   rcases hx with z | z
   .cases z
    obtain ⟨p,b,e,_⟩:=ar.c rfl
    cases e
    rfl
   .cases z
    obtain ⟨p,b,e,_⟩:=ar.c rfl
    cases e
    rfl
  rw [ed] at q
  refine ⟨_,ϱ,_,ϱ,a,_,_,_,ϱ,ϱ,NA G,St.at2,L,_,_,_,ϱ,ϱ,Nz J,val g c0 Y,χ,λt1 n1=>⟨χ,λt2 O=>?_⟩⟩
  have Z:=(aa (o:=.tup []) n1).trans (aa (o:=.tup [.int (vl k g),.ref t1]) O)
  exact q t2 t1 _ (W.keep Z) Ny ⟨[],aa O _ _ Ny,.nil⟩ (ND Z)
 refine ⟨_,ϱ,a,_,_,_,ϱ,ϱ,NA G,St.at0,ϱ,_,ϱ,aP (λc3=>bx (ab (.inl (cD c3)))) (λc3=>?_)⟩
 refine ⟨_,ϱ,a,_,_,_,ϱ,ϱ,NA G,St.at0,ϱ,_,ϱ,aP (λc4=>ab (.inr (cD c4))) (λc4=>?_)⟩
 refine ⟨_,ϱ,a,_,_,_,ϱ,ϱ,NA G,St.at0,ϱ,_,ϱ,aP (λc5=>?_) (λc5=>?_)⟩
 .obtain ⟨wd,ns⟩:=x
  obtain rfl:wd=.sum:=cD c5
  obtain ⟨p,lo,U,rfl,h1,h2,h3,h4⟩:=ar.s
  cases ens
  have cF:lo<k.length/\U<k.length:=ic
  have l0:0<=lo:=h2.1
  have e3:atI (V.str (wS (Wd.sum,[x0,lo,U]).1)::V.int ((j:Nat):Int)::[lo,U].map V.int) 3=some (.int U):=ay (j:=3) rfl
  refine ⟨_,ϱ,_,ϱ,a,_,_,_,ϱ,ϱ,NA G,St.at2,_,ϱ,_,ϱ,a,_,_,_,ϱ,ϱ,NA G,e3,_,_,ϱ,ϱ,_,ϱ,L,_,ϱ,Nz J,λsl cf=>?_⟩
  have ea:lo=((lo.toNat:Nat):Int):=(ŧ l0).symm
  have eb:U+1=(((U+1).toNat:Nat):Int):=(ŧ ω).symm
  have ec:bn (k.map V.int) (some lo) (some (U+1))=((k.drop lo.toNat).take ((U+1).toNat-lo.toNat)).map V.int:=by
   rw [ea,eb,rT _ _ _ ω (by rw [ν];lia),ģ,List.map_drop]
   rfl
  show (_:Prop)
  rw [ec]
  have s1:=aa (o:=.lst (((k.drop lo.toNat).take ((U+1).toNat-lo.toNat)).map V.int)) cf
  refine ⟨sl,_,ϱ,Nz Ny,χ,λt1 n1=>⟨χ,λt2 O=>?_⟩⟩
  have ed:Zk (Wd.sum,[x0,lo,U]) t X=(((k.drop lo.toNat).take ((U+1).toNat-lo.toNat)).sum,[]):=by
   unfold Zk
   rw [er]
   show (sg (vl k) lo (U+1-lo).toNat,[])=_
   have e6:(U+1-lo).toNat=(U+1).toNat-lo.toNat:=by lia
   have:=u4 k lo.toNat ((U+1).toNat-lo.toNat) ω
   rw [← ea] at this
   rw [e6,this]
  rw [ed] at q
  have Z:=s1.trans ((aa (o:=.tup []) n1).trans (aa (o:=.tup [.int ((k.drop lo.toNat).take ((U+1).toNat-lo.toNat)).sum,.ref t1]) O))
  exact q t2 t1 _ (W.keep Z) Ny ⟨[],aa O _ _ Ny,.nil⟩ (ND Z)
 have n5:=br (b:=.sum) c5
 obtain ⟨g,I,rfl,c0,Y⟩:=a5 n5
 refine ⟨_,ϱ,a,_,_,_,ϱ,ϱ,NA G,St.at0,ϱ,_,ϱ,aP (λc6=>?_) (λc6=>?_)⟩
 .have hx:x.1=.add:=cD c6
  obtain ⟨d,rfl⟩:∃d,I=[d]:=by
   obtain ⟨wd,ns⟩:=x
   cases hx
   obtain ⟨p,b,d,e,_⟩:=ar.a
   cases e
   cases ens
   exact ⟨d,ϱ⟩
  have e3:atI (V.str (wS x.1)::V.int ((j:Nat):Int)::[g,d].map V.int) 3=some (.int d):=ay (j:=3) rfl
  have ed:Zk x t X=(t,[(g,vl k g+d)]):=by
   unfold Zk
   rw [er]
   obtain ⟨wd,ns⟩:=x
   cases hx
   cases ens
   rfl
  obtain ⟨w1,w2,w3,w4,w5,w6⟩:=aZ g (vl k g+d) c0 Y ed
  refine ⟨_,ϱ,_,ϱ,a,_,_,_,ϱ,ϱ,NA G,St.at2,L,_,_,_,ϱ,ϱ,Nz J,val g c0 Y,_,ϱ,a,_,_,_,ϱ,ϱ,NA G,e3,_,_,ϱ,ϱ,_,ϱ,_,ϱ,a,_,_,_,ϱ,ϱ,NA G,St.at2,L,_,g,g.toNat,ϱ,ϱ,J,w1,?_⟩
  exact ⟨L,g,_,(j:Nat),_,ϱ,w2,w3,by rw [w4,G];rfl,w5,c0,by rw [ŕ];exact Y,by rw [w6];exact ed,λy H' z=>z⟩
 .have hx:x.1=.give:=by
   have n3:=br (b:=.take) c3
   have n4:=br (b:=.mean) c4
   have n6:=br (b:=.add) c6
   cases hw:x.1<;>first | rfl | (rw [hw] at n1 O n3 n4 n5 n6;contradiction)
  have ed:Zk x t X=(t,[(g,t)]):=by
   unfold Zk
   rw [er]
   obtain ⟨wd,ns⟩:=x
   cases hx
   obtain ⟨p,b,e,_⟩:=ar.c rfl
   cases e
   cases ens
   rfl
  obtain ⟨w1,w2,w3,w4,w5,w6⟩:=aZ g t c0 Y ed
  refine ⟨_,ϱ,_,ϱ,_,ϱ,a,_,_,_,ϱ,ϱ,NA G,St.at2,L,_,g,g.toNat,ϱ,ϱ,J,w1,?_⟩
  exact ⟨L,g,_,(j:Nat),_,ϱ,w2,w3,by rw [w4,G];rfl,w5,c0,by rw [ŕ];exact Y,by rw [w6];exact ed,λy H' z=>z⟩
def TsP.set{H:Hp}{xs:î Zc}{us:î V}{i:Nat}{x:Zc}{u:V}(h:TsP H xs us)(d:tSt H x.1 x.2 u):TsP H (xs.set i x) (us.set i u):=by
 unfold TsP at *
 induction h generalizing i with
 | nil=>exact .nil
 | cons a r ih =>
  cases i with
  | zero=>exact .cons d r
  | succ i=>exact .cons a ih
inductive ug (vs:î V) (H:Hp) (Q:VK) (E:XK):Prop|mk pa p sl us xs c rs X el eu:vs=[.ref pa,.ref sl,.ref c,.ref el]->H pa=some (.tup [.int (p:Pa).1,.int p.2])->H sl=some (.lst us)->TsP H xs us->ArS xs->pG X xs->xs≠[]->xs.length<=12->Rows H c rs X->Sml X->H el=some (.lst eu)->eu.length<=900->sl∉c::rs->el∉c::rs->sl≠el->(∀xs' t H',ArS xs'->pG X xs'->xs'≠[]->xs'.length<=12->okS xs' 0 X->Rows H' c rs (aR xs' 0 X).2->H' el=some (.lst (eu++[.ref t]))->NV H' (.pact p xs' (aR xs' 0 X).1) (.ref t)->NK (sl::el::rs) H H'->Q .non H')->ug vs H Q E
structure HeI(H0 H:Hp)(sl c el hl:ø)(rs:ĉ)(X:î (ć))(eu us:î V)(xs:î Zc)(i:Nat):Prop where
 rw:Rows H c rs (aR (xs.take i) 0 X).2
 fh:H hl=some (.lst ((aR (xs.take i) 0 X).1.map V.int))
 fs:H sl=some (.lst us)
 st:TsP H xs us
 fe:H el=some (.lst eu)
 ar:ArS xs
 al:pG X xs
 ne:xs≠[]
 l12:xs.length<=12
 ok:∀j x,j<i->xs[j]?=some x->cX x (bw (aR (xs.take j) 0 X).1 0)
 kp:NK (sl::rs) H0 H
 n1:H0 hl=none
def jw{α:Type}(xs:î α)(i:Nat)(x:α):(xs.set i x).take i=xs.take i:=by
 rw [List.take_set_of_le (ι i)]
def AX(F:Fun K "_law_held" "_law_held" ik f fd)(B:TxB mg)(GD:GF P w K mg base Za 1 "_law_done" KR Av)(GT:GF P w K mg base Za 1 "_law_text" KQ xH):NH P w K mg base Za 2 f fd KU ug:=by
 refine F.oj sc__law_held λd1 A bN s H vs Q E hr h=>?_
 obtain ⟨O,p,r,us,xs,c,U,X,I,eu,rfl,W,Y,st,ar,al,ne,bm,Z,sm,av,cs,ax,aM,bt,q⟩:=h
 have nd:=sc__law_held.nd
 have hz:(1000:Nat)<=sizeLine:=by decide
 refine ⟨_,ac (sN 4 nd af) (ac (sN 5 nd (bF aO))
  (ac (eQ Ņ rfl (bD rfl B.range (Zd (aq az rfl B.len Ź (Zd (pv 1))))) (gN 6 nd)
   (ac (aC (PW.pt (ir (Zl (Zj K (bc K (pv 1) (pv 6))) aw) (fu (aJ ja (pv 4) (Zj K (bc K (pv 1) (pv 6))) (aF _))))) (au (bV (aA (Zb aw af)) (gD (pv 1) (pv 6) cL))) ao)
   (dy (u:=λD σ H1=>∃i C y7 d k x,σ=[some (.ref O),some (.ref r),some (.ref c),some (.ref I),some (.int (bw (aR (d.take i) 0 X).1 0)),some (.ref C),some (.int ((i:Nat):Int)),y7]/\HeI H H1 r c I C U X eu k d i/\d.length=xs.length/\d[i]?=some x/\cX x (bw (aR (d.take i) 0 X).1 0)/\(∀σ' H',(∃y6 y7 d k,σ'=[some (.ref O),some (.ref r),some (.ref c),some (.ref I),some (.int (bw (aR (d.take (i+1)) 0 X).1 0)),some (.ref C),y6,y7]/\HeI H H' r c I C U X eu k d (i+1)/\d.length=xs.length)->D.nx σ' H'))
    (ac (bV (pc GD hr (aj (bc K (pv 1) (pv 6)) (Zb (pv 4) (pv 2)))) (kQ rfl (aY (gN 4 nd) (aY (gN 7 nd) fy))))
    (au (bz (dg Ţ ş Ş cE (pv 5) (Zd (pv 4)))))) ?s2)))
  (au (bz (dg Ţ ş Ş cE (pv 3) (Zd (aA (aj aw (aj (pv 0) (Zb (pc GT hr (Zb aw (pv 1))) (bM fU rfl B.tuple PyProof.Rows.boot_tuple (Zd (pv 5))))))))))))),?_⟩
 .rintro D σ H1 ⟨i,C,y7,d,k,x,rfl,g,G,ex,nk,nx⟩
  obtain ⟨u,a0,tx⟩:=g.st.get1 ex
  have mx:=ž ex
  have sz:aB (aR (d.take i) 0 X).2=aB X:=jn _ _ _
  refine ⟨_,ϱ,_,ϱ,r,_,_,_,ϱ,ϱ,Nz g.fs,ay a0,_,ϱ,_,ϱ,c,U,_,x,u,_,ϱ,g.rw,(λm hm=>sm m (sz▸hm)),g.ar x mx,tx,by rw [sz];exact g.al x mx,λt ch H2 ad L d4 k2=>?_⟩
  have et:d.take (i+1)=d.take i++[x]:=by rw [Ų,ex];rfl
  have er:=mI x (d.take i) 0 X
  rw [← et] at er
  have li:=(ſ.mp ex).1
  have lr:(aR (d.take i) 0 X).1.length<=12:=by rw [mH,ŷ];have:=g.l12;lia
  have aZ:C∉c::U:=λm=>by
   have:=g.n1
   rcases ϕ.mp m with z | m
   .rw [z,Z.l] at this;cases this
   .obtain ⟨z,e⟩:=Z.at m
    cases e▸this
  have a6:=k2 _ _ (λm=>aZ (Θ _ m)) g.fh
  have a7:r∉U:=λm=>ax (Θ _ m)
  have bB:I∉U:=λm=>aM (Θ _ m)
  have bC:a9 H1 H2:=λb z e=>k2 _ _ (λm=>by
   obtain ⟨y,e'⟩:=g.rw.at m
   cases e'▸e) e
  have ab:C≠r:=λz=>by have:=g.n1;rw [z,Y] at this;cases this
  have bG:C≠I:=λz=>by have:=g.n1;rw [z,av] at this;cases this
  refine ⟨t,_,ϱ,NA L,ϱ,_,_,ϱ,_,_,ϱ,ϱ,_,ϱ,.inl ⟨ϱ,_,Nz a6⟩,_,ϱ,C,_,_,ϱ,ϱ,a6,by rw [ν];lia,nx _ _ ⟨some (.int ((i:Nat):Int)),some (.ref ch),d,k,?_,⟨?_,?_,?_,?_,?_,g.ar,g.al,g.ne,g.l12,?_,?_,g.n1⟩,G⟩⟩
  .rw [er,iX]
   rfl
  .exact er▸ad.upd aZ
  .rw [er,ż]
   exact Ny
  .exact am ab.symm▸k2 _ _ a7 g.fs
  .exact (g.st.keep bC).keep λb z e=>by
    exact am (vD e a6 (by intro z;cases z))▸e
  .exact am bG.symm▸k2 _ _ bB g.fe
  .intro j y hj ey
   rcases ŀ.mp hj with z | z
   .exact g.ok j y z ey
   .subst z
    rw [ex] at ey
    cases ey
    exact nk
  .exact rL (g.kp.trans (k2.sub λb m=>Θ _ m)) g.n1
 refine ⟨χ,λC b4=>?_⟩
 have s1:=aa (o:=.lst []) b4
 have g0:HeI H (upd H C (.lst [])) r c I C U X eu us xs 0:=⟨Z.keep s1,Ny,s1 _ _ Y,st.keep s1.ts,s1 _ _ av,ar,al,ne,bm,(λj x z=>absurd z (Ř j)),ND s1,b4⟩
 have pl:xs.length=us.length:=st.len
 refine ⟨_,ϱ,r,_,ϱ,.inl (Nz g0.fs),_,ϱ,ω,ω,?_⟩
 generalize (upd H C (.lst []))=H1 at g0 ⊢
 refine cH (n:=us.length) (λi σ H'=>∃y6 y7 d k,σ=[some (.ref O),some (.ref r),some (.ref c),some (.ref I),some (.int (bw (aR (d.take i) 0 X).1 0)),some (.ref C),y6,y7]/\HeI H H' r c I C U X eu k d i/\d.length=xs.length) ⟨none,none,xs,us,ϱ,g0,ϱ⟩ ?_ ?_
 .rintro i σ H2 hi ⟨y6,y7,d,k,rfl,g,G⟩
  have ei:(0:Int)+(i:Nat)=((i:Nat):Int):=ĕ _
  rw [ei]
  have li:i<d.length:=by lia
  obtain ⟨x,ex⟩:∃x,d[i]?=some x:=⟨_,ξ li⟩
  obtain ⟨u,a0,ta,rfl,aS⟩:=g.st.get1 ex
  have bI:=g.ar x (ž ex)
  refine ⟨_,ϱ,_,ϱ,r,_,_,_,ϱ,ϱ,Nz g.fs,ay a0,ta,_,_,_,ϱ,ϱ,NA aS,St.at0,ϱ,_,ϱ,aP (λc1=>?_) (λc1=>a8 ?_)⟩
  .have hx:x.1=.need:=cD c1
   obtain ⟨a,ea⟩:∃a,x.2=[a]:=by
    obtain ⟨wd,ns⟩:=x
    cases hx
    obtain ⟨a,e,_⟩:=bI.n
    exact ⟨a,e⟩
   have a3:=aS
   rw [ea] at a3
   refine ⟨_,ϱ,_,ϱ,_,ϱ,r,_,_,_,ϱ,ϱ,Nz g.fs,ay a0,ta,_,_,_,ϱ,ϱ,NA a3,St.at1,_,_,ϱ,ϱ,_,ϱ,aP (λc2=>?_) (λc2=>?_)⟩
   .refine ⟨χ,λt2 n2=>?_⟩
    have s2:=aa (o:=.tup [.str "plus",.int 7]) n2
    have cF:k.length=d.length:=g.st.len.symm
    refine ⟨_,ϱ,_,ϱ,r,_,_,i,ϱ,ϱ,s2 _ _ g.fs,jT ω,?_⟩
    have bL:=s2 _ _ g.fs
    have a7:r∉c::U:=ax
    have ad:=(g.rw.keep s2).upd (o:=.lst (k.set i (.ref t2))) a7
    have ku:NK [r] (upd H2 t2 (.tup [.str "plus",.int 7])) (upd (upd H2 t2 (.tup [.str "plus",.int 7])) r (.lst (k.set i (.ref t2)))):=NK.upd Ω
    have J:a9 (upd H2 t2 (.tup [.str "plus",.int 7])) (upd (upd H2 t2 (.tup [.str "plus",.int 7])) r (.lst (k.set i (.ref t2)))):=λb z e=>ku _ _ (λm=>by rw [ϵ.mp m,bL] at e;cases e) e
    have ab:C≠r:=λz=>by have:=g.n1;rw [z,Y] at this;cases this
    have i7:inV 7:=by unfold St.inV;decide +kernel
    refine ⟨i,C,y7,d.set i (.plus,[7]),k.set i (.ref t2),(.plus,[7]),?_,⟨?_,?_,Ny,?_,?_,?_,?_,?_,?_,?_,?_,g.n1⟩,?_,?_,?_,fun σ' H' z=>z⟩
    .rw [jw]
     rfl
    .rw [jw]
     exact ad
    .rw [jw]
     exact ku _ _ (λm=>ab (ϵ.mp m)) (s2 _ _ g.fh)
    .exact TsP.set ((g.st.keep s2.ts).keep J) ⟨t2,ϱ,J _ _ Ny⟩
    .exact ku _ _ (λm=>bt (ϵ.mp m).symm) (s2 _ _ g.fe)
    .intro y hy
     rcases ĵ hy with m | m
     .exact g.ar y m
     .rw [m];exact i7
    .intro y hy
     rcases ĵ hy with m | m
     .exact g.al y m
     .rw [m];rfl
    .intro z
     have:=congrArg List.length z
     rw [ŕ] at this
     simp at this
     exact g.ne (List.length_eq_zero_iff.mp (by simp [this]))
    .rw [ŕ]
     exact g.l12
    .intro j y hj ey
     rw [ŋ ω] at ey
     have e5:(d.set i (Wd.plus,[7])).take j=d.take j:=by rw [List.take_set_of_le ω]
     exact e5▸g.ok j y hj ey
    .exact λb o n e=>ku b o (λm=>n (ϵ.mp m▸Ω)) (s2 _ _ (g.kp b o n e))
    .rw [ŕ]
     exact G
    .rw [š li]
    .exact λz=>by cases z
   .refine ⟨i,C,y7,d,k,x,ϱ,g,G,ex,λ_ b eb=>?_,fun σ' H' z=>z⟩
    rw [ea] at eb
    cases eb
    have z:¬bw (aR (d.take i) 0 X).1 0<a:=λz=>c2 (τ z)
    lia
  .exact ⟨i,C,y7,d,k,x,ϱ,g,G,ex,λz=>absurd z (br (b:=.need) c1),fun σ' H' z=>z⟩
 .rintro σ H2 ⟨y6,y7,d,k,rfl,g,G⟩
  have e0:d.take us.length=d:=by rw [← pl,← G];exact Ū
  have b1:=g.rw
  have b2:=g.fh
  rw [e0] at b1 b2
  have b3:H2 O=some (.tup [.int p.1,.int p.2]):=g.kp _ _ (λm=>by
   rcases ϕ.mp m with z | m
   .rw [z,Y] at W;cases W
   .obtain ⟨y,e⟩:=Z.at m
    cases e▸W) W
  refine ⟨_,ϱ,.inl ⟨ϱ,_,Nz g.fe⟩,_,ϱ,_,ϱ,false,r,k,d,ϱ,g.fs,g.st,g.ar,g.l12,λH3 s3=>?_⟩
  refine ⟨_,ϱ,C,_,ϱ,.inl ⟨Nz (s3 _ _ b2),λL bS=>⟨χ,λt nt=>?_⟩⟩⟩
  have s4:=aa (o:=.tup ((aR d 0 X).1.map V.int)) bS
  have s5:=aa (o:=.tup [.str "pact",.ref O,.str (Zf (mS false) d),.ref L]) nt
  have ss:=s3.trans (s4.trans s5)
  have a4:=ss _ _ g.fe
  refine ⟨I,_,_,ϱ,ϱ,a4,ω,?_⟩
  have ku:NK [I] (upd (upd H3 L (.tup ((aR d 0 X).1.map V.int))) t (.tup [.str "pact",.ref O,.str (Zf (mS false) d),.ref L])) (upd (upd (upd H3 L (.tup ((aR d 0 X).1.map V.int))) t (.tup [.str "pact",.ref O,.str (Zf (mS false) d),.ref L])) I (.lst (eu++[.ref t]))):=NK.upd Ω
  have J:a9 (upd (upd H3 L (.tup ((aR d 0 X).1.map V.int))) t (.tup [.str "pact",.ref O,.str (Zf (mS false) d),.ref L])) (upd (upd (upd H3 L (.tup ((aR d 0 X).1.map V.int))) t (.tup [.str "pact",.ref O,.str (Zf (mS false) d),.ref L])) I (.lst (eu++[.ref t]))):=λb z e=>ku _ _ (λm=>by rw [ϵ.mp m,a4] at e;cases e) e
  refine q d t _ g.ar g.al g.ne g.l12 (λj y ey=>g.ok j y (by have:=(ſ.mp ey).1;lia) ey) ((b1.keep ss).upd aM) Ny ⟨t,O,_,ϱ,J _ _ Ny,J _ _ (ss _ _ b3),L,ϱ,J _ _ (s5 _ _ Ny)⟩ ?_
  intro b o n e
  refine ku b o (λm=>n (ϵ.mp m▸Θ _ Ω)) (ss _ _ (g.kp b o (λm=>n ?_) e))
  rcases ϕ.mp m with z | m
  .rw [z];exact Ω
  .exact Θ _ (Θ _ m)
structure Way where
 w:ø
 pa:ø
 sl:ø
 al:ø
 p:Pa
 xs:î Zc
 at_:Nat
 hand:Int
 ats:Ć
 u:Bool
abbrev wO(y:Way)(k:Nat)(h:Int):HO:=.lst [.ref y.pa,.ref y.sl,.int (((k:Nat):Int)+1),.int h,.ref y.al,.bl y.u]
def nI(ns:Ć):î V:=ns.map λn=>V.int ((n:Nat):Int)
structure WayA(H:Hp)(y:Way):Prop where
 fw:H y.w=some (.lst [.ref y.pa,.ref y.sl,.int ((y.at_:Nat):Int),.int y.hand,.ref y.al,.bl y.u])
 fp:H y.pa=some (.tup [.int y.p.1,.int y.p.2])
 fs:∃us,H y.sl=some (.lst us)/\TsP H y.xs us
 fa:H y.al=some (.lst (nI y.ats))
def WayA.fr{H H':Hp}{S:ĉ}{y:Way}(h:WayA H y)(k:NK S H H')(t:a9 H H')(n1:y.w∉S)(n2:y.sl∉S)(n3:y.al∉S):WayA H' y :=
 ⟨k _ _ n1 h.fw,t _ _ h.fp,let ⟨us,e,z⟩:=h.fs;⟨us,k _ _ n2 e,z.keep t⟩,k _ _ n3 h.fa⟩
def gn{H H':Hp}{S:ĉ}(k:NK S H H')(n:∀b∈S,∃us,H b=some (.lst us)):a9 H H':=λb xs e=>k _ _ (λm=>by
 obtain ⟨us,z⟩:=n b m
 cases z▸e) e
def gY{H H':Hp}{a:ø}{us:î V}(k:NK [a] H H')(e:H a=some (.lst us)):a9 H H':=λb xs z=>k _ _ (λm=>by
 rw [ϵ.mp m,e] at z;cases z) z
def cQ{H:Hp}{c:ø}{rs:ĉ}{X:î (ć)}(r:Rows H c rs X):∀b∈rs,∃us,H b=some (.lst us):=λb m=>let ⟨xs,e⟩:=r.at m;⟨_,e⟩
structure WkP(xs:î Zc)(st:Nat)(h0:Int)(X:î (ć))(k:Nat)(m:Int):Prop where
 le:st<=k
 lx:k<=xs.length
 ho:∀i y,st<=i->i<k->xs[i]?=some y->aI y.1 y.2=.non
 ok:okS ((xs.drop st).take (k-st)) h0 X
 em:bw (aR ((xs.drop st).take (k-st)) h0 X).1 h0=m
 ex:(aR ((xs.drop st).take (k-st)) h0 X).2=X
def WkP.next{xs:î Zc}{st k:Nat}{h0 m:Int}{X:î (ć)}{x:Zc}(h:WkP xs st h0 X k m)(e:xs[k]?=some x)(j:Ar x.1 x.2)(hx:aI x.1 x.2=.non)(F:cX x m):WkP xs st h0 X (k+1) (Zk x m X).1/\ce x (Zk x m X).2 X=X:=by
 have H:=(ſ.mp e).1
 have I:=h.le
 have l:(xs.drop st).take (k+1-st)=(xs.drop st).take (k-st)++[x]:=by
  have w:k+1-st=(k-st)+1:=by lia
  rw [w,Ų,Ĩ]
  have C:st+(k-st)=k:=by lia
  rw [C,e]
  rfl
 have g:=mI x ((xs.drop st).take (k-st)) h0 X
 rw [← l,h.em,h.ex] at g
 have o:(Zk x m X).2=[]:=by
  obtain ⟨wd,G⟩:=x
  have:wd=.plus\/wd=.need:=by
   by_cases h1:wd=.plus
   .exact .inl h1
   by_cases f:wd=.need
   .exact .inr f
   obtain ⟨z,r,_,u⟩:=j.home h1 f
   rw [u] at hx
   cases hx
  rcases this with rfl | rfl
  .obtain ⟨a,rfl,_⟩:=j.p
   rfl
  .obtain ⟨a,rfl,_⟩:=j.n
   rfl
 refine ⟨⟨ω,ω,λi y h1 f d=>?_,λi y d=>?_,by rw [g,iX],by rw [g,o];rfl⟩,by rw [o];rfl⟩
 .rcases ŀ.mp f with z | z
  .exact h.ho i y h1 z d
  .rw [z,e] at d
   cases d
   exact hx
 .rw [l] at d ⊢
  have q:((xs.drop st).take (k-st)).length=k-st:=by rw [ŷ,Ś];lia
  by_cases hi:i<k-st
  .rw [Ŕ ω] at d
   rw [List.take_append_of_le_length ω]
   exact h.ok i y d
  .have t:=(ſ.mp d).1
   rw [Ž,q] at t
   have:i=k-st:=by simp at t;lia
   subst this
   rw [ū ω,q,ĺ] at d
   cases d
   have D:((xs.drop st).take (k-st)).take (k-st)=(xs.drop st).take (k-st):=List.take_of_length_le ω
   rw [List.take_append_of_le_length ω,D,h.em]
   exact F
def uY{x:Zc}(d:Ar x.1 x.2):x.2.length=1↔aI x.1 x.2=.non:=by
 obtain ⟨wd,e⟩:=x
 cases wd with
 | take=>obtain ⟨a,b,rfl,_⟩:=d.c rfl;exact ⟨λz=>(by cases z),λz=>(by cases z)⟩
 | mean=>obtain ⟨a,b,rfl,_⟩:=d.c rfl;exact ⟨λz=>(by cases z),λz=>(by cases z)⟩
 | give=>obtain ⟨a,b,rfl,_⟩:=d.c rfl;exact ⟨λz=>(by cases z),λz=>(by cases z)⟩
 | add=>obtain ⟨a,b,c,rfl,_⟩:=d.a;exact ⟨λz=>(by cases z),λz=>(by cases z)⟩
 | sum=>obtain ⟨a,b,c,rfl,_⟩:=d.s;exact ⟨λz=>(by cases z),λz=>(by cases z)⟩
 | plus=>obtain ⟨a,rfl,_⟩:=d.p;exact ⟨λ_=>rfl,λ_=>rfl⟩
 | need=>obtain ⟨a,rfl,_⟩:=d.n;exact ⟨λ_=>rfl,λ_=>rfl⟩
def FW(xs:î Zc)(st:Nat)(h0:Int)(X:î (ć))(k:Nat)(cs:î (Int×Int))(h:Int)(X':î (ć)):Prop:=jv xs st k/\okS ((xs.drop st).take (k-st)) h0 X /\
 ∃x,xs[k]?=some x/\Zk x (bw (aR ((xs.drop st).take (k-st)) h0 X).1 h0) (aR ((xs.drop st).take (k-st)) h0 X).2=(h,cs)/\X'=ce x cs (aR ((xs.drop st).take (k-st)) h0 X).2
def Dj(y:Way)(el c:ø)(rs:ĉ):Prop:=(y.w::y.sl::y.al::el::c::rs).Nodup
inductive t7 (vs:î V) (H:Hp) (Q:VK) (E:XK):Prop|mk y c rs X el eu:vs=[.ref (y:Way).w,.ref c,.ref el]->WayA H y->Rows H c rs X->Sml X->H el=some (.lst eu)->eu.length<=900->y.ats.length<=900->Dj y el c rs->ArS y.xs->pG X y.xs->y.xs.length<=12->y.at_<=y.xs.length->((∀H',Rows H' c rs X->NK rs H H'->Q .non H'))->(∀k cs h X' t H',FW y.xs y.at_ y.hand X k cs h X'->Rows H' c rs X'->H' el=some (.lst (eu++[.ref t]))->NV H' (.step y.p y.xs k cs h) (.ref t)->WayA H' {y with at_:=k+1,hand:=h,ats:=y.ats++[k]}->NK (y.w::y.al::el::rs) H H'->Q .non H')->t7 vs H Q E
def AJ(F:Fun K "_law_walk" "_law_walk" hZ f fd)(B:TxB mg)(GD:GF P w K mg base Za 1 "_law_done" KR Av)(GT:GF P w K mg base Za 1 "_law_text" KQ xH):NH P w K mg base Za 2 f fd GJ t7:=by
 refine F.oj sc__law_walk λeL A d0 s H vs Q E hr h=>?_
 obtain ⟨y,c,q,X,G,eu,rfl,wa,Z,sm,bT,ed,ds,dj,ar,al,c0,c5,q1,q2⟩:=h
 have nd:=sc__law_walk.nd
 have hz:(1000:Nat)<=sizeLine:=by decide
 obtain ⟨us,a0,st⟩:=wa.fs
 have pl:y.xs.length=us.length:=st.len
 unfold Dj at dj
 simp only [List.nodup_cons,List.mem_cons,not_or] at dj
 obtain ⟨⟨d1,d2,d3,d4,d5⟩,⟨d6,d7,d8,d9⟩,⟨b1,cc,b2⟩,⟨cd,b3⟩,ei,ej⟩:=dj
 refine ⟨_,ac (bV (aL dY (pv 0) ba (aN af)) (vq rfl (aY (gN 3 nd) (aY (gN 4 nd) (aY (gN 5 nd) (aY (gN 6 nd) fy))))))
  (ac (sD Ņ (PW.pt (ir (aJ ja (pv 5) (aq az rfl B.len Ź (Zd (pv 4))) (aF _)) (fu (Zl (aq az rfl B.len Ź (Zd (bc K (pv 4) (pv 5)))) af))))
   (ac (aC (PW.pt (ir (Zl (Zj K (bc K (pv 4) (pv 5))) aw) (fu (aJ ja (pv 6) (Zj K (bc K (pv 4) (pv 5))) (aF _))))) (au vo) ao)
   (dy (u:=λD σ H1=>∃k m y7 x,σ=[some (.ref y.w),some (.ref c),some (.ref G),some (.ref y.pa),some (.ref y.sl),some (.int ((k:Nat):Int)),some (.int m),y7]/\Rows H1 c q X/\NK q H H1/\WkP y.xs y.at_ y.hand X k m/\y.xs[k]?=some x/\aI x.1 x.2=.non/\cX x m/\(∀Y l,(∃m' y7,Y=[some (.ref y.w),some (.ref c),some (.ref G),some (.ref y.pa),some (.ref y.sl),some (.int ((k+1:Nat):Int)),some (.int m'),y7]/\Rows l c q X/\NK q H l/\WkP y.xs y.at_ y.hand X (k+1) m')->D.nx Y l))
    (ac (bV (pc GD hr (aj (bc K (pv 4) (pv 5)) (Zb (pv 6) (pv 1)))) (kQ rfl (aY (gN 6 nd) (aY (gN 7 nd) fy))))
    (au (sN 5 nd (ai aU (pv 5) af)))) ?s1)))
  (dy (u:=λD σ H1=>∃k m y7,σ=[some (.ref y.w),some (.ref c),some (.ref G),some (.ref y.pa),some (.ref y.sl),some (.int ((k:Nat):Int)),some (.int m),y7]/\Rows H1 c q X/\NK q H H1/\WkP y.xs y.at_ y.hand X k m/\(∀x,y.xs[k]?=some x->aI x.1 x.2≠.non)/\∀Y l,Q .non l->D.nx Y l)
   (au (aC (aJ ja (pv 5) (aq az rfl B.len Ź (Zd (pv 4))) (aF _))
    (ac (bV (pc GD hr (aj (bc K (pv 4) (pv 5)) (Zb (pv 6) (pv 1)))) (kQ rfl (aY (gN 6 nd) (aY (gN 7 nd) fy))))
    (ac (bz (dg Ţ ş Ş cE (pv 2) (Zd (aA (aj aw (aj (pv 3) (aj (pc GT hr (Zb aw (pv 4))) (aj (pv 5) (Zb (pv 7) (pv 6))))))))))
    (ac (bV (ai aU (pv 5) af) (gD (pv 0) af cL))
    (ac (bV (pv 6) (gD (pv 0) af cL))
    (au (bz (dg Ţ ş Ş cE (ixL K (pv 0)) (Zd (pv 5)))))))))
    ao)) ?s2)),?_⟩
 .rintro D σ H1 ⟨k,m,y7,x,rfl,g,k1,I,ex,hx,nk,nx⟩
  obtain ⟨u,r,tx⟩:=st.get1 ex
  have mx:=ž ex
  have C:=gn k1 (cQ Z)
  obtain ⟨cf,ep⟩:=I.next ex (ar x mx) hx nk
  refine ⟨_,ϱ,_,ϱ,y.sl,_,_,_,ϱ,ϱ,Nz (k1 _ _ d9 a0),ay r,_,ϱ,_,ϱ,c,q,X,x,u,m,ϱ,g,sm,ar x mx,ng C tx,al x mx,λt ch H2 a1 ht bG k2=>?_⟩
  rw [ep] at a1
  refine ⟨t,_,ϱ,NA ht,ϱ,_,_,ϱ,_,_,ϱ,ϱ,_,ϱ,_,_,ϱ,ϱ,nx _ _ ⟨(Zk x m X).1,some (.ref ch),?_,a1,k1.trans k2,cf⟩⟩
  have e1:((k+1:Nat):Int)=((k:Nat):Int)+1:=by lia
  rw [e1]
  rfl
 .rintro D σ H1 ⟨k,m,y7,rfl,g,k1,I,hh,nx⟩
  have d:=k1 _ _ d9 a0
  have C:=gn k1 (cQ Z)
  refine ⟨_,ϱ,_,ϱ,y.sl,_,ϱ,.inl (Nz d),_,_,ϱ,ϱ,_,ϱ,aP (λc1=>?_) (λc1=>nx _ _ (q1 H1 g k1))⟩
  have lk:k<y.xs.length:=by have z:=Ξ c1;lia
  obtain ⟨x,ex⟩:∃x,y.xs[k]?=some x:=⟨_,ξ lk⟩
  obtain ⟨u,r,tx⟩:=st.get1 ex
  have mx:=ž ex
  refine ⟨_,ϱ,_,ϱ,y.sl,_,_,_,ϱ,ϱ,Nz d,ay r,_,ϱ,_,ϱ,c,q,X,x,u,m,ϱ,g,sm,ar x mx,ng C tx,al x mx,λt ch H2 a1 ht bG k2=>?_⟩
  have J:=k1.trans k2
  have b5:=gn k2 (cQ g)
  have a2:=J _ _ d9 a0
  have L:=J _ _ b3 bT
  have b6:=(st.keep C).keep b5
  refine ⟨t,_,ϱ,NA ht,ϱ,_,_,ϱ,_,_,ϱ,ϱ,_,ϱ,.inl ⟨ϱ,_,Nz L⟩,_,ϱ,_,ϱ,true,y.sl,us,y.xs,ϱ,a2,b6,ar,c0,λH3 s3=>⟨_,ϱ,_,ϱ,_,ϱ,χ,λW n6=>?_⟩⟩
  obtain ⟨en,ad⟩:∃en,HO.tup [.str "step",.ref y.pa,.str (Zf (mS true) y.xs),.int ((k:Nat):Int),.ref ch,.int (Zk x m X).1]=en:=⟨_,ϱ⟩
  have s4:=aa (o:=en) n6
  have e6:(upd H3 W en) W=some en:=Ny
  have O:=s3.trans s4
  refine ⟨G,eu,_,ϱ,ϱ,?_,ω,?_⟩
  .exact ad▸O _ _ L
  rw [ad]
  generalize upd H3 W en=H4 at s4 O e6 ⊢
  have bi:=O _ _ L
  have k5:NK [G] H4 (upd H4 G (.lst (eu++[.ref W]))):=NK.upd Ω
  have bm:a9 H4 (upd H4 G (.lst (eu++[.ref W]))):=gY k5 bi
  have e5:(upd H4 G (.lst (eu++[.ref W]))) G=some (.lst (eu++[.ref W])):=Ny
  have bt:Rows (upd H4 G (.lst (eu++[.ref W]))) c q (ce x (Zk x m X).2 X):=(a1.keep O).upd (λm=>(ϕ.mp m).elim cd b3)
  generalize upd H4 G (.lst (eu++[.ref W]))=H5 at k5 bm e5 bt ⊢
  have w5:H5 y.w=some (.lst [.ref y.pa,.ref y.sl,.int ((y.at_:Nat):Int),.int y.hand,.ref y.al,.bl y.u]):=k5 _ _ (λm=>d3 (ϵ.mp m)) (O _ _ (J _ _ d5 wa.fw))
  have a5:H5 y.al=some (.lst (nI y.ats)):=k5 _ _ (λm=>b1 (ϵ.mp m)) (O _ _ (J _ _ b2 wa.fa))
  have l5:H5 y.sl=some (.lst us):=k5 _ _ (λm=>d7 (ϵ.mp m)) (O _ _ a2)
  refine ⟨_,ϱ,_,_,ϱ,ϱ,_,ϱ,y.w,_,_,2,ϱ,ϱ,w5,ϱ,?_⟩
  have k6:NK [y.w] H5 (upd H5 y.w (wO y k y.hand)):=NK.upd Ω
  have cs:a9 H5 (upd H5 y.w (wO y k y.hand)):=gY k6 w5
  have w6:(upd H5 y.w (wO y k y.hand)) y.w=some (wO y k y.hand):=Ny
  have ct:Rows (upd H5 y.w (wO y k y.hand)) c q (ce x (Zk x m X).2 X):=bt.upd (λm=>(ϕ.mp m).elim d4 d5)
  refine ⟨_,ϱ,_,ϱ,y.w,_,_,3,ϱ,ϱ,w6,ϱ,?_⟩
  have a6:=k6 _ _ (λm=>d2 (ϵ.mp m).symm) a5
  have l6:=k6 _ _ (λm=>d1 (ϵ.mp m).symm) l5
  have cv:=k6 _ _ (λm=>d3 (ϵ.mp m).symm) e5
  have k7:NK [y.w] (upd H5 y.w (wO y k y.hand)) (upd (upd H5 y.w (wO y k y.hand)) y.w (wO y k (Zk x m X).1)):=NK.upd Ω
  have cx:a9 (upd H5 y.w (wO y k y.hand)) (upd (upd H5 y.w (wO y k y.hand)) y.w (wO y k (Zk x m X).1)):=gY k7 w6
  have w7:(upd (upd H5 y.w (wO y k y.hand)) y.w (wO y k (Zk x m X).1)) y.w=some (wO y k (Zk x m X).1):=Ny
  have cz:Rows (upd (upd H5 y.w (wO y k y.hand)) y.w (wO y k (Zk x m X).1)) c q (ce x (Zk x m X).2 X):=ct.upd (λm=>(ϕ.mp m).elim d4 d5)
  have a7:=k7 _ _ (λm=>d2 (ϵ.mp m).symm) a6
  have l7:=k7 _ _ (λm=>d1 (ϵ.mp m).symm) l6
  have e7:=k7 _ _ (λm=>d3 (ϵ.mp m).symm) cv
  refine ⟨_,ϱ,y.w,_,_,_,ϱ,ϱ,Nz w7,at4,.inl ⟨ϱ,_,Nz a7⟩,_,ϱ,y.al,_,_,ϱ,ϱ,a7,by unfold nI;rw [List.length_map];lia,?_⟩
  have k8:NK [y.al] (upd (upd H5 y.w (wO y k y.hand)) y.w (wO y k (Zk x m X).1)) (upd (upd (upd H5 y.w (wO y k y.hand)) y.w (wO y k (Zk x m X).1)) y.al (.lst (nI y.ats++[.int ((k:Nat):Int)]))):=NK.upd Ω
  have cM:a9 (upd (upd H5 y.w (wO y k y.hand)) y.w (wO y k (Zk x m X).1)) (upd (upd (upd H5 y.w (wO y k y.hand)) y.w (wO y k (Zk x m X).1)) y.al (.lst (nI y.ats++[.int ((k:Nat):Int)]))):=gY k8 a7
  have j:a9 H4 (upd (upd (upd H5 y.w (wO y k y.hand)) y.w (wO y k (Zk x m X).1)) y.al (.lst (nI y.ats++[.int ((k:Nat):Int)]))):=λb z e=>cM _ _ (cx _ _ (cs _ _ (bm _ _ e)))
  have a3:a9 H H4:=λb z e=>O.ts _ _ (b5 _ _ (C _ _ e))
  have fw:FW y.xs y.at_ y.hand X k (Zk x m X).2 (Zk x m X).1 (ce x (Zk x m X).2 X):=⟨⟨I.le,I.ho,x,ex,hh x ex⟩,I.ok,x,ex,by rw [I.em,I.ex],by rw [I.ex]⟩
  refine nx _ _ (q2 k _ _ _ W _ fw (cz.upd (λm=>(ϕ.mp m).elim cc b2)) (k8 _ _ (λm=>b1 (ϵ.mp m).symm) e7) ⟨W,y.pa,_,ϱ,j _ _ (by rw [e6,← ad];rfl),j _ _ (a3 _ _ wa.fp),ch,ϱ,(bG.keep O.ts).keep j⟩ ⟨?_,j _ _ (a3 _ _ wa.fp),⟨us,k8 _ _ (λm=>d6 (ϵ.mp m)) l7,(b6.keep O.ts).keep j⟩,?_⟩ ?_)
  .have e1:(((k+1:Nat)):Int)=((k:Nat):Int)+1:=by lia
   show _=some (HO.lst [.ref y.pa,.ref y.sl,.int ((k+1:Nat):Int),.int (Zk x m X).1,.ref y.al,.bl y.u])
   rw [e1]
   exact k8 _ _ (λm=>d2 (ϵ.mp m)) w7
  .show _=some (HO.lst (nI (y.ats++[k])))
   rw [Ny]
   unfold nI
   rw [ż]
   rfl
  .intro b o n e
   simp only [List.mem_cons,not_or] at n
   obtain ⟨n1,n2,n3,n4⟩:=n
   exact k8 _ _ (λm=>n2 (ϵ.mp m)) (k7 _ _ (λm=>n1 (ϵ.mp m)) (k6 _ _ (λm=>n1 (ϵ.mp m)) (k5 _ _ (λm=>n3 (ϵ.mp m)) (O _ _ (J _ _ n4 e)))))
 refine ⟨_,ϱ,_,ϱ,y.w,_,ϱ,Nz wa.fw,λcl di=>?_⟩
 have s1:=aa (o:=.lst [.ref y.pa,.ref y.sl,.int ((y.at_:Nat):Int),.int y.hand]) di
 refine ⟨cl,[.ref y.pa,.ref y.sl,.int ((y.at_:Nat):Int),.int y.hand],ϱ,Nz (by rw [Ny];rfl),ϱ,_,_,ϱ,_,_,ϱ,_,_,ϱ,_,_,ϱ,ϱ,?_⟩
 have w0:WkP y.xs y.at_ y.hand X y.at_ y.hand:=⟨ι _,c5,(λi z h1 h2=>absurd h2 ω),(λi z ez=>by rw [ĺ,List.take_zero] at ez;cases ez),by rw [ĺ,List.take_zero];rfl,by rw [ĺ,List.take_zero];rfl⟩
 refine ⟨λn σ l=>∃k m y7,σ=[some (.ref y.w),some (.ref c),some (.ref G),some (.ref y.pa),some (.ref y.sl),some (.int ((k:Nat):Int)),some (.int m),y7]/\Rows l c q X/\NK q H l/\WkP y.xs y.at_ y.hand X k m/\n=y.xs.length-k,⟨_,y.at_,y.hand,none,ϱ,Z.keep s1,ND s1,w0,ϱ⟩,?_⟩
 rintro n σ H1 ⟨k,m,y7,rfl,g,k1,I,rfl⟩
 have d:=k1 _ _ d9 a0
 have C:=gn k1 (cQ Z)
 refine ⟨_,ϱ,_,ϱ,y.sl,_,ϱ,.inl (Nz d),_,_,ϱ,ϱ,_,ϱ,aP (λc1=>?_) (λc1=>a8 ⟨k,m,y7,ϱ,g,k1,I,λx ex=>?_,fun Y l z=>z⟩)⟩
 .have lk:k<y.xs.length:=by have z:=Ξ c1;lia
  obtain ⟨x,ex⟩:∃x,y.xs[k]?=some x:=⟨_,ξ lk⟩
  obtain ⟨u,r,ta,rfl,co⟩:=st.get1 ex
  have U:=C _ _ co
  have ah:=ar x (ž ex)
  have l2:((V.str (wS x.1)::x.2.map V.int).length:Nat)=x.2.length+1:=by rw [Ŷ,ν]
  refine ⟨_,ϱ,_,ϱ,y.sl,_,_,_,ϱ,ϱ,Nz d,ay r,ta,_,ϱ,.inr (NA U),ϱ,_,ϱ,?_⟩
  by_cases hx:aI x.1 x.2=.non
  .have e2:x.2.length=1:=(uY ah).mpr hx
   refine aP (λ_=>?_) (λc2=>absurd (τ (congrArg V.int (by rw [l2,e2];rfl))) c2)
   refine ⟨fun Y l=>∃m' y7,Y=[some (.ref y.w),some (.ref c),some (.ref G),some (.ref y.pa),some (.ref y.sl),some (.int ((k+1:Nat):Int)),some (.int m'),y7]/\Rows l c q X/\NK q H l/\WkP y.xs y.at_ y.hand X (k+1) m',fun Y l ⟨m',y7,e1,e2,e3,e4⟩=>⟨y.xs.length-(k+1),ω,k+1,m',y7,e1,e2,e3,e4,ϱ⟩,?_⟩
   refine ⟨_,ϱ,_,ϱ,y.sl,_,_,_,ϱ,ϱ,Nz d,ay r,ta,_,_,_,ϱ,ϱ,NA U,St.at0,ϱ,_,ϱ,aP (λc3=>?_) (λc3=>a8 ?_)⟩
   .have cZ:x.1=.need:=cD c3
    obtain ⟨a,ea⟩:∃a,x.2=[a]:=by
     obtain ⟨wd,ns⟩:=x
     cases cZ
     obtain ⟨a,e,_⟩:=ah.n
     exact ⟨a,e⟩
    have a4:=U
    rw [ea] at a4
    refine ⟨_,ϱ,_,ϱ,_,ϱ,y.sl,_,_,_,ϱ,ϱ,Nz d,ay r,ta,_,_,_,ϱ,ϱ,NA a4,St.at1,_,_,ϱ,ϱ,_,ϱ,aP (λc4=>q1 H1 g k1) (λc4=>?_)⟩
    refine ⟨k,m,y7,x,ϱ,g,k1,I,ex,hx,λ_ b eb=>?_,fun Y l z=>z⟩
    rw [ea] at eb
    cases eb
    have z:¬m<a:=λz=>c4 (τ z)
    lia
   .exact ⟨k,m,y7,x,ϱ,g,k1,I,ex,hx,λz=>absurd z (br (b:=.need) c3),fun Y l z=>z⟩
  .have e2:x.2.length≠1:=λz=>hx ((uY ah).mp z)
   refine aP (λc2=>absurd (V.int.inj (Ξ c2)) (by rw [l2];lia)) (λ_=>⟨k,m,y7,ϱ,g,k1,I,λx' bI=>?_,fun Y l z=>z⟩)
   rw [ex] at bI
   cases bI
   exact hx
 .have z:¬((k:Nat):Int)<((us.length:Nat):Int):=λz=>c1 (τ z)
  have:=(ſ.mp ex).1
  lia
inductive Cc (vs:î V) (H:Hp) (Q:VK) (E:XK):Prop|mk y c rs X el eu:vs=[.ref (y:Way).w,.ref c,.ref el]->WayA H y->Rows H c rs X->Sml X->H el=some (.lst eu)->eu.length<=900->y.ats.length<=900->Dj y el c rs->ArS y.xs->pG X y.xs->y.xs.length<=12->((∀j∈y.ats,∃x,y.xs[j]?=some x/\aI x.1 x.2≠.non))->((∀H',NI H H'->Q .non H'))->(∀r k x t H',y.ats=r++[k]->(∀j∈y.ats,∃x,y.xs[j]?=some x/\x.1≠.give)->y.xs[k]?=some x->Rows H' c rs (ce x (bkS x X) X)->H' el=some (.lst (eu++[.ref t]))->NV H' (.undo y.p y.xs k (bkS x X)) (.ref t)->WayA H' {y with ats:=r,u:=true}->NK (y.w::y.al::el::rs) H H'->Q .non H')->Cc vs H Q E
def Em(F:Fun K "_law_back" "_law_back" db f fd)(B:TxB mg)(GT:GF P w K mg base Za 1 "_law_text" KQ xH):NH P w K mg base Za 2 f fd GJ Cc:=by
 refine F.oj sc__law_back λgy A e7 s H vs Q E hr h=>?_
 obtain ⟨y,c,rs,X,L,eu,rfl,wa,bm,sm,dx,fx,eq,dj,ar,al,dz,ak,q1,q2⟩:=h
 have nd:=sc__law_back.nd
 have hz:(1000:Nat)<=sizeLine:=by decide
 obtain ⟨us,b0,st⟩:=wa.fs
 have pl:y.xs.length=us.length:=st.len
 unfold Dj at dj
 simp only [List.nodup_cons,List.mem_cons,not_or] at dj
 obtain ⟨⟨d1,d2,d3,d4,d5⟩,⟨d6,d7,d8,d9⟩,⟨bA,dA,bB⟩,⟨dB,bC⟩,fP,fS⟩:=dj
 refine ⟨_,ac (bV (aL dY (pv 0) ba (aN af)) (vq rfl (aY (gN 3 nd) (aY (gN 4 nd) fy))))
  (ac (aC (PW.pt (cU (aJ (sH (Ĝ (Dh hr))) (ixL K (pv 0)) (bF aO) (aF _)) (cR (aJ (yu (Ĝ (Dh hr))) (fz oi rfl (cg (ixL K (pv 0))) (λ_ _ _ _=>rC (Zl (Zj K (bc K (pv 1) (pv 0))) aw)) (λ_ _ _ _=>pv 0)) (bF aO) (aF _))))) (au vo) ao)
  (dy (u:=λD σ H1=>∃r k x,σ=[some (.ref y.w),some (.ref c),some (.ref L),some (.ref y.pa),some (.ref y.sl),none,none,none]/\NI H H1/\y.ats=r++[k]/\(∀j∈y.ats,∃x,y.xs[j]?=some x/\x.1≠.give)/\y.xs[k]?=some x/\aI x.1 x.2≠.non/\∀σ' Z,Q .non Z->D.nx σ' Z)
  (ac (sN 5 nd (yq Ţ PySem.F.slot_list_pop PySem.F.type_list_pop C9 (ixL K (pv 0))))
  (ac (sN 6 nd (aA aO))
  (ac (aC (Zl (Zj K (bc K (pv 4) (pv 5))) aw)
   (ac (sN 7 nd (bc K (pv 1) (Zj K (bc K (pv 4) (pv 5)))))
   (ac (bV (ai iz (bc K (pv 7) (Zj K (bc K (pv 4) (pv 5)))) (Zj K (bc K (pv 4) (pv 5)))) (gD (pv 7) (Zj K (bc K (pv 4) (pv 5))) cL))
   (au (sN 6 nd (aA (Zd (aA (Zb (Zj K (bc K (pv 4) (pv 5))) (bc K (pv 7) (Zj K (bc K (pv 4) (pv 5)))))))))))) ao)
  (dy (u:=λD σ H1=>∃r k x ch y7,σ=[some (.ref y.w),some (.ref c),some (.ref L),some (.ref y.pa),some (.ref y.sl),some (.int ((k:Nat):Int)),some (.ref ch),y7]/\y.ats=r++[k]/\(∀j∈y.ats,∃x,y.xs[j]?=some x/\x.1≠.give)/\y.xs[k]?=some x/\Rows H1 c rs (ce x (bkS x X) X)/\NK (y.al::rs) H H1/\H1 y.al=some (.lst (nI r))/\ChT H1 (bkS x X) ch/\∀σ' Z,Q .non Z->D.nx σ' Z)
   (ac (bz (dg Ţ ş Ş cE (pv 2) (Zd (aA (aj aw (aj (pv 3) (aj (pc GT hr (Zb aw (pv 4))) (Zb (pv 5) (pv 6)))))))))
   (au (bV eS (gD (pv 0) af cL)))) ?s2)))) ?s1)),?_⟩
 .rintro D σ H1 ⟨r,k,x,ch,y7,rfl,ea,hg,ex,ef,k1,a1,ei,nx⟩
  have bL:a9 H H1:=gn k1 (λb m=>(ϕ.mp m).elim (λe=>⟨_,e▸wa.fa⟩) (cQ bm b))
  have J:=k1 _ _ (λm=>(ϕ.mp m).elim d6 d9) b0
  have O:=k1 _ _ (λm=>(ϕ.mp m).elim (λe=>bA e.symm) bC) dx
  have w1:=k1 _ _ (λm=>(ϕ.mp m).elim d2 d5) wa.fw
  refine ⟨_,ϱ,.inl ⟨ϱ,_,Nz O⟩,_,ϱ,_,ϱ,true,y.sl,us,y.xs,ϱ,J,st.keep bL,ar,dz,λH3 s3=>⟨_,ϱ,_,ϱ,χ,λY n6=>?_⟩⟩
  obtain ⟨en,b1⟩:∃en,HO.tup [.str "undo",.ref y.pa,.str (Zf (mS true) y.xs),.int ((k:Nat):Int),.ref ch]=en:=⟨_,ϱ⟩
  have s4:=aa (o:=en) n6
  have e6:(upd H3 Y en) Y=some en:=Ny
  have ss:=s3.trans s4
  refine ⟨L,eu,_,ϱ,ϱ,?_,ω,?_⟩
  .exact b1▸ss _ _ O
  rw [b1]
  generalize upd H3 Y en=H4 at s4 ss e6 ⊢
  have bN:=ss _ _ O
  have k5:NK [L] H4 (upd H4 L (.lst (eu++[.ref Y]))):=NK.upd Ω
  have bP:a9 H4 (upd H4 L (.lst (eu++[.ref Y]))):=gY k5 bN
  have e5:(upd H4 L (.lst (eu++[.ref Y]))) L=some (.lst (eu++[.ref Y])):=Ny
  have bT:Rows (upd H4 L (.lst (eu++[.ref Y]))) c rs (ce x (bkS x X) X):=(ef.keep ss).upd (λm=>(ϕ.mp m).elim dB bC)
  generalize upd H4 L (.lst (eu++[.ref Y]))=H5 at k5 bP e5 bT ⊢
  have w5:H5 y.w=some (.lst [.ref y.pa,.ref y.sl,.int ((y.at_:Nat):Int),.int y.hand,.ref y.al,.bl y.u]):=k5 _ _ (λm=>d3 (ϵ.mp m)) (ss _ _ w1)
  have a5:H5 y.al=some (.lst (nI r)):=k5 _ _ (λm=>bA (ϵ.mp m)) (ss _ _ a1)
  have l5:H5 y.sl=some (.lst us):=k5 _ _ (λm=>d7 (ϵ.mp m)) (ss _ _ J)
  refine ⟨_,ϱ,y.w,_,_,5,ϱ,ϱ,w5,ϱ,?_⟩
  have k6:NK [y.w] H5 (upd H5 y.w (.lst [.ref y.pa,.ref y.sl,.int ((y.at_:Nat):Int),.int y.hand,.ref y.al,.bl true])):=NK.upd Ω
  have dP:a9 H5 (upd H5 y.w (.lst [.ref y.pa,.ref y.sl,.int ((y.at_:Nat):Int),.int y.hand,.ref y.al,.bl true])):=gY k6 w5
  have I:a9 H4 (upd H5 y.w (.lst [.ref y.pa,.ref y.sl,.int ((y.at_:Nat):Int),.int y.hand,.ref y.al,.bl true])):=λb z e=>dP _ _ (bP _ _ e)
  have U:a9 H H4:=λb z e=>ss.ts _ _ (bL _ _ e)
  refine nx _ _ (q2 r k x Y _ ea hg ex (bT.upd (λm=>(ϕ.mp m).elim d4 d5)) (k6 _ _ (λm=>d3 (ϵ.mp m).symm) e5) ⟨Y,y.pa,_,ϱ,I _ _ (by rw [e6,← b1];rfl),I _ _ (U _ _ wa.fp),ch,ϱ,(ei.keep ss.ts).keep I⟩ ⟨Ny,I _ _ (U _ _ wa.fp),⟨us,k6 _ _ (λm=>d1 (ϵ.mp m).symm) l5,(st.keep U).keep I⟩,k6 _ _ (λm=>d2 (ϵ.mp m).symm) a5⟩ ?_)
  intro b o n e
  simp only [List.mem_cons,not_or] at n
  obtain ⟨n1,n2,n3,n4⟩:=n
  exact k6 _ _ (λm=>n1 (ϵ.mp m)) (k5 _ _ (λm=>n3 (ϵ.mp m)) (ss _ _ (k1 _ _ (λm=>(ϕ.mp m).elim n2 n4) e)))
 .rintro D σ H1 ⟨r,k,x,rfl,s1,ea,hg,ex,hx,nx⟩
  have w1:=s1 _ _ wa.fw
  have a1:=s1 _ _ wa.fa
  have J:=s1 _ _ b0
  have c3:nI y.ats=nI r++[.int ((k:Nat):Int)]:=by rw [ea];unfold nI;rw [List.map_append];rfl
  have e9:(nI y.ats)[(nI y.ats).length-1]?=some (.int ((k:Nat):Int)):=by rw [c3];simp
  have dS:(nI y.ats).dropLast=nI r:=by rw [c3];simp
  refine ⟨_,ϱ,y.w,_,_,_,ϱ,ϱ,Nz w1,at4,.inl ⟨ϱ,_,Nz a1⟩,y.al,_,_,ϱ,ϱ,a1,e9,?_⟩
  rw [dS]
  have k2:NK [y.al] H1 (upd H1 y.al (.lst (nI r))):=NK.upd Ω
  have c4:a9 H1 (upd H1 y.al (.lst (nI r))):=gY k2 a1
  have a2:(upd H1 y.al (.lst (nI r))) y.al=some (.lst (nI r)):=Ny
  have c6:Rows (upd H1 y.al (.lst (nI r))) c rs X:=(bm.keep s1).upd (λm=>(ϕ.mp m).elim dA bB)
  have l2:=k2 _ _ (λm=>d6 (ϵ.mp m)) J
  generalize upd H1 y.al (.lst (nI r))=H2 at k2 c4 a2 c6 l2 ⊢
  refine ⟨χ,λt0 n0=>?_⟩
  have s3:=aa (o:=.tup []) n0
  have ca:(upd H2 t0 (.tup [])) t0=some (.tup []):=Ny
  generalize upd H2 t0 (.tup [])=H3 at s3 ca ⊢
  have W:=c6.keep s3
  have l3:=s3 _ _ l2
  have a3:=s3 _ _ a2
  obtain ⟨u,G,ta,rfl,b2⟩:=st.get1 ex
  have ax:=s3 _ _ (c4 _ _ (s1 _ _ b2))
  have b3:=ar x (ž ex)
  have kA:NK (y.al::rs) H H3:=λb o n e=>s3 _ _ (k2 _ _ (λm=>n (ϵ.mp m▸Ω)) (s1 _ _ e))
  refine ⟨_,ϱ,_,ϱ,y.sl,_,_,_,ϱ,ϱ,Nz l3,ay G,ta,_,_,_,ϱ,ϱ,NA ax,St.at0,ϱ,_,ϱ,aP (λc1=>?_) (λc1=>?_)⟩
  .have ad:x.1=.add:=cD c1
   obtain ⟨ic,dI⟩:=fV (h:=0) b3 (al x (ž ex)) (λz=>by cases ad▸z)
   obtain ⟨j,g,hv,bG,er,ej⟩:=dI.resolve_left (λz=>hx z.1)
   obtain ⟨q,d,e2⟩:∃q d,x.2=[((j:Nat):Int),q,d]:=by
    obtain ⟨wd,ns⟩:=x
    cases ad
    obtain ⟨a',b',d',rfl,_⟩:=b3.a
    cases V.int.inj hv
    exact ⟨b',d',ϱ⟩
   have cb:0<=q/\q<g.length:=by
    obtain ⟨wd,ns⟩:=x
    cases ad
    cases e2
    obtain ⟨a',b',d',e',_,dK,_⟩:=b3.a
    cases e'
    rw [er] at ic
    exact ⟨dK.1,ic⟩
   obtain ⟨c0,gc⟩:=cb
   have t:=ax
   rw [e2] at t
   obtain ⟨r0,e0,an⟩:=W.r.get1 bG
   have cd:atI (V.str (wS x.1)::[((j:Nat):Int),q,d].map V.int) 3=some (.int d):=ay (j:=3) rfl
   have e5:q=((q.toNat:Nat):Int):=(ŧ c0).symm
   have lt:q.toNat<g.length:=by lia
   have val:∀C:ć,C.length=g.length->atI (C.map V.int) q=some (.int (vl C q)):=λC L=>by
    have z:=ay (xs:=C.map V.int) (j:=q.toNat) (v:=.int (vl C q)) (by
     rw [Ż,ξ ω]
     unfold vl
     rw [List.getD,ξ ω]
     rfl)
    rw [← e5] at z
    exact z
   have eb:bkS x X=[(q,vl g q-d)]:=by
    unfold bkS
    rw [er]
    obtain ⟨wd,ns⟩:=x
    cases ad
    cases e2
    rfl
   have dT:ixN (g.map V.int).length q=some q.toNat:=by
    rw [ν]
    have z:=jT lt
    rw [← e5] at z
    exact z
   refine ⟨_,ϱ,_,ϱ,_,ϱ,y.sl,_,_,_,ϱ,ϱ,Nz l3,ay G,ta,_,_,_,ϱ,ϱ,NA t,St.at1,c,_,_,_,ϱ,ϱ,Nz W.l,ay (by rw [Ż,e0];rfl),?_⟩
   refine ⟨_,ϱ,_,ϱ,_,ϱ,y.sl,_,_,_,ϱ,ϱ,Nz l3,ay G,ta,_,_,_,ϱ,ϱ,NA t,St.at2,r0,_,_,_,ϱ,ϱ,Nz an,val g rfl,_,ϱ,_,ϱ,y.sl,_,_,_,ϱ,ϱ,Nz l3,ay G,ta,_,_,_,ϱ,ϱ,NA t,cd,_,_,ϱ,ϱ,_,ϱ,_,ϱ,_,ϱ,y.sl,_,_,_,ϱ,ϱ,Nz l3,ay G,ta,_,_,_,ϱ,ϱ,NA t,St.at2,r0,_,q,q.toNat,ϱ,ϱ,an,dT,?_⟩
   have em:(g.map V.int).set q.toNat (.int (vl g q-d))=(g.set q.toNat (vl g q-d)).map V.int:=by rw [List.map_set]
   show (_:Prop)
   have mr:=ž e0
   have k4:NK rs H3 (upd H3 r0 (.lst ((g.map V.int).set q.toNat (.int (vl g q-d))))):=NK.upd mr
   have cp:Rows (upd H3 r0 (.lst ((g.map V.int).set q.toNat (.int (vl g q-d))))) c rs (ce x (bkS x X) X):=by
    have z:=W.put (xs:=g.set q.toNat (vl g q-d)) e0
    have e3:ce x (bkS x X) X=X.set j (g.set q.toNat (vl g q-d)):=by
     rw [eb]
     show qR X (hN x) q.toNat (vl g q-d)=_
     unfold qR
     rw [ej,List.getD,bG]
     rfl
    rw [e3,em]
    exact z
   have l4:=k4 _ _ d9 l3
   have a4:=k4 _ _ bB a3
   have cs:=gn k4 (cQ W)
   have ct:(upd H3 r0 (.lst ((g.map V.int).set q.toNat (.int (vl g q-d))))) r0=some (.lst ((g.set q.toNat (vl g q-d)).map V.int)):=by rw [Ny,em]
   have v4:vl (g.set q.toNat (vl g q-d)) q=vl g q-d:=by
    unfold vl
    rw [List.getD,š lt]
    rfl
   have va:=val (g.set q.toNat (vl g q-d)) (by rw [ŕ])
   rw [v4] at va
   generalize eH:upd H3 r0 (.lst ((g.map V.int).set q.toNat (.int (vl g q-d))))=H4 at k4 cp l4 a4 cs ct ⊢
   have aM:=cs _ _ t
   refine ⟨_,ϱ,_,ϱ,y.sl,_,_,_,ϱ,ϱ,Nz l4,ay G,ta,_,_,_,ϱ,ϱ,NA aM,St.at2,_,ϱ,_,ϱ,_,ϱ,y.sl,_,_,_,ϱ,ϱ,Nz l4,ay G,ta,_,_,_,ϱ,ϱ,NA aM,St.at2,r0,_,_,_,ϱ,ϱ,Nz ct,va,χ,λt1 n1=>⟨χ,λt2 n2=>?_⟩⟩
   have z1:=aa (o:=.tup [.int q,.int (vl g q-d)]) n1
   have z2:=aa (o:=.tup [.ref t1]) n2
   have zz:=z1.trans z2
   exact ⟨r,k,x,t2,some (.ref r0),ϱ,ea,hg,ex,cp.keep zz,λb o n e=>zz _ _ (k4 _ _ (λm=>n (Θ _ m)) (kA _ _ n e)),zz _ _ a4,by rw [eb];exact ⟨_,Ny,.cons ⟨t1,ϱ,z2 _ _ Ny⟩ .nil⟩,nx⟩
  .have eb:bkS x X=[]:=by
    unfold bkS bk
    split
    .rename_i h _
     exact absurd h (br (b:=.add) c1)
    .rfl
   exact ⟨r,k,x,t0,none,ϱ,ea,hg,ex,by rw [eb];exact W,kA,a3,by rw [eb];exact ⟨[],ca,.nil⟩,nx⟩
 refine ⟨_,ϱ,_,ϱ,y.w,_,ϱ,Nz wa.fw,λcl ee=>?_⟩
 have s1:=aa (o:=.lst [.ref y.pa,.ref y.sl]) ee
 refine ⟨cl,[.ref y.pa,.ref y.sl],ϱ,Nz (by rw [Ny];rfl),ϱ,_,_,ϱ,_,_,ϱ,ϱ,?_⟩
 have w1:(upd H cl (.lst [.ref y.pa,.ref y.sl])) y.w=_:=s1 _ _ wa.fw
 have a1:(upd H cl (.lst [.ref y.pa,.ref y.sl])) y.al=_:=s1 _ _ wa.fa
 have l1:=s1 _ _ b0
 refine ⟨_,ϱ,y.w,_,_,_,ϱ,ϱ,Nz w1,at4,χ,λe1 cz=>⟨y.al,e1,_,ϱ,ϱ,Nz (aa cz _ _ a1),Nz Ny,_,ϱ,?_⟩⟩
 have s2:=aa (o:=.lst []) cz
 have b4:=s1.trans s2
 have w2:=s2 _ _ w1
 have a2:=s2 _ _ a1
 have l2:=s2 _ _ l1
 refine aP (λ_=>bx (q1 _ b4)) (λc0=>?_)
 have ne:y.ats≠[]:=λz=>c0 (τ (by rw [z];rfl))
 refine ⟨_,ϱ,y.w,_,_,_,ϱ,ϱ,Nz w2,at4,y.al,ϱ,⟨_,Nz a2⟩,?_⟩
 have ll:(nI y.ats).length=y.ats.length:=ν _
 refine eg (xs:=nI y.ats) (λj ys Z=>Z=upd (upd H cl (.lst [.ref y.pa,.ref y.sl])) e1 (.lst [])/\(ys=[]->∀i∈y.ats.take j,∃x,y.xs[i]?=some x/\x.1≠.give)) ⟨ϱ,λ_ i m=>by cases m⟩ ω (λj ys Z _ z=>by rw [z.1];exact Nz a2) ?_ ?_
 .rintro j u ys Z hu ⟨rfl,hy⟩
  unfold nI at hu
  rw [Ż] at hu
  obtain ⟨n,en,rfl⟩:=ř.mp hu
  obtain ⟨x,ex,hx⟩:=ak n (ž en)
  obtain ⟨u,G,ta,rfl,b2⟩:=st.get1 ex
  have cv:=b4 _ _ b2
  refine ⟨_,ϱ,_,ϱ,y.sl,_,_,_,ϱ,ϱ,Nz l2,ay G,ta,_,_,_,ϱ,ϱ,NA cv,St.at0,ϱ,_,ϱ,aP (λc=>⟨_,ϱ,ϱ,λz=>absurd z (by simp)⟩) (λc=>⟨ϱ,λz i mi=>?_⟩)⟩
  have et:y.ats.take (j+1)=y.ats.take j++[n]:=by rw [Ų,en];rfl
  rw [et] at mi
  rcases ź.mp mi with m | m
  .exact hy z i m
  .rw [ϵ.mp m]
   exact ⟨x,ex,br (b:=.give) c⟩
 .rintro ys Z ⟨rfl,hy⟩ l3 ep
  have s3:=aa (o:=.lst ys) ep
  rw [ll,Ū] at hy
  refine ⟨χ,λe2 cF=>⟨l3,e2,ys,ϱ,ϱ,Nz (aa cF _ _ Ny),Nz Ny,_,ϱ,?_⟩⟩
  have s4:=aa (o:=.lst []) cF
  have cx:=b4.trans (s3.trans s4)
  by_cases ey:ys=[]
  .rw [τ ey]
   rcases Ő y.ats with z | ⟨r,k,ek⟩
   .exact absurd z ne
   rw [ŏ] at ek
   obtain ⟨x,ex,hx⟩:=ak k (by rw [ek];simp)
   exact a8 ⟨r,k,x,ϱ,cx,ek,hy ey,ex,hx,fun σ' Z z=>z⟩
  .exact Γ ey▸bx (q1 _ cx)
structure WIv(X0:î (ć))(es:î En)(y:Way):Prop where
 fp:FitP true X0 y.xs
 bs:∀b∈Zi y.p es,(∃p' k' cs' h',b=.step p' y.xs k' cs' h')\/∃p' k' cs',b=.undo p' y.xs k' cs'
 lf:y.ats=left (Zi y.p es)
 un:bh (Zi y.p es)<=(aT (Zi y.p es)).length
 st:y.u=false->(∀b∈Zi y.p es,∃p' k' cs' h',b=.step p' y.xs k' cs' h')/\((Zi y.p es=[]/\y.at_=0/\y.hand=0)\/∃r p' k' cs',Zi y.p es=r++[.step p' y.xs k' cs' y.hand]/\y.at_=k'+1)
 la:y.at_<=y.xs.length
 ho:∀j∈y.ats,∃x,y.xs[j]?=some x/\aI x.1 x.2≠.non
def rO{b:Bool}{X X0:î (ć)}{xs:î Zc}(e:aB X=aB X0)(h:FitP b X0 xs):FitP b X xs:=by
 unfold FitP at *
 exact e▸h
theorem Bv{xs:î Zc}:∀{bs:î En},(∀b∈bs,∃p' k' cs' h',b=En.step p' xs k' cs' h')->bh bs=0
 | [],_=>rfl
 | b::r,h=>by
  obtain ⟨p',k',cs',h',rfl⟩:=h b Ω
  have ih:=Bv (bs:=r) λb m=>h b (Θ _ m)
  unfold bh at *
  exact List.filter_cons▸ih
def sK(p:Pa)(es:î En)(e:En)(h:e.nm=p):Zi p (es++[e])=Zi p es++[e]:=by rw [jP,ů h]
def WIv.other{X0:î (ć)}{d:î En}{y:Way}{e:En}(h:WIv X0 d y)(f:e.nm≠y.p):WIv X0 (d++[e]) y:=by
 have en:Zi y.p (d++[e])=Zi y.p d:=by rw [jP,ŵ f,ų]
 refine ⟨h.fp,?_,?_,?_,?_,h.la,h.ho⟩
 .rw [en];exact h.bs
 .rw [en];exact h.lf
 .rw [en];exact h.un
 .rw [en];exact h.st
def WIv.walk{X0 X z:î (ć)}{d:î En}{y:Way}{k:Nat}{cs:î (Int×Int)}{e:Int}(h:WIv X0 d y)(sz:aB X=aB X0)(G:y.u=false)(H:FW y.xs y.at_ y.hand X k cs e z) :
  Fit X (Zi y.p d) (.step y.p y.xs k cs e) z/\WIv X0 (d++[.step y.p y.xs k cs e]) {y with at_:=k+1,hand:=e,ats:=y.ats++[k]}:=by
 obtain ⟨q,ok,x,ex,C,rfl⟩:=H
 obtain ⟨g,D⟩:=h.st G
 have F:aI x.1 x.2≠.non:=by
  obtain ⟨_,_,I,f,l⟩:=q
  rw [ex] at f
  cases f
  exact l
 have u0:=Bv g
 have en:=sK y.p d (.step y.p y.xs k cs e) rfl
 have t:aT (Zi y.p d++[.step y.p y.xs k cs e])=aT (Zi y.p d)++[k]:=rD _ _
 have w:bh (Zi y.p d++[.step y.p y.xs k cs e])=bh (Zi y.p d):=mZ _ _
 have o:left (Zi y.p d)=aT (Zi y.p d):=by unfold left;rw [u0,Nat.sub_zero,List.take_length]
 refine ⟨⟨rO sz h.fp,y.at_,y.hand,g,?_,q,ok,x,ex,C,ϱ⟩,⟨h.fp,?_,?_,?_,λ_=>?_,?_,?_⟩⟩
 .rcases D with ⟨a,b,c⟩ | ⟨r,p',k',cs',a,b⟩
  .exact .inl ⟨a,b,c⟩
  .exact .inr ⟨r,p',k',cs',a,b⟩
 .show ∀b∈Zi y.p (d++[.step y.p y.xs k cs e]),_
  rw [en]
  intro b m
  rcases ź.mp m with m | m
  .exact h.bs b m
  .exact ϵ.mp m▸.inl ⟨_,_,_,_,ϱ⟩
 .show y.ats++[k]=left (Zi y.p (d++[.step y.p y.xs k cs e]))
  rw [en]
  unfold left
  rw [t,w,u0,Nat.sub_zero,Ū,h.lf,o]
 .show bh (Zi y.p (d++[.step y.p y.xs k cs e]))<=(aT (Zi y.p (d++[.step y.p y.xs k cs e]))).length
  rw [en,t,w,u0]
  exact ϖ _
 .show (∀b∈Zi y.p (d++[.step y.p y.xs k cs e]),_)/\_
  rw [en]
  refine ⟨λb m=>?_,.inr ⟨Zi y.p d,y.p,k,cs,ϱ,ϱ⟩⟩
  rcases ź.mp m with m | m
  .exact g b m
  .rw [ϵ.mp m]
   exact ⟨_,_,_,_,ϱ⟩
 .have:=(ſ.mp ex).1
  show k+1<=y.xs.length
  lia
 .intro j m
  rcases ź.mp (show j∈y.ats++[k] from m) with m | m
  .exact h.ho j m
  .rw [ϵ.mp m]
   exact ⟨x,ex,F⟩
def WIv.back{X0 X:î (ć)}{d:î En}{y:Way}{r:Ć}{k:Nat}{x:Zc}(h:WIv X0 d y)(sz:aB X=aB X0)(g:y.ats=r++[k])(C:∀j∈y.ats,∃x,y.xs[j]?=some x/\x.1≠.give)(ex:y.xs[k]?=some x) :
  Fit X (Zi y.p d) (.undo y.p y.xs k (bkS x X)) (ce x (bkS x X) X)/\WIv X0 (d++[.undo y.p y.xs k (bkS x X)]) {y with ats:=r,u:=true}:=by
 have lf:=h.lf
 have e:left (Zi y.p d)=r++[k]:=by rw [← lf,g]
 obtain ⟨D,f,t⟩:=h.ho k (by rw [g];simp)
 rw [ex] at f
 cases f
 have en:=sK y.p d (.undo y.p y.xs k (bkS x X)) rfl
 have l:aT (Zi y.p d++[.undo y.p y.xs k (bkS x X)])=aT (Zi y.p d):=(rD _ _).trans (ų _)
 have o:bh (Zi y.p d++[.undo y.p y.xs k (bkS x X)])=bh (Zi y.p d)+1:=mZ _ _
 have lt:bh (Zi y.p d)<(aT (Zi y.p d)).length:=by
  have:=congrArg List.length e
  unfold left at this
  rw [ŷ,Ž,Ŝ] at this
  lia
 refine ⟨⟨rO sz h.fp,h.bs,λz=>?_,?_,?_,x,ex,t,ϱ,ϱ⟩,⟨h.fp,?_,?_,?_,(λz=>by cases z),h.la,λj m=>h.ho j (g▸Ō _ m)⟩⟩
 .rw [z] at e
  cases r<;>cases e
 .rw [e]
  simp
 .exact lf▸C
 .show ∀b∈Zi y.p (d++[.undo y.p y.xs k (bkS x X)]),_
  rw [en]
  intro b m
  rcases ź.mp m with m | m
  .exact h.bs b m
  .exact ϵ.mp m▸.inr ⟨_,_,_,ϱ⟩
 .show r=left (Zi y.p (d++[.undo y.p y.xs k (bkS x X)]))
  rw [en]
  unfold left at e ⊢
  rw [l,o]
  have w:(aT (Zi y.p d)).length-(bh (Zi y.p d)+1)=(aT (Zi y.p d)).length-bh (Zi y.p d)-1:=by lia
  have q:=congrArg List.dropLast e
  rw [List.dropLast_concat] at q
  rw [w,← q,List.dropLast_eq_take,List.take_take,ŷ]
  congr 1
  lia
 .show bh (Zi y.p (d++[.undo y.p y.xs k (bkS x X)]))<=(aT (Zi y.p (d++[.undo y.p y.xs k (bkS x X)]))).length
  rw [en,l,o]
  lia
def zr{X0 X:î (ć)}{f:î En}{p:Pa}{xs:î Zc}(sz:aB X=aB X0)(h:∀e∈f,e.nm≠p)(k:ArS xs)(l:pG X xs)(o:xs≠[])(d:xs.length<=12)(ok:okS xs 0 X):Fit X (Zi p f) (.pact p xs (aR xs 0 X).1) (aR xs 0 X).2:=by
 refine ⟨⟨k,o,d,λj q x ex=>l x (ž ex),λz=>by cases z⟩,?_,ok,ϱ,ϱ⟩
 unfold Zi
 exact List.filter_eq_nil_iff.mpr λe g z=>h e g (Ξ z)
def gv(xs:î Zc):Bool:=xs.any λx=>decide (x.1=.give)
inductive B8 (vs:î V) (H:Hp) (Q:VK) (E:XK):Prop|mk pa p c q sz:vs=[.ref pa,.int c,.ref q]->H pa=some (.tup [.int (p:Pa).1,.int p.2])->Sz H q sz->pd sz->(∀y H',y.pa=pa->y.p=p->y.at_=0->y.hand=0->y.ats=[]->y.u=false->WayA H' y->ArS y.xs->(∀x∈y.xs,be sz x=true)->y.xs≠[]->y.xs.length<=12->gH y.xs y.xs.length->H y.w=none->H y.sl=none->H y.al=none->y.w≠y.sl->y.w≠y.al->y.sl≠y.al->NI H H'->Q (.ref y.w) H')->B8 vs H Q E
def zt(xs:î Zc)(x:Zc):gv (xs++[x])=(gv xs||decide (x.1=.give)):=by
 unfold gv
 rw [List.any_append]
 simp
def A7{xs:î Zc}(h:∀j x,xs[j]?=some x->gv (xs.take j)=true->x.1≠.need):gH xs xs.length:=λj h1 h2 x ex=>by
 refine h j x ex ?_
 have hl:bO xs<xs.length:=Nat.lt_trans h1 h2
 have hg:=List.findIdx_getElem (p:=λx:Zc=>decide (x.1=Wd.give)) (xs:=xs) (w:=hl)
 unfold gv
 rw [Ė]
 refine ⟨xs[bO xs]'hl,?_,hg⟩
 rw [List.mem_take_iff_getElem]
 exact ⟨bO xs,ω,ϱ⟩
structure NwI(H0 H:Hp)(sl:ø)(sz:ć)(us:î V)(xs:î Zc)(i:Nat):Prop where
 fs:H sl=some (.lst us)
 st:TsP H xs us
 ar:ArS xs
 th:∀x∈xs,be sz x=true
 ne:xs≠[]
 l12:xs.length<=12
 nn:∀j x,j<i->xs[j]?=some x->gv (xs.take j)=true->x.1≠.need
 sm:NI H0 H
def Eg(F:Fun K "_law_new_way" "_law_new_way" eK f fd)(B:TxB mg)(GS:GF P w K mg base Za 3 "_law_steps" KS vd):NH P w K mg base Za 4 f fd MQ B8:=by
 refine F.oj sc__law_new_way λbP A aM s H vs Q E hr h=>?_
 obtain ⟨J,p,c,q0,sz,rfl,a7,hq,ab,q⟩:=h
 have nd:=sc__law_new_way.nd
 have hz:(1000:Nat)<=sizeLine:=by decide
 refine ⟨_,ac (sN 3 nd (pc GS hr (aj (pv 1) (Zb (ai aU af (ai aG (pv 1) af)) (pv 2)))))
  (ac (sN 4 nd eS)
  (ac (eQ Ņ rfl (bD rfl B.range (Zd (aq az rfl B.len Ź (Zd (pv 3))))) (gN 5 nd)
   (ac (aC (PW.pt (ir (bj (pv 4)) (fu (Zl (Zj K (bc K (pv 3) (pv 5))) aw)))) (au (bV (aA (Zb aw (ai aG (pv 1) af))) (gD (pv 3) (pv 5) cL))) ao)
   (dy (u:=λD σ H1=>∃i r xs C x,σ=[some (.ref J),some (.int c),some (.ref q0),some (.ref r),some (.bl (gv (xs.take i))),some (.int ((i:Nat):Int))]/\NwI H H1 r sz C xs i/\xs[i]?=some x/\(gv (xs.take i)=true->x.1≠.need)/\(∀W I,(∃k l y5,W=[some (.ref J),some (.int c),some (.ref q0),some (.ref r),some (.bl (gv (k.take (i+1)))),y5]/\NwI H I r sz l k (i+1)/\k.length=xs.length)->D.nx W I))
    (au (sN 4 nd (yn (pv 4) (iu (bH lK (Zj K (bc K (pv 3) (pv 5))) aw (aF _)))))) ?s1)))
  (Ze (bF (aj (pv 0) (aj (pv 3) (aj af (aj af (Zb (bF aO) eS))))))))),?_⟩
 .rintro D σ H1 ⟨i,r,xs,C,x,rfl,g,ex,hn,nx⟩
  obtain ⟨u,eu,ta,rfl,L⟩:=g.st.get1 ex
  have et:xs.take (i+1)=xs.take i++[x]:=by rw [Ų,ex];rfl
  have g':NwI H H1 r sz C xs (i+1):=⟨g.fs,g.st,g.ar,g.th,g.ne,g.l12,λj y hj U t=>by
   rcases ŀ.mp hj with z | z
   .exact g.nn j y z U t
   .subst z
    rw [ex] at U
    cases U
    exact hn t,g.sm⟩
  refine ⟨_,ϱ,_,ϱ,?_⟩
  cases t:gv (xs.take i) with
  | true =>
   refine bx (nx _ _ ⟨xs,C,some (.int ((i:Nat):Int)),?_,g',ϱ⟩)
   rw [et,zt,t]
   rfl
  | false =>
   refine a8 ⟨_,ϱ,_,ϱ,r,_,_,_,ϱ,ϱ,Nz g.fs,ay eu,ta,_,_,_,ϱ,ϱ,NA L,St.at0,ϱ,nx _ _ ⟨xs,C,some (.int ((i:Nat):Int)),?_,g',ϱ⟩⟩
   rw [et,zt,t,Bool.false_or,← BP]
   rfl
 have e0:=Ů c (show (12:Int)≠0 by decide)
 have e1:=Ŵ c (show (0:Int)<12 by decide)
 obtain ⟨n,en⟩:∃n:Nat,1+c%12=(n:Int):=⟨(1+c%12).toNat,ω⟩
 refine ⟨_,ϱ,_,ϱ,_,_,ϱ,ϱ,Qa 11,_,_,ϱ,ϱ,_,ϱ,c,n,q0,sz,by show [V.int c,V.int (1+c%12),V.ref q0]++[]=_;rw [en];rfl,ω,hq,ab,λr C xs H1 s1 a0 a1 st lx ar th=>?_⟩
 have g0:NwI H H1 r sz C xs 0:=⟨a1,st,ar,th,(λz=>by rw [z] at lx;simp at lx;lia),ω,(λj x z=>absurd z (Nat.not_lt_zero j)),s1⟩
 have pl:xs.length=C.length:=st.len
 refine ⟨_,ϱ,r,_,ϱ,.inl (Nz a1),_,ϱ,ω,ω,?_⟩
 refine cH (n:=C.length) (λi σ I=>∃k l y5,σ=[some (.ref J),some (.int c),some (.ref q0),some (.ref r),some (.bl (gv (k.take i))),y5]/\NwI H I r sz l k i/\k.length=xs.length) ⟨xs,C,none,ϱ,g0,ϱ⟩ ?_ ?_
 .rintro i σ H2 hi ⟨k,l,y5,rfl,g,b2⟩
  have ei:(0:Int)+(i:Nat)=((i:Nat):Int):=ĕ _
  rw [ei]
  have li:i<k.length:=by lia
  obtain ⟨x,ex⟩:∃x,k[i]?=some x:=⟨_,ξ li⟩
  obtain ⟨u,ad,ta,rfl,L⟩:=g.st.get1 ex
  have O:∀{xs2:î Zc},xs2.length=k.length->∀(W:L2.St) (I:Hp),(∃k l y5,W=[some (.ref J),some (.int c),some (.ref q0),some (.ref r),some (.bl (gv (k.take (i+1)))),y5]/\NwI H I r sz l k (i+1)/\k.length=xs2.length)->∃k l y5,W=[some (.ref J),some (.int c),some (.ref q0),some (.ref r),some (.bl (gv (k.take (i+1)))),y5]/\NwI H I r sz l k (i+1)/\k.length=xs.length:=λe W I ⟨a,b,d,e1,e2,e3⟩=>⟨a,b,d,e1,e2,ω⟩
  refine ⟨_,ϱ,_,ϱ,?_⟩
  cases t:gv (k.take i) with
  | false=>exact a8 (a8 ⟨i,r,k,l,x,by rw [t];rfl,g,ex,(λz=>by cases t▸z),O rfl⟩)
  | true =>
   refine bx ⟨_,ϱ,_,ϱ,r,_,_,_,ϱ,ϱ,Nz g.fs,ay ad,ta,_,_,_,ϱ,ϱ,NA L,St.at0,ϱ,_,ϱ,aP (λc1=>?_) (λc1=>⟨i,r,k,l,x,by rw [t];rfl,g,ex,λ_=>br (b:=.need) c1,O rfl⟩)⟩
   refine ⟨_,ϱ,_,_,ϱ,ϱ,Qa 8,χ,λt2 n2=>?_⟩
   have s2:=aa (o:=.tup [.str "plus",.int (c%9)]) n2
   have bI:l.length=k.length:=g.st.len.symm
   refine ⟨_,ϱ,_,ϱ,r,_,_,i,ϱ,ϱ,s2 _ _ g.fs,jT ω,?_⟩
   have ak:=s2 _ _ g.fs
   have ku:NK [r] (upd H2 t2 (.tup [.str "plus",.int (c%9)])) (upd (upd H2 t2 (.tup [.str "plus",.int (c%9)])) r (.lst (l.set i (.ref t2)))):=NK.upd Ω
   have Y:=gY ku ak
   have i9:inV (c%9):=by
    have e0:=Ů c (show (9:Int)≠0 by decide)
    have e1:=Ŵ c (show (0:Int)<9 by decide)
    unfold St.inV
    have:(10:Nat) ^ 40=10000000000000000000000000000000000000000:=by decide +kernel
    rw [this]
    lia
   have et:(k.set i (Wd.plus,[c%9])).take i=k.take i:=jw _ _ _
   refine ⟨i,r,k.set i (.plus,[c%9]),l.set i (.ref t2),(.plus,[c%9]),by rw [et,t];rfl,⟨Ny,TsP.set ((g.st.keep s2.ts).keep Y) ⟨t2,ϱ,Y _ _ Ny⟩,λy hy=>?_,λy hy=>?_,λz=>?_,?_,λj y hj U=>?_,λb o e=>?_⟩,?_,λ_ z=>(by cases z),O (by rw [ŕ])⟩
   .rcases ĵ hy with m | m
    .exact g.ar y m
    .rw [m];exact i9
   .rcases ĵ hy with m | m
    .exact g.th y m
    .rw [m];rfl
   .have:=congrArg List.length z
    rw [ŕ] at this
    simp at this
    exact g.ne (List.length_eq_zero_iff.mp (by simp [this]))
   .rw [ŕ]
    exact g.l12
   .rw [ŋ ω] at U
    have e5:(k.set i (Wd.plus,[c%9])).take j=k.take j:=by rw [List.take_set_of_le ω]
    exact e5▸g.nn j y hj U
   .exact ku b o (λm=>by rw [ϵ.mp m,a0] at e;cases e) (s2 _ _ (g.sm _ _ e))
   .rw [š li]
 .rintro σ H2 ⟨k,l,y5,rfl,g,b2⟩
  have e9:k.length=C.length:=by lia
  refine ⟨_,ϱ,_,ϱ,χ,λal G=>⟨χ,λwy X=>?_⟩⟩
  have s3:=aa (o:=.lst []) G
  have s4:=aa (o:=.lst [.ref J,.ref r,.int 0,.int 0,.ref al,.bl false]) X
  have ss:=s3.trans s4
  have as:gH k k.length:=A7 λj x ex=>g.nn j x (by have:=(ſ.mp ex).1;lia) ex
  have Z:al≠r:=λz=>by rw [z,g.fs] at G;cases G
  have av:wy≠r:=λz=>by rw [z,s3 _ _ g.fs] at X;cases X
  have ax:wy≠al:=λz=>by rw [z,Ny] at X;cases X
  refine q ⟨wy,J,r,al,p,k,0,0,[],false⟩ _ rfl rfl rfl rfl rfl rfl ⟨Ny,ss _ _ (g.sm _ _ a7),⟨l,ss _ _ g.fs,g.st.keep ss.ts⟩,s4 _ _ Ny⟩ g.ar g.th g.ne g.l12 as (none_of (g.sm.trans s3) X) a0 (none_of g.sm G) av ax Z.symm (g.sm.trans ss)
structure WyI(H0 H:Hp)(g:ø->Nat)(c qs:ø)(rs:ĉ)(X0:î (ć))(ys:î Way):Prop where
 rw:Rows H c rs X0
 fq:Sz H qs (aB X0)
 wy:∀y∈ys,WayA H y
 iv:∀y∈ys,FitP true X0 y.xs/\y.at_=0/\y.hand=0/\y.ats=[]/\y.u=false
 nms:∀i y,ys[i]?=some y->y.p=(((i:Nat):Int),0)
 gc:g c=1
 gq:g qs=3
 gr:∀a∈rs,g a=5
 gy:∀i y,ys[i]?=some y->g y.w=10+3*i/\g y.sl=11+3*i/\g y.al=12+3*i
 fr:∀y∈ys,H0 y.w=none/\H0 y.sl=none/\H0 y.al=none
 sm:NI H0 H
def zX{α:Type}{xs:î α}{x y:α}{i:Nat}(h:(xs++[x])[i]?=some y):xs[i]?=some y\/(i=xs.length/\y=x):=by
 by_cases hi:i<xs.length
 .rw [Ŕ hi] at h
  exact .inl h
 .have d:=(ſ.mp h).1
  rw [Ž,Ŝ] at d
  have:i=xs.length:=by lia
  subst this
  rw [ū (ι _),ĺ] at h
  cases h
  exact .inr ⟨ϱ,ϱ⟩
def WayA.live{H:Hp}{y:Way}(h:WayA H y):H y.w≠none/\H y.sl≠none/\H y.al≠none :=
 ⟨λz=>(by rw [h.fw] at z;cases z),λz=>(by obtain ⟨us,e,_⟩:=h.fs;rw [e] at z;cases z),λz=>(by cases h.fa▸z)⟩
def g3(y:Way)(i:Nat)(g:ø->Nat):ø->Nat:=λa=>if a=y.w then 10+3*i else if a=y.sl then 11+3*i else if a=y.al then 12+3*i else g a
def Di{H:Hp}{y:Way}{i:Nat}{g:ø->Nat}{a:ø}(h:H a≠none)(h1:H y.w=none)(d:H y.sl=none)(e:H y.al=none):g3 y i g a=g a:=by
 unfold g3
 rw [ŵ (λ(z:a=y.w)=>h (z▸h1)),ŵ (λ(z:a=y.sl)=>h (z▸d)),ŵ (λ(z:a=y.al)=>h (z▸e))]
def WyI.app{j H H':Hp}{g:ø->Nat}{c f:ø}{k:ĉ}{X0:î (ć)}{ys:î Way}{y:Way}(h:WyI j H g c f k X0 ys)(s:NI H H')(C:WayA H' y)(D:FitP true X0 y.xs)(F:y.at_=0)(G:y.hand=0)(I:y.ats=[])(J:y.u=false)(K:y.p=(((ys.length:Nat):Int),0))(o:H y.w=none)(q:H y.sl=none)(r:H y.al=none)(L:y.w≠y.sl)(O:y.w≠y.al)(P:y.sl≠y.al) :
  WyI j H' (g3 y ys.length g) c f k X0 (ys++[y]):=by
 have d:∀a,H a≠none->g3 y ys.length g a=g a:=λa z=>Di z o q r
 refine ⟨h.rw.keep s,s _ _ h.fq,λz m=>?_,λz m=>?_,λi z e=>?_,?_,?_,λa m=>?_,λi z e=>?_,λz m=>?_,h.sm.trans s⟩
 .rcases ź.mp m with m | m
  .exact (h.wy z m).fr (S:=[]) (ND s) s.ts (λm=>by cases m) (λm=>by cases m) (λm=>by cases m)
  .rw [ϵ.mp m];exact C
 .rcases ź.mp m with m | m
  .exact h.iv z m
  .rw [ϵ.mp m];exact ⟨D,F,G,I,J⟩
 .rcases zX e with e | ⟨rfl,rfl⟩
  .exact h.nms i z e
  .exact K
 .rw [d c (λz=>by cases h.rw.l▸z)]
  exact h.gc
 .rw [d f (λz=>by have e:H f=some _:=h.fq;rw [e] at z;cases z)]
  exact h.gq
 .rw [d a (λz=>by obtain ⟨xs,e⟩:=h.rw.at m;rw [e] at z;cases z)]
  exact h.gr a m
 .rcases zX e with e | ⟨rfl,rfl⟩
  .obtain ⟨l1,t,x⟩:=(h.wy z (ž e)).live
   rw [d _ l1,d _ t,d _ x]
   exact h.gy i z e
  .refine ⟨ů rfl,?_,?_⟩
   .unfold g3
    rw [ŵ L.symm,ů rfl]
   .unfold g3
    rw [ŵ O.symm,ŵ P.symm,ů rfl]
 .rcases ź.mp m with m | m
  .exact h.fr z m
  .rw [ϵ.mp m]
   exact ⟨none_of h.sm o,none_of h.sm q,none_of h.sm r⟩
structure Tg(g:ø->Nat)(el c wl qs ll:ø)(rs:ĉ)(ys:î Way):Prop where
 e:g el=0
 c:g c=1
 w:g wl=2
 q:g qs=3
 l:g ll=4
 r:∀a∈rs,g a=5
 y:∀i y,ys[i]?=some y->g y.w=10+3*i/\g y.sl=11+3*i/\g y.al=12+3*i
structure LeI(H0 H:Hp)(g:ø->Nat)(el c wl qs ll:ø)(rs:ĉ)(X0 X:î (ć))(es:î En)(eu:î V)(ys:î Way)(cs:ć):Prop where
 rw:Rows H c rs X
 fe:H el=some (.lst eu)
 pe:Paired (NV H) es eu
 fw:H wl=some (.lst (ys.map λy=>V.ref y.w))
 wy:∀y∈ys,WayA H y
 fq:Sz H qs (aB X0)
 fl:H ll=some (.lst (cs.map V.int))
 run:Run [] es X0 X
 nm:∀e∈es,e.nm.2<=((es.length:Nat):Int)/\e.nm.1<9
 iv:∀y∈ys,WIv X0 es y
 nms:∀i y,ys[i]?=some y->y.p=(((i:Nat):Int),0)
 l3:ys.length=3
 tg:Tg g el c wl qs ll rs ys
 kp:NK rs H0 H
 f1:H0 el=none
 fr:∀y∈ys,H0 y.w=none/\H0 y.al=none
section
variable {H0 H H':Hp}{g:ø->Nat}{el c wl qs ll:ø}{rs:ĉ}{X0 X X':î (ć)}{es:î En}{eu:î V}{ys:î Way}{cs:ć}
def LeI.keep(h:LeI H0 H g el c wl qs ll rs X0 X es eu ys cs)(s:NI H H'):LeI H0 H' g el c wl qs ll rs X0 X es eu ys cs :=
 ⟨h.rw.keep s,s _ _ h.fe,NB h.pe λ_ _ z=>z.keep s.ts,s _ _ h.fw,λy m=>(h.wy y m).fr (S:=[]) (ND s) s.ts (λm=>by cases m) (λm=>by cases m) (λm=>by cases m),s _ _ h.fq,s _ _ h.fl,h.run,h.nm,h.iv,h.nms,h.l3,h.tg,h.kp.trans (ND s),h.f1,h.fr⟩
def LeI.rows(h:LeI H0 H g el c wl qs ll rs X0 X es eu ys cs)(r:Rows H' c rs X)(k:NK rs H H'):LeI H0 H' g el c wl qs ll rs X0 X es eu ys cs:=by
 have ts:=gn k (cQ h.rw)
 have d:∀a,g a≠5->a∉rs:=λa n m=>n (h.tg.r a m)
 refine ⟨r,k _ _ (d _ (by rw [h.tg.e];decide)) h.fe,NB h.pe λ_ _ z=>z.keep ts,k _ _ (d _ (by rw [h.tg.w];decide)) h.fw,λy m=>?_,k _ _ (d _ (by rw [h.tg.q];decide)) h.fq,k _ _ (d _ (by rw [h.tg.l];decide)) h.fl,h.run,h.nm,h.iv,h.nms,h.l3,h.tg,h.kp.trans k,h.f1,h.fr⟩
 obtain ⟨i,e⟩:=ť m
 obtain ⟨f,j,o⟩:=h.tg.y i y e
 exact (h.wy y m).fr k ts (d _ ω) (d _ ω) (d _ ω)
def LeI.one(h:LeI H0 H g el c wl qs ll rs X0 X es eu ys cs){i:Nat}{y u:Way}{e:En}{t:ø}(D:ys[i]?=some y)(en:e.nm=y.p)(ft:Fit X (Zi y.p es) e X')(G:WIv X0 (es++[e]) u)(I:u.w=y.w)(a2:u.sl=y.sl)(Q:u.al=y.al)(a4:u.p=y.p)
  (r:Rows H' c rs X')(fe:H' el=some (.lst (eu++[.ref t])))(J:NV H' e (.ref t))(wa:WayA H' u)(k:NK (y.w::y.al::el::rs) H H'):LeI H0 H' g el c wl qs ll rs X0 X' (es++[e]) (eu++[.ref t]) (ys.set i u) cs:=by
 have F:=ž D
 have O:=(ſ.mp D).1
 obtain ⟨K,U,L⟩:=h.tg.y i y D
 have P:=h.wy y F
 have ts:=gn k (λb m=>by
  rcases ϕ.mp m with z | m
  .exact ⟨_,z▸P.fw⟩
  rcases ϕ.mp m with z | m
  .exact ⟨_,z▸P.fa⟩
  rcases ϕ.mp m with z | m
  .exact ⟨_,z▸h.fe⟩
  .exact cQ h.rw b m)
 have d:∀a,g a≠10+3*i->g a≠12+3*i->g a≠0->g a≠5->a∉y.w::y.al::el::rs:=λa W Y Z n4 m=>by
  rcases ϕ.mp m with z | m
  .exact W (z▸K)
  rcases ϕ.mp m with z | m
  .exact Y (z▸L)
  rcases ϕ.mp m with z | m
  .exact Z (z▸h.tg.e)
  .exact n4 (h.tg.r a m)
 have C:∀{j:Nat} {z:Way},(ys.set i u)[j]?=some z->(j=i/\z=u)\/(j≠i/\ys[j]?=some z):=λ{j z} e=>by
  by_cases ji:i=j
  .subst ji
   rw [š O] at e
   cases e
   exact .inl ⟨ϱ,ϱ⟩
  .rw [ŋ ji] at e
   exact .inr ⟨λz=>ji z.symm,e⟩
 have x:∀{z:Way},z∈ys.set i u->z=u\/∃j,j≠i/\ys[j]?=some z:=λ{z} m=>by
  obtain ⟨j,e⟩:=ť m
  rcases C e with ⟨_,e⟩ | ⟨n,e⟩
  .exact .inl e
  .exact .inr ⟨j,n,e⟩
 refine ⟨r,fe,(NB h.pe λ_ _ z=>z.keep ts).app (.cons J .nil),?_,λz m=>?_,k _ _ (d _ (by rw [h.tg.q];lia) (by rw [h.tg.q];lia) (by rw [h.tg.q];decide) (by rw [h.tg.q];decide)) h.fq,k _ _ (d _ (by rw [h.tg.l];lia) (by rw [h.tg.l];lia) (by rw [h.tg.l];decide) (by rw [h.tg.l];decide)) h.fl,Run.app h.run (by rw [List.nil_append,en];exact ft),λe' m=>?_,λz m=>?_,λj z f=>?_,by rw [ŕ];exact h.l3,⟨h.tg.e,h.tg.c,h.tg.w,h.tg.q,h.tg.l,h.tg.r,λj z f=>?_⟩,λb o n f=>?_,h.f1,λz m=>?_⟩
 .have f:(ys.set i u).map (λy=>V.ref y.w)=ys.map λy=>V.ref y.w:=by
   rw [List.map_set,I]
   refine List.ext_getElem? λj=>?_
   by_cases ji:i=j
   .subst ji
    rw [š (by rw [ν];exact O),Ż,D]
    rfl
   .rw [ŋ ji]
  exact f▸k _ _ (d _ (by rw [h.tg.w];lia) (by rw [h.tg.w];lia) (by rw [h.tg.w];decide) (by rw [h.tg.w];decide)) h.fw
 .rcases x m with z' | ⟨j,nj,ej⟩
  .rw [z'];exact wa
  .obtain ⟨u1,u2,u3⟩:=h.tg.y j z ej
   exact (h.wy z (ž ej)).fr k ts (d _ ω ω ω ω) (d _ ω ω ω ω) (d _ ω ω ω ω)
 .rw [Ž,Ŝ]
  rcases ź.mp m with m | m
  .have:=h.nm e' m
   exact ⟨ω,this.2⟩
  .rw [ϵ.mp m,en,h.nms i y D]
   have:=h.l3
   refine ⟨(by show (0:Int)<=_;lia),(by show ((i:Nat):Int)<9;lia)⟩
 .rcases x m with z' | ⟨j,nj,ej⟩
  .rw [z'];exact G
  .refine (h.iv z (ž ej)).other ?_
   rw [en,h.nms i y D,h.nms j z ej]
   intro z
   have:=congrArg Prod.fst z
   simp at this
   lia
 .rcases C f with ⟨rfl,rfl⟩ | ⟨nj,ej⟩
  .rw [a4];exact h.nms _ y D
  .exact h.nms j z ej
 .rcases C f with ⟨rfl,rfl⟩ | ⟨nj,ej⟩
  .rw [I,a2,Q];exact ⟨K,U,L⟩
  .exact h.tg.y j z ej
 .refine k b o (λm=>?_) (h.kp b o n f)
  rcases ϕ.mp m with z | m
  .rw [z,(h.fr y F).1] at f;cases f
  rcases ϕ.mp m with z | m
  .rw [z,(h.fr y F).2] at f;cases f
  rcases ϕ.mp m with z | m
  .rw [z,h.f1] at f;cases f
  .exact n m
 .rcases x m with z' | ⟨j,nj,ej⟩
  .rw [z',I,Q];exact h.fr y F
  .exact h.fr z (ž ej)
def LeI.dj(h:LeI H0 H g el c wl qs ll rs X0 X es eu ys cs){i:Nat}{y:Way}(j:ys[i]?=some y):Dj y el c rs:=by
 obtain ⟨k,l,o⟩:=h.tg.y i y j
 have q:=h.tg.c
 have t:=h.tg.e
 have d:∀{a b:ø},g a≠g b->a≠b:=λn z=>n (by rw [z])
 have f:∀{a:ø},g a≠5->a∉rs:=λn m=>n (h.tg.r _ m)
 unfold Dj
 simp only [List.nodup_cons,List.mem_cons,not_or]
 exact ⟨⟨d ω,d ω,d ω,d ω,f ω⟩,⟨d ω,d ω,d ω,f ω⟩,⟨d ω,d ω,f ω⟩,⟨d ω,f ω⟩,f ω,h.rw.nd⟩
def LeI.held(h:LeI H0 H g el c wl qs ll rs X0 X es eu ys cs){u:ø}{p:Pa}{xs:î Zc}{t:ø}{us:î V}(x:p.2=((es.length:Nat):Int)+1)(C:p.1<9)(P:Fit X (Zi p es) (.pact p xs (aR xs 0 X).1) X')(f:H u=none)(H1:Hp)(s:NI H H1)(D:H1 u=some (.lst us))
  (r:Rows H' c rs X')(Q:H' el=some (.lst (eu++[.ref t])))(F:NV H' (.pact p xs (aR xs 0 X).1) (.ref t))(k:NK (u::el::rs) H1 H'):LeI H0 H' g el c wl qs ll rs X0 X' (es++[.pact p xs (aR xs 0 X).1]) (eu++[.ref t]) ys cs:=by
 have h1:=h.keep s
 have ts:=gn k (λb m=>by
  rcases ϕ.mp m with z | m
  .exact ⟨_,z▸D⟩
  rcases ϕ.mp m with z | m
  .exact ⟨_,z▸h1.fe⟩
  .exact cQ h1.rw b m)
 have d:∀a,H a≠none->g a≠0->g a≠5->a∉u::el::rs:=λa J K L m=>by
  rcases ϕ.mp m with z | m
  .exact J (z▸f)
  rcases ϕ.mp m with z | m
  .exact K (z▸h.tg.e)
  .exact L (h.tg.r a m)
 refine ⟨r,Q,(NB h1.pe λ_ _ z=>z.keep ts).app (.cons F .nil),k _ _ (d _ (λz=>by rw [h.fw] at z;cases z) (by rw [h.tg.w];decide) (by rw [h.tg.w];decide)) h1.fw,λy m=>?_,k _ _ (d _ (λz=>by have e:H qs=some _:=h.fq;rw [e] at z;cases z) (by rw [h.tg.q];decide) (by rw [h.tg.q];decide)) h1.fq,k _ _ (d _ (λz=>by rw [h.fl] at z;cases z) (by rw [h.tg.l];decide) (by rw [h.tg.l];decide)) h1.fl,Run.app h.run (by rw [List.nil_append];exact P),λO m=>?_,λy m=>?_,h.nms,h.l3,h.tg,λb o n j=>?_,h.f1,h.fr⟩
 .obtain ⟨i,e⟩:=ť m
  obtain ⟨U,W,Y⟩:=h.tg.y i y e
  obtain ⟨l1,G,I⟩:=(h.wy y m).live
  exact (h1.wy y m).fr k ts (d _ l1 ω ω) (d _ G ω ω) (d _ I ω ω)
 .rw [Ž,Ŝ]
  rcases ź.mp m with m | m
  .have:=h.nm O m
   exact ⟨ω,this.2⟩
  .rw [ϵ.mp m]
   exact ⟨(by show p.2<=_;lia),C⟩
 .obtain ⟨i,e⟩:=ť m
  refine (h.iv y m).other ?_
  show p≠y.p
  rw [h.nms i y e]
  intro z
  rw [z] at x
  have x:(0:Int)=_:=x
  lia
 .refine k b o (λm=>?_) (h1.kp b o n j)
  rcases ϕ.mp m with z | m
  .subst z
   have:=h.kp b o n j
   cases f▸this
  rcases ϕ.mp m with z | m
  .rw [z,h.f1] at j;cases j
  .exact n m
end
inductive xP (K:ò) (vs:î V) (H:Hp) (Q:VK) (E:XK):Prop|mk sc ns c rs X0:vs=[.ref sc,.ref c]->NO K H sc ((ns:ć).map V.int)->ns.length<=63->Rows H c rs X0->pd (aB X0)->(∀el eu es X H',Rows H' c rs X->H' el=some (.lst eu)->Paired (NV H') es eu->es.length<=36->(∀e∈es,e.nm.1<9)->Run [] es X0 X->NK rs H H'->H el=none->Q (.ref el) H')->xP K vs H Q E
def Dl(ns:ć):∃cs:ć,bn (ns.map V.int) (some 9) (some 45)=cs.map V.int/\cs.length<=36:=by
 have d:HT.sIx (ns.map V.int).length 0 (some 9)=min 9 (ns.map V.int).length:=HT.cP _ _ 9
 have e:HT.sIx (ns.map V.int).length (ns.map V.int).length (some 45)=min 45 (ns.map V.int).length:=HT.cP _ _ 45
 refine ⟨(ns.drop (min 9 (ns.map V.int).length)).take (min 45 (ns.map V.int).length-min 9 (ns.map V.int).length),?_,?_⟩
 .unfold bn
  rw [d,e,ģ,List.map_drop]
 .rw [ŷ,Ś]
  lia
def Br{X0:î (ć)}{d:î En}{y:Way}(h:WIv X0 d y):y.ats.length<=d.length:=by
 rw [h.lf]
 unfold left
 rw [ŷ]
 have h1:(aT (Zi y.p d)).length<=(Zi y.p d).length:=List.length_filterMap_le _ _
 have e:(Zi y.p d).length<=d.length:=List.length_filter_le _ _
 lia
def C0(F:Fun K "_law_entries" "_law_entries" bf f fd)(B:TxB mg)(GA:GF P w K mg base Za 1 "_law_cell" L0 (nN K))(GN:GF P w K mg base Za 4 "_law_new_way" MQ B8)(GS:GF P w K mg base Za 3 "_law_steps" KS vd)
  (GH:GF P w K mg base Za 2 "_law_held" KU ug)(GW:GF P w K mg base Za 2 "_law_walk" GJ t7)(GB:GF P w K mg base Za 2 "_law_back" GJ Cc):NH P w K mg base Za 5 f fd Nj (xP K):=by
 refine F.oj sc__law_entries λee A cF s H vs Q E hr h=>?_
 obtain ⟨sc,ns,c,rs,X0,rfl,hS,dB,Z,ad,q⟩:=h
 have nd:=sc__law_entries.nd
 have hz:(1000:Nat)<=sizeLine:=by decide
 have sm:Sml X0:=λm hm=>Int.le_trans (ad.2.2 m hm).2 ζ
 have lX:X0.length=(aB X0).length:=by unfold aB;rw [List.length_map]
 have dT:=ad.2.1
 have dV:=ad.1
 refine ⟨_,ac (sN 2 nd (fz jE rfl (cg (pv 1)) (λ_ _ _ _=>bo) (λ_ _ _ _=>aq (r:=Cm K) az rfl B.len Ź (Zd (pv 0)))))
  (ac (f7 (iy:=3) jD rfl (bD rfl B.range (Zd af)) (λ_ _ _ _=>bo) (λ_ _ _ _=>pc GN hr (aj (aA (Zb (pv 0) af)) (Zb (pc GA hr (Zb (pv 1) (ai aU af (pv 0)))) (pv 2)))) nd rfl (Or.inl rfl))
  (ac (sN 4 nd (bF aO))
  (ac (eQ Ņ rfl (cg (aL dY (pv 0) (aN af) (aN af))) (gN 5 nd)
   (au (aC (Zl (ai aG (pv 5) af) af)
    (ac (sN 6 nd (aA (Zb (ai aG (ai cw (pv 5) af) (aq az rfl B.len Ź (Zd (pv 2)))) (ai aU (aq az rfl B.len Ź (Zd (pv 4))) af))))
    (au (bz (pc GH hr (aj (pv 6) (aj (pc GS hr (aj (ai cw (pv 5) af) (Zb (ai aU af (ai aG (ai cw (pv 5) af) af)) (pv 2)))) (Zb (pv 1) (pv 4))))))))
    (au (aC (PW.pt (cU (bj (ixL K (bc K (pv 3) (ai aG (pv 5) af)))) (cR (Zl (ai aG (ai cw (pv 5) af) af) af))))
     (au (bz (pc GB hr (aj (bc K (pv 3) (ai aG (pv 5) af)) (Zb (pv 1) (pv 4))))))
     (au (bz (pc GW hr (aj (bc K (pv 3) (ai aG (pv 5) af)) (Zb (pv 1) (pv 4)))))))))))
  (Ze (pv 4))))),?_⟩
 refine ⟨_,ϱ,c,ϱ,⟨_,Nz Z.l⟩,?_⟩
 refine vM Z ω (λO bt=>?_)
 have s1:=aa (o:=.lst ((aB X0).map V.int)) bt
 have bL:Sz (upd H O (.lst ((aB X0).map V.int))) O (aB X0):=Ny
 have bN:=Z.keep s1
 have ch:=s1.seq hS
 have cl:c≠O:=ap Z.l bt
 generalize (upd H O (.lst ((aB X0).map V.int)))=H1 at s1 bL bN ch ⊢
 have co:∀a∈rs,a≠O:=λa m=>by
  obtain ⟨xs,e⟩:=Z.at m
  exact ap e bt
 have g0:WyI H H1 (λa=>if a=O then 3 else if a=c then 1 else 5) c O rs X0 []:=⟨bN,bL,(λy m=>by cases m),(λy m=>by cases m),(λi y e=>by cases e),(by show (if c=O then 3 else if c=c then 1 else 5)=1;rw [ŵ cl,ů rfl]),ů rfl,(λa m=>by
  show (if a=O then 3 else if a=c then 1 else 5)=5
  rw [ŵ (co a m),ŵ (λ(z:a=c)=>Z.nc (z▸m))]),(λi y e=>by cases e),(λy m=>by cases m),s1⟩
 refine ⟨_,ϱ,ζ,ζ,?_⟩
 refine iK (n:=3) (λi vs H'=>∃C g,vs=C.map (λy:Way=>V.ref y.w)/\C.length=i/\WyI H H' g c O rs X0 C) ⟨[],_,ϱ,ϱ,g0⟩ ζ ?_ ?_
 .rintro i vs H2 hi ⟨C,g,rfl,rfl,I⟩
  refine fW ⟨_,ϱ,χ,λpa bA=>?_⟩
  have s2:=aa (o:=.tup [.int ((C.length:Nat):Int),.int 0]) bA
  have b0:(upd H2 pa (.tup [.int ((C.length:Nat):Int),.int 0])) pa=some (.tup [.int ((C.length:Nat):Int),.int 0]):=Ny
  generalize (upd H2 pa (.tup [.int ((C.length:Nat):Int),.int 0]))=H3 at s2 b0 ⊢
  have e6:(6:Int)+((C.length:Nat):Int)=((6+C.length:Nat):Int):=by lia
  refine ⟨_,ϱ,_,ϱ,_,_,ϱ,ϱ,sc,ns,6+C.length,by show [V.ref sc,V.int (6+((C.length:Nat):Int))]++[]=_;rw [e6];rfl,s2.seq (I.sm.seq hS),_,ϱ,pa,(((C.length:Nat):Int),0),_,O,aB X0,ϱ,b0,s2 _ _ I.fq,ad,λy H4 a1 a2 a3 a4 a5 a6 wa ar th ne d4 nn n1 n2 n3 d1 d2 d3 s4=>?_⟩
  have fp:FitP true X0 y.xs:=⟨ar,ne,d4,λj hj x ex=>th x (ž ex),λ_=>nn⟩
  exact ⟨C++[y],_,by rw [ż];rfl,by rw [Ž];rfl,I.app (s2.trans s4) wa fp a3 a4 a5 a6 a2 (none_of s2 n1) (none_of s2 n2) (none_of s2 n3) d1 d2 d3⟩
 .rintro vs H2 ⟨C,g,rfl,l3,I⟩ Y c5
  have s3:=aa (o:=.lst (C.map λy=>V.ref y.w)) c5
  refine ⟨χ,λD ak=>?_⟩
  have s4:=aa (o:=.lst []) ak
  obtain ⟨cs,cf,dC⟩:=Dl ns
  have cp:=(s3.trans s4).seq (I.sm.seq hS)
  refine ⟨_,ϱ,_,ϱ,_,ϱ,sc,_,ϱ,cp,λW a7=>?_⟩
  rw [cf]
  have s5:=aa (o:=.lst (cs.map V.int)) a7
  have ah:=s3.trans (s4.trans s5)
  have cv:Y≠D:=λz=>by rw [← z,Ny] at ak;cases ak
  have bS:Y≠W:=λz=>by rw [← z,s4 _ _ Ny] at a7;cases a7
  have bT:D≠W:=λz=>by rw [← z,Ny] at a7;cases a7
  have cx:∀a,H2 a≠none->a≠Y/\a≠D/\a≠W:=λa z=>by
   cases ea:H2 a with
   | none=>exact absurd ea z
   | some o=>exact ⟨ap ea c5,ap (s3 _ _ ea) ak,ap (s4 _ _ (s3 _ _ ea)) a7⟩
  obtain ⟨G,eG⟩:∃G:ø->Nat,G=λa=>if a=Y then 2 else if a=D then 0 else if a=W then 4 else g a:=⟨_,ϱ⟩
  have L:∀a,H2 a≠none->G a=g a:=λa z=>by
   obtain ⟨o1,o2,o3⟩:=cx a z
   rw [eG]
   show (if a=Y then 2 else if a=D then 0 else if a=W then 4 else g a)=g a
   rw [ŵ o1,ŵ o2,ŵ o3]
  have tg:Tg G D c Y O W rs C:=by
   refine ⟨?_,?_,?_,?_,?_,λa m=>?_,λi y e=>?_⟩
   .rw [eG]
    show (if D=Y then 2 else if D=D then 0 else if D=W then 4 else g D)=0
    rw [ŵ cv.symm,ů rfl]
   .rw [L c (λz=>by cases I.rw.l▸z)]
    exact I.gc
   .exact eG▸ů rfl
   .rw [L O (λz=>by have e:H2 O=some _:=I.fq;cases e▸z)]
    exact I.gq
   .rw [eG]
    show (if W=Y then 2 else if W=D then 0 else if W=W then 4 else g W)=4
    rw [ŵ bS.symm,ŵ bT.symm,ů rfl]
   .rw [L a (λz=>by obtain ⟨xs,e⟩:=I.rw.at m;cases e▸z)]
    exact I.gr a m
   .obtain ⟨k1,k2,k3⟩:=(I.wy y (ž e)).live
    rw [L _ k1,L _ k2,L _ k3]
    exact I.gy i y e
  have bl:LeI H (upd (upd (upd H2 Y (.lst (C.map λy=>V.ref y.w))) D (.lst [])) W (.lst (cs.map V.int))) G D c Y O W rs X0 X0 [] [] C cs:=by
   refine ⟨I.rw.keep ah,s5 _ _ Ny,.nil,s5 _ _ (s4 _ _ Ny),λy m=>(I.wy y m).fr (S:=[]) (ND ah) ah.ts (λm=>by cases m) (λm=>by cases m) (λm=>by cases m),ah _ _ I.fq,Ny,ϱ,(λe m=>by cases m),λy m=>?_,I.nms,l3,tg,ND (I.sm.trans ah),none_of (I.sm.trans s3) ak,λy m=>⟨(I.fr y m).1,(I.fr y m).2.2⟩⟩
   obtain ⟨f1,f2,f3,f4,f5⟩:=I.iv y m
   exact ⟨f1,(λb m=>by cases m),f4,ι _,λ_=>⟨(λb m=>by cases m),.inl ⟨ϱ,f2,f3⟩⟩,by rw [f2];exact ϖ _,(λj m=>by cases f4▸m)⟩
  generalize (upd (upd (upd H2 Y (.lst (C.map λy=>V.ref y.w))) D (.lst [])) W (.lst (cs.map V.int)))=H5 at bl ⊢
  refine ⟨W,ϱ,⟨_,Nz bl.fl⟩,?_⟩
  refine zx (xs:=cs.map V.int) (λi σ H'=>∃y5 y6 X es U C,σ=[some (.ref sc),some (.ref c),some (.ref O),some (.ref Y),some (.ref D),y5,y6]/\LeI H H' G D c Y O W rs X0 X es U C cs/\es.length<=i) ⟨none,none,X0,[],[],C,rfl,bl,ι _⟩ (λi σ H' _ z=>by obtain ⟨_,_,_,_,_,_,_,z,_⟩:=z;exact Nz z.fl) ?_ ?_
  .rintro i u σ H6 hu ⟨y5,y6,X,es,U,C,rfl,d,li⟩
   rw [Ż] at hu
   obtain ⟨n,en,rfl⟩:=ř.mp hu
   have hi:i<36:=by have:=(ſ.mp en).1;lia
   have J:aB X=aB X0:=d.run.sz
   have b1:Sml X:=λm hm=>sm m (J▸hm)
   have e7:es.length=U.length:=d.pe.len
   refine ⟨_,ϱ,_,_,ϱ,ϱ,Qa 3,ϱ,_,ϱ,aP (λc1=>?_) (λc1=>?_)⟩
   .have cz:((aB X0).map V.int).length=(aB X0).length:=ν _
    refine ⟨_,ϱ,_,_,ϱ,ϱ,⟨ζ,ζ⟩,_,ϱ,O,_,ϱ,.inl (Nz d.fq),_,_,ϱ,ϱ,by rw [cz];lia,_,ϱ,D,_,ϱ,.inl (Nz d.fe),_,_,ϱ,ϱ,χ,λpa bA=>?_⟩
    have s7:=aa (o:=.tup [.int (n/4%((((aB X0).map V.int).length:Nat):Int)),.int (((U.length:Nat):Int)+1)]) bA
    have b0:(upd H6 pa (.tup [.int (n/4%((((aB X0).map V.int).length:Nat):Int)),.int (((U.length:Nat):Int)+1)])) pa=_:=Ny
    have a0:=d.keep s7
    have e0:=Ů (n/4) (show (5:Int)≠0 by decide)
    have e1:=Ŵ (n/4) (show (0:Int)<5 by decide)
    obtain ⟨m,em⟩:∃m:Nat,1+n/4%5=(m:Int):=⟨(1+n/4%5).toNat,ω⟩
    refine ⟨_,ϱ,_,ϱ,_,_,ϱ,ϱ,⟨ζ,ζ⟩,_,ϱ,_,_,ϱ,ϱ,⟨ζ,ζ⟩,_,_,ϱ,ϱ,Qa 4,_,_,ϱ,ϱ,_,ϱ,_,m,O,aB X0,by show [V.int (n/20),V.int (1+n/4%5),V.ref O]++[]=_;rw [em];rfl,ω,a0.fq,ad,λsl us xs H8 s8 ab c2 st lx ar th=>?_⟩
    have c0:=a0.keep s8
    refine ⟨_,ϱ,_,ϱ,pa,(n/4%((((aB X0).map V.int).length:Nat):Int),((U.length:Nat):Int)+1),sl,us,xs,c,rs,X,D,U,ϱ,s8 _ _ b0,c2,st,ar,λx hx=>by rw [J];exact th x hx,(λz=>by rw [z] at lx;simp at lx;lia),ω,c0.rw,b1,c0.fe,ω,?_,?_,?_,λfc t H9 d6 d7 d8 c3 d9 dc dd di k9=>?_⟩
    .intro m'
     rcases ϕ.mp m' with z | m'
     .rw [z,a0.rw.l] at ab;cases ab
     .obtain ⟨z,e⟩:=a0.rw.at m'
      cases e▸ab
    .intro m'
     rcases ϕ.mp m' with z | m'
     .have:=d.tg.e
      rw [z,d.tg.c] at this
      cases this
     .have:=d.tg.r _ m'
      rw [d.tg.e] at this
      cases this
    .intro z
     rw [z,a0.fe] at ab;cases ab
    .have ft:Fit X (Zi (n/4%((((aB X0).map V.int).length:Nat):Int),((U.length:Nat):Int)+1) es) _ _:=zr (p:=(n/4%((((aB X0).map V.int).length:Nat):Int),((U.length:Nat):Int)+1)) J (λe m' z=>by
      have:=(d.nm e m').1
      rw [z] at this
      have:((U.length:Nat):Int)+1<=_:=this
      lia) d6 d7 d8 c3 d9
     exact ⟨_,_,_,_,_,C,ϱ,a0.held (by show ((U.length:Nat):Int)+1=_;lia) (by have:=Ŵ (n/4) (show 0<((((aB X0).map V.int).length:Nat):Int) by lia);show n/4%((((aB X0).map V.int).length:Nat):Int)<9;lia) ft ab H8 s8 c2 dc dd di k9,by rw [Ž,Ŝ];lia⟩
   .have m0:=Ů n (show (4:Int)≠0 by decide)
    have m4:=Ŵ n (show (0:Int)<4 by decide)
    have m3:n%4≠3:=λz=>c1 (τ (congrArg V.int z))
    have ec:=d.l3
    obtain ⟨j,ej⟩:∃j:Nat,n%4=(j:Int):=⟨(n%4).toNat,ω⟩
    obtain ⟨y,ey⟩:∃y,C[j]?=some y:=⟨_,ξ ω⟩
    have my:=ž ey
    have wa:=d.wy y my
    have iv:=d.iv y my
    have b2:atI (C.map λy=>V.ref y.w) (n%4)=some (.ref y.w):=by
     rw [ej]
     exact ay (by rw [Ż,ey];rfl)
    have bm:pG X y.xs:=(rO J iv.fp).all
    have ed:=Br iv
    refine ⟨_,ϱ,_,ϱ,_,_,ϱ,ϱ,Qa 3,Y,_,_,_,ϱ,ϱ,Nz d.fw,b2,y.w,_,_,_,ϱ,ϱ,Nz wa.fw,at5,_,ϱ,?_⟩
    cases hu:y.u with
    | true=>exact bx (bx ⟨_,rfl,_,rfl,_,_,rfl,rfl,Qa 3,Y,_,_,_,rfl,rfl,Nz d.fw,b2,_,rfl,_,rfl,y,c,rs,X,D,U,rfl,wa,d.rw,b1,d.fe,ω,ω,d.dj ey,iv.fp.1,bm,iv.fp.2.2.1,iv.ho,λH' s'=>⟨_,y6,X,es,U,C,rfl,d.keep s',ω⟩,λr k x t H' ea hg ex al an as av k'=>⟨_,y6,_,_,_,_,rfl,d.one ey rfl (iv.back (X:=X) J ea hg ex).1 (iv.back (X:=X) J ea hg ex).2 rfl rfl rfl rfl al an as av k',by rw [Ž,Ŝ];lia⟩⟩)
    | false =>
     refine a8 ⟨_,ϱ,_,_,ϱ,ϱ,⟨ζ,ζ⟩,_,_,ϱ,ϱ,Qa 4,ϱ,_,ϱ,aP (λ_=>?_) (λ_=>?_)⟩
     .exact ⟨_,ϱ,_,ϱ,_,_,ϱ,ϱ,Qa 3,Y,_,_,_,ϱ,ϱ,Nz d.fw,b2,_,ϱ,_,ϱ,y,c,rs,X,D,U,ϱ,wa,d.rw,b1,d.fe,ω,ω,d.dj ey,iv.fp.1,bm,iv.fp.2.2.1,iv.ho,λH' s'=>⟨_,y6,X,es,U,C,ϱ,d.keep s',ω⟩,λr k x t H' ea hg ex al an as av k'=>⟨_,y6,_,_,_,_,ϱ,d.one ey rfl (iv.back (X:=X) J ea hg ex).1 (iv.back (X:=X) J ea hg ex).2 rfl rfl rfl rfl al an as av k',by rw [Ž,Ŝ];lia⟩⟩
     .exact ⟨_,ϱ,_,ϱ,_,_,ϱ,ϱ,Qa 3,Y,_,_,_,ϱ,ϱ,Nz d.fw,b2,_,ϱ,_,ϱ,y,c,rs,X,D,U,ϱ,wa,d.rw,b1,d.fe,ω,ω,d.dj ey,iv.fp.1,bm,iv.fp.2.2.1,iv.la,λH' r' k'=>⟨_,y6,X,es,U,C,ϱ,d.rows r' k',ω⟩,λk fh h X' t H' fw al an as av k'=>⟨_,y6,_,_,_,_,ϱ,d.one ey rfl (iv.walk J hu fw).1 (iv.walk J hu fw).2 rfl rfl rfl rfl al an as av k',by rw [Ž,Ŝ];lia⟩⟩
  .rintro σ H6 ⟨y5,y6,X,es,U,C,rfl,d,li⟩
   rw [ν] at li
   exact ⟨_,ϱ,q D U es X H6 d.rw d.fe d.pe ω (λe m=>(d.nm e m).2) d.run d.kp d.f1⟩
variable {P1 P2:ø}
inductive qO (K:ò) (vs:î V) (H:Hp) (Q:VK) (E:XK):Prop|mk sc ns:vs=[.ref sc]->NO K H sc ((ns:ć).map V.int)->(∀c rs X H',Rows H' c rs X->pd (aB X)->NI H H'->Q (.ref c) H')->qO K vs H Q E
def xC(X:î (ć))(r:ć):aB (X++[r])=aB X++[((r.length:Nat):Int)]:=by
 unfold aB
 rw [ż]
 rfl
def yN(F:Fun K "_law_first" "_law_first" cO f fd)(B:TxB mg)(GA:GF P w K mg base Za 1 "_law_cell" L0 (nN K))(GS:GF P w K mg base Za 2 "_law_stream" HL u7)(GM:GF P w K mg base Za 1 "_law_amount" MH ve):NH P w K mg base Za 3 f fd MO (qO K):=by
 refine F.oj sc__law_first λbC A ar s H vs Q E hr h=>?_
 obtain ⟨sc,L,rfl,hS,q⟩:=h
 have nd:=sc__law_first.nd
 have hz:(1000:Nat)<=sizeLine:=by decide
 refine ⟨_,ac (sN 1 nd (bF aO))
  (ac (eQ Ņ rfl (bD rfl B.range (Zd (ai aU af (ai aG (pc GA hr (Zb (pv 0) af)) af)))) (gN 2 nd)
   (ac (sN 3 nd (pc GS hr (Zb (pc GA hr (Zb (pv 0) (ai aU af (pv 2)))) af)))
   (au (bz (dg Ţ ş Ş cE (pv 1) (Zd (fz mf rfl (cg (aL dY (pv 3) ba (aN (ai aU af (ai aG (ixL K (pv 3)) af))))) (λ_ _ _ _=>bo) (λ_ _ _ _=>pc GM hr (Zb (pv 0) (ixL K (pv 1)))))))))))
  (Ze (pv 1))),?_⟩
 refine ⟨χ,λc nc=>?_⟩
 have s1:=aa (o:=.lst []) nc
 have e0:=Ů (cT L 0) (show (5:Int)≠0 by decide)
 have e1:=Ŵ (cT L 0) (show (0:Int)<5 by decide)
 obtain ⟨n,en⟩:∃n:Nat,1+cT L 0%5=(n:Int):=⟨(1+cT L 0%5).toNat,ω⟩
 have n1:1<=n:=by lia
 have n5:n<=5:=by lia
 refine ⟨_,ϱ,sc,L,0,ϱ,s1.seq hS,_,_,ϱ,ϱ,Qa 4,_,_,ϱ,ϱ,_,ϱ,ω,ω,?_⟩
 have ah:(1+cT L 0%5).toNat=n:=by lia
 rw [ah]
 refine cH (n:=n) (λi σ D=>∃y2 y3 U X,σ=[some (.ref sc),some (.ref c),y2,y3]/\Rows D c U X/\X.length=i/\(∀m∈aB X,1<=m/\m<=8)/\NI H D) ⟨none,none,[],[],ϱ,⟨Ny,.nil,List.nodup_nil⟩,ϱ,(λm hm=>by cases hm),s1⟩ ?_ ?_
 .rintro i σ H2 hi ⟨y2,y3,U,X,rfl,G,lx,hm,s2⟩
  have ei:(0:Int)+(i:Nat)=((i:Nat):Int):=ĕ _
  rw [ei]
  have ak:(1:Int)+((i:Nat):Int)=((1+i:Nat):Int):=by lia
  refine ⟨_,ϱ,_,ϱ,_,_,ϱ,ϱ,sc,L,1+i,by show [V.ref sc,V.int (1+((i:Nat):Int))]++[]=_;rw [ak];rfl,s2.seq hS,_,9,ϱ,ζ,λxl d H3 s3 bG O l9 a3=>?_⟩
  obtain ⟨g,Y⟩:∃g,d[8]?=some g:=⟨_,ξ ω⟩
  have i8:=a3 g (ž Y)
  have Z:atI (d.map V.int) 8=some (.int g):=ay (j:=8) (by rw [Ż,Y];rfl)
  have f0:=Ů g (show (8:Int)≠0 by decide)
  have f1:=Ŵ g (show (0:Int)<8 by decide)
  obtain ⟨m,em⟩:∃m:Nat,1+g%8=(m:Int):=⟨(1+g%8).toNat,ω⟩
  have t:=G.keep s3
  refine ⟨_,ϱ,.inl ⟨ϱ,_,Nz t.l⟩,_,ϱ,_,ϱ,xl,_,_,_,ϱ,ϱ,Nz O,Z,_,_,ϱ,ϱ,Qa 7,_,_,ϱ,ϱ,_,ϱ,xl,_,ϱ,Nz O,λcl av=>?_⟩
  have ec:bn (d.map V.int) none (some (1+g%8))=(d.take m).map V.int:=by
   rw [em,dq _ _ (by rw [ν];lia),ģ]
  have W:=aa (o:=.lst ((d.take m).map V.int)) av
  have a0:(upd H3 cl (.lst ((d.take m).map V.int))) cl=some (.lst ((d.take m).map V.int)):=Ny
  refine ⟨cl,ϱ,⟨(d.take m).map V.int,Nz (by rw [Ny,ec])⟩,?_⟩
  rw [ec]
  generalize (upd H3 cl (.lst ((d.take m).map V.int)))=H4 at W a0 ⊢
  have lt:(d.take m).length=m:=by rw [ŷ];lia
  refine eg (xs:=(d.take m).map V.int) (λj ys D=>D=H4/\∃I:ć,ys=I.map V.int/\I.length=j) ⟨ϱ,[],ϱ,ϱ⟩ (by rw [ν];lia) (λj ys D _ z=>by rw [z.1];exact Nz a0) ?_ ?_
  .rintro j u ys D hu ⟨rfl,I,rfl,lw⟩
   rw [Ż] at hu
   obtain ⟨x,ex,rfl⟩:=ř.mp hu
   have ix:=a3 x (ň (ž ex))
   exact fW ⟨_,ϱ,_,ϱ,xl,_,_,_,ϱ,ϱ,Nz (W _ _ O),Z,x,g,ϱ,ix,i8,λr hr=>⟨ϱ,I++[r],by rw [ż];rfl,by rw [Ž,lw];rfl⟩⟩
  .rintro ys D ⟨rfl,I,rfl,lw⟩ rl J
   rw [ν,lt] at lw
   have s5:=aa (o:=.lst (I.map V.int)) J
   have C:=(t.keep W).keep s5
   have bB:X.length=U.length:=G.r.len
   refine ⟨c,_,_,ϱ,ϱ,C.l,by rw [ν];lia,?_⟩
   have al:rl≠c:=λz=>by rw [z,(t.keep W).l] at J;cases J
   have kc:NK [c] (upd D rl (.lst (I.map V.int))) (upd (upd D rl (.lst (I.map V.int))) c (.lst (U.map V.ref++[.ref rl]))):=NK.upd Ω
   refine ⟨_,_,U++[rl],X++[I],ϱ,⟨by rw [Ny,ż];rfl,?_,?_⟩,by rw [Ž,lx];rfl,λk hk=>?_,λb o e=>?_⟩
   .refine Paired.app (gF C.r λx y my e=>kc _ _ (λz=>C.nc (ϵ.mp z▸my)) e) (.cons (kc _ _ (λz=>al (ϵ.mp z)) Ny) .nil)
   .rw [ĝ]
    refine ⟨C.nd,by simp,λa ma b mb e=>?_⟩
    rw [e,ϵ.mp mb] at ma
    obtain ⟨z,ez⟩:=(t.keep W).at ma
    cases ez▸J
   .rw [xC] at hk
    rcases ź.mp hk with hk | hk
    .exact hm k hk
    .rw [ϵ.mp hk,lw]
     lia
   .refine kc _ _ (λz=>?_) (s5 _ _ (W _ _ (s3 _ _ (s2 _ _ e))))
    rw [ϵ.mp z,nc] at e
    cases e
 .rintro σ H2 ⟨y2,y3,U,X,rfl,G,lx,hm,s2⟩
  refine ⟨_,ϱ,q c U X H2 G ⟨?_,?_,hm⟩ s2⟩
  .unfold aB
   rw [ν]
   lia
  .unfold aB
   rw [ν]
   lia
def uk{H:Hp}{a b:ø}{n:Nat}{us vs:î V}(ha:H a=some (.lst us))(hb:H b=some (.lst vs))(h:Paired (λx y=>EqIs K n H x y true) us vs):uT K (n+1) H (.ref a) (.ref b) true/\xc K (n+1) H (.ref a) (.ref b) true:=by
 have f:∀(P:ù) (w:ö) (A:ô) (s:ú) (u v:ó),A.units+(n+1)<cLine->NS P w H s.heap->K.In s.heap->NP (.ref a) u->NP (.ref b) v->SeqAt.RcAt A s u v true/\SeqAt.RcNeAt A s u v (!true):=by
  intro P w A s u v hA g G r1 r2
  cases r1
  cases r2
  obtain ⟨_,k,n1,I,W⟩:=(show NR P w H s.heap a (.lst us) from g a _ ha)
  obtain ⟨_,o,n2,J,X⟩:=(show NR P w H s.heap b (.lst vs) from g b _ hb)
  have l1:=I.length
  have l2:=J.length
  have l3:=h.len
  have q1:s.heap.IsList a k.toArray:=⟨_,W,ϱ,_,ϱ⟩
  have q2:s.heap.IsList b o.toArray:=⟨_,X,ϱ,_,ϱ⟩
  have d:∀j (h1:j<k.toArray.size) (l:j<o.toArray.size),SeqAt.EqAt A.in1 s k.toArray[j] o.toArray[j] ((λ_=>true) j):=λj h1 l=>by
   have r:j<k.length:=by simpa using h1
   have t:j<o.length:=by simpa using l
   have Q:us[j]?=some us[j]:=ξ ω
   obtain ⟨y,Y,Z⟩:=h.get1 Q
   obtain ⟨u,L,ru⟩:=I.get Q
   obtain ⟨v,O,rv⟩:=J.get Y
   have q:=Z P w A.in1 s u v (by show A.units+1+n<cLine;lia) g G ru rv
   have z1:k.toArray[j]=u:=by
    rw [ξ r] at L
    simpa using Option.some.inj L
   have z2:o.toArray[j]=v:=by
    rw [ξ t] at O
    simpa using Option.some.inj O
   rw [z1,z2]
   exact q
  have z:=PySem.SeqAt.RcAt.lists (A:=A) (s:=s) (e:=λ_=>true) q1 q2 (by simp;lia) ω d
  have U:=PySem.SeqAt.RcNeAt.lists (A:=A) (s:=s) (e:=λ_=>true) q1 q2 (by simp;lia) ω d
  have ez:((List.range k.toArray.size).all λ_=>true)=true:=by simp
  rw [ez] at z U
  exact ⟨z,U⟩
 exact ⟨λP w A s u v h1 l C D F=>(f P w A s u v h1 l C D F).1,λP w A s u v h1 l C D F=>(f P w A s u v h1 l C D F).2⟩
def Dk{H:Hp}{a b:ø}{n:Nat}{us vs:î V}(ha:H a=some (.lst us))(hb:H b=some (.lst vs))(h:Paired (λx y=>EqIs K n H x y true) us vs):EqIs K (n+1) H (.ref a) (.ref b) true:=oX (uk ha hb h).1 λ_ _ _ _ _ _=>rfl
theorem vR{H:Hp}:∀ns:ć,Paired (λx y=>EqIs K 0 H x y true) (ns.map V.int) (ns.map V.int)
 | []=>.nil
 | n::r=>.cons (eq_int 0 n) (vR r)
theorem vg{H:Hp}:∀{X:î (ć)} {rs qs:ĉ},Paired (λ(xs:ć) a=>H a=some (.lst (xs.map V.int))) X rs->Paired (λ(xs:ć) a=>H a=some (.lst (xs.map V.int))) X qs->Paired (λx y=>EqIs K 1 H x y true) (rs.map V.ref) (qs.map V.ref)
 | _,_,_,.nil,.nil=>.nil
 | _,_,_,.cons a r,.cons b t=>.cons (Dk a b (vR _)) (vg r t)
def nD{P1 P2 t:ø}{vs:î V}{H:Hp}{Q w:V->Hp->Prop}{E x:XK}(h:bK P1 P2 t vs H Q E)(U:∀v H',Q v H'->w v H')(W:∀ev c H',E ev c H'->x ev c H'):bK P1 P2 t vs H w x:=by
 obtain ⟨y,f,X,Y,C,D,g,F,G,j,tb,I,J,k,l,K,o,q⟩:=h
 refine ⟨y,f,X,Y,C,D,g,F,G,j,tb,I,J,k,l,K,o,?_⟩
 rcases q with ⟨z,q⟩ | ⟨e,u,r,z,ena,ar,x0,l13,ask,nf,qe⟩
 .exact .inl ⟨z,λc L H' a b O d=>U _ _ (q c L H' a b O d)⟩
 .exact .inr ⟨e,u,r,z,ena,ar,x0,l13,ask,nf,λP H' a b=>W _ _ _ (qe P H' a b)⟩
def xO(P1 P2 CF:ø):Sp:=λvs H Q _=>bK P1 P2 CF vs H (λ_ H'=>Q .non H') λev c H'=>c=some CF/\∃n tk,ev=.int n tk/\∀H'',NI H' H''->Q (.int n) H''
def xJ(P1 P2 CF:ø):Sp:=λvs H Q _=>bK P1 P2 CF vs H (λ_ H'=>Q (.bl false) H') λev c H'=>c=some CF/\∃n tk,ev=.int n tk/\∀H'',NI H' H''->Q (.bl true) H''
open XA in
structure TxF(K:ò)(mg:ď)(CF CN CT CE fF:ø):Prop where
 mF:mg "NoFit"=some (.ref CF)
 mN:mg "NoNeed"=some (.ref CN)
 mT:mg "NoText"=some (.ref CT)
 mE:mg "PactError"=some (.ref CE)
 vE:mg "ValueError"=none
 jF:MkX K CF fF
 xE:PySem.W.excIn K CE bmX "ValueError.__new__"=true
 ff:PySem.W.mroIn K CF (.ref CF)=some true
 fe:PySem.W.mroIn K CF (.ref CE)=some true
 kfn:PySem.W.kitOne K (.ref CF) (.ref CN)=some false
 kft:PySem.W.kitOne K (.ref CF) (.ref CT)=some false
 kfv:PySem.W.kitOne K (.ref CF) (.type "ValueError")=some true
def Bq:bootBuiltins "ValueError"=some (.type "ValueError"):=by decide +kernel
open XA in
def yM{d C D CE fF:ø}(F:Fun K "_law_found" "_law_found" gA f fd)(B:TxB mg)(Y:TxF K mg d C D CE fF)(GL:GF P w K mg base (CXA P w) 10 "played" MG (bK P1 P2 d)):NH P w K mg base Za 11 f fd HK (xO P1 P2 d):=by
 refine F.ok sc__law_found (λvs H Q E h=>?_) (λa2 A u s H vs Q E hr h=>?_)
 .obtain ⟨G,l,X,Y,I,J,r,L,rfl,_⟩:=h
  rfl
 have hv:∃a b,vs=[.ref a,.ref b]:=by
  obtain ⟨G,l,X,Y,I,J,r,L,rfl,_⟩:=h
  exact ⟨_,_,ϱ⟩
 obtain ⟨a,b,rfl⟩:=hv
 have nd:=sc__law_found.nd
 obtain ⟨fl,dl,O,U,W,Z⟩:=GL
 refine ⟨_,ac (vm (i:=2) (B1:=d) rfl rfl rfl nd rfl rfl (pP O hr rfl Z W U (Zb (pv 0) (pv 1))) rfl Y.mF
  (λev=>ac (aC (PW.pt (cU (bj (aq (o9 (K:=K) rfl) rfl B.isi ũ (Zb (pv 2) (dZ (v:=.ref C) rfl Y.mN rfl)))) (cR (bj (aq (o9 (K:=K) rfl) rfl B.isi ũ (Zb (pv 2) (dZ (v:=.ref D) rfl Y.mT rfl))))))) aQ ao) (Ze (Cy (K:=K) (pv 2) rfl))))
  (Ze gE),?_⟩
 refine ⟨_,ϱ,_,ϱ,?_⟩
 unfold jg
 refine nD h (λv H1 q=>q) λev c H1 z=>?_
 obtain ⟨rfl,n,tk,rfl,q⟩:=z
 refine ⟨_,tk,d,ϱ,ϱ,A8 Y.jF.own Y.ff,λe g x y=>?_⟩
 have t:NI H1 _:=aa (o:=uW e d g) x
 have j:=t _ _ y
 have k:IsX (upd H1 e (uW e d g)) e d g:=.inr Ny
 generalize (upd H1 e (uW e d g))=H2 at t j k ⊢
 refine ⟨_,ϱ,e,d,g,C,false,.inl ⟨ϱ,Y.kfn⟩,k,Y.jF.cx,_,ϱ,a8 ?_⟩
 refine ⟨_,ϱ,e,d,g,D,false,.inl ⟨ϱ,Y.kft⟩,k,Y.jF.cx,_,ϱ,a8 ?_⟩
 exact ⟨_,ϱ,e,d,g,_,ϱ,k,j,Y.jF.cx,q _ t⟩
open XA in
def ux{d Z CT CE fF:ø}(F:Fun K "_law_refused" "_law_refused" eJ f fd)(B:TxB mg)(Y:TxF K mg d Z CT CE fF)(GL:GF P w K mg base (CXA P w) 10 "played" MG (bK P1 P2 d)):NH P w K mg base Za 11 f fd HK (xJ P1 P2 d):=by
 refine F.ok sc__law_refused (λvs H Q E h=>?_) (λJ A j s H vs Q E L h=>?_)
 .obtain ⟨o,e,X,Y,r,t,g,u,rfl,_⟩:=h
  rfl
 have I:∃a b,vs=[.ref a,.ref b]:=by
  obtain ⟨o,e,X,Y,r,t,g,u,rfl,_⟩:=h
  exact ⟨_,_,ϱ⟩
 obtain ⟨a,b,rfl⟩:=I
 have nd:=sc__law_refused.nd
 obtain ⟨fl,dl,x,y,C,D⟩:=GL
 refine ⟨_,ac (vm (i:=2) (B1:=CE) rfl rfl rfl nd rfl rfl (pP x L rfl D C y (Zb (pv 0) (pv 1))) rfl Y.mE
  (λO=>Ze (aq (o9 (K:=K) rfl) rfl B.isi ũ (Zb (pv 2) (jK (v:=.ty "ValueError") rfl Y.vE Bq rfl)))))
  (Ze eS),?_⟩
 refine ⟨_,ϱ,_,ϱ,?_⟩
 unfold jg
 refine nD h (λv H1 q=>q) λO c H1 z=>?_
 obtain ⟨rfl,n,G,rfl,q⟩:=z
 refine ⟨_,G,d,ϱ,ϱ,yY Y.mE Y.xE Y.fe,λl U k W=>?_⟩
 exact ⟨_,ϱ,l,d,U,l,true,.inr ⟨_,ϱ,Y.kfv⟩,.inr Ny,Y.jF.cx,q _ (aa k)⟩
def Bad(X:î (ć))(bs:î En)(e:Ex):Prop:=ArS e.xs/\e.xs≠[]/\e.xs.length<=13/\Af bs e/\∀X',¬ph X bs e X'
def rB(m:Str)(xs:î Zc):(Zf m xs).length=m.length+1+(Str.join ("; ":Str) (xs.map sx)).length:=by
 have l1:(" ":Str).length=1:=by decide +kernel
 show ((m.cps++(" ":Str).cps)++(Str.join ("; ":Str) (xs.map sx)).cps).size=_
 rw [Ť,Ť]
 show m.length+(" ":Str).length+_=_
 rw [l1]
 rfl
def Cn(xs:î Zc):Zf (mS true) xs≠Zf (mS false) xs:=λh=>by
 have:=congrArg Str.length h
 rw [rB,rB] at this
 have a:(mS true).length=6:=by decide +kernel
 have b:(mS false).length=4:=by decide +kernel
 lia
def gK{X d:î (ć)}{bs:î En}{e:En}(h:Fit X bs e d):ArS e.ex.xs/\e.ex.xs≠[]/\e.ex.xs.length<=12:=by
 cases e<;>exact ⟨h.1.1,h.1.2.1,h.1.2.2.1⟩
def kn{X e:î (ć)}{bs:î En}{p:Pa}{xs:î Zc}{k:Nat}{cs:î (Int×Int)}(h:Fit X bs (.undo p xs k cs) e):∃r o,bs=r++[o]/\o.tx=Zf (mS true) xs:=by
 obtain ⟨_,fb,d,_⟩:=h
 obtain ⟨r,o,rfl⟩:∃r o,bs=r++[o]:=⟨_,_,(List.dropLast_concat_getLast d).symm⟩
 refine ⟨r,o,ϱ,?_⟩
 rcases fb o (Ψ _ Ω) with ⟨p',k',cs',h',rfl⟩ | ⟨p',k',cs',rfl⟩<;>rfl
def Ex.flip:Ex->Ex
 | .pact p b xs hs=>.pact p (!b) xs hs
 | .step p b xs k cs h=>.step p (!b) xs k cs h
 | .undo p b xs k cs=>.undo p (!b) xs k cs
def zV{X t:î (ć)}{bs:î En}{e:En}(h:Fit X bs e t)(ok:∀o∈bs,OkE o):Bad X bs e.ex.flip:=by
 have d:=gK h
 have q:=iY h ok
 cases e with
 | pact p xs hs=>exact ⟨d.1,d.2.1,υ d.2.2,ϰ,λg z=>by cases z.2.2.1.1⟩
 | step p xs k cs hh=>exact ⟨d.1,d.2.1,υ d.2.2,q,λg z=>by cases z.2.2.1⟩
 | undo p xs k cs =>
  obtain ⟨r,o,j,l⟩:=kn h
  have f:z7 bs false xs:=.inr ⟨r,o,j,by rw [l];exact Cn xs⟩
  exact ⟨d.1,d.2.1,υ d.2.2,.inl f,λg z=>z.2.2.1 f⟩
def xa{X g:î (ć)}{bs:î En}{p:Pa}{xs:î Zc}{f d:ć}(h:Fit X bs (.pact p xs f) g)(n:d≠f):Bad X bs (.pact p false xs d):=by
 have e:=gK h
 exact ⟨e.1,e.2.1,υ e.2.2,ϰ,λj z=>n (z.2.2.1.2.2.2.symm.trans h.2.2.2.1.symm)⟩
def zT{X w:î (ć)}{bs:î En}{p:Pa}{xs:î Zc}{k:Nat}{cs cs':î (Int×Int)}{j h' k':Int}(h:Fit X bs (.step p xs k cs j) w)(ok:∀o∈bs,OkE o)(n:¬(k'=k/\cs'=cs/\h'=j)):Bad X bs (.step p true xs k' cs' h'):=by
 have f:=gK h
 have t:=iY h ok
 have u:=sY h
 refine ⟨f.1,f.2.1,υ f.2.2,t,λH z=>n ?_⟩
 obtain ⟨_,_,_,_,y,h0,l,k1,C,f1,_,x,ex,q,_⟩:=u
 obtain ⟨_,_,_,_,r,D,e,k2,F,f2,_,G,d,g,_⟩:=z
 obtain ⟨rfl,rfl⟩:=fE l e
 obtain rfl:=qo f1 f2
 rw [ex] at d
 cases d
 rw [q] at g
 cases g
 exact ⟨ω,ϱ,ϱ⟩
def tI{X q:î (ć)}{bs:î En}{p:Pa}{xs:î Zc}{k:Nat}{cs cs':î (Int×Int)}{k':Int}(h:Fit X bs (.undo p xs k cs) q)(ok:∀o∈bs,OkE o)(n:¬(k'=k/\cs'=cs)):Bad X bs (.undo p true xs k' cs'):=by
 have e:=gK h
 have j:=iY h ok
 have l:=sY h
 refine ⟨e.1,e.2.1,υ e.2.2,j,λw z=>n ?_⟩
 obtain ⟨_,_,_,k1,r,f1,_,x,ex,f,_⟩:=l
 obtain ⟨_,_,_,k2,t,f2,_,u,d,g,_⟩:=z
 rw [f1] at f2
 cases f2
 rw [ex] at d
 cases d
 exact ⟨ω,g.symm.trans f⟩
def t50:Zc:=(.take,[5,0])
def Ex.more:Ex->Ex
 | .pact p b xs hs=>.pact p b (xs++[t50]) hs
 | .step p b xs k cs h=>.step p b (xs++[t50]) k cs h
 | .undo p b xs k cs=>.undo p b (xs++[t50]) k cs
def pK(a b c:Str):a++b++c=a++(b++c):=by
 show (⟨(a.cps++b.cps)++c.cps⟩:Str)=⟨a.cps++(b.cps++c.cps)⟩
 rw [Array.append_assoc]
theorem pX(sep x:Str):∀{l:Ĉ},l≠[]->Str.join sep (l++[x])=Str.join sep l++sep++x
 | [],h=>absurd rfl h
 | [y],_=>rfl
 | y::z::r,_=>by
  show y++sep++Str.join sep ((z::r)++[x])=y++sep++Str.join sep (z::r)++sep++x
  rw [pX sep x (l:=z::r) (by intro e;cases e)]
  simp only [pK]
def sC(m:Str){xs:î Zc}(h:xs≠[]):Zf m (xs++[t50])=Zf m xs++("; take 5 0":Str):=by
 have e:("; ":Str)++sx t50=("; take 5 0":Str):=by decide +kernel
 unfold Zf
 rw [ż,show [t50].map sx=[sx t50] from rfl,pX _ _ (by intro z;exact h (List.map_eq_nil_iff.mp z)),← e]
 simp only [pK]
def zU{X G:î (ć)}{bs:î En}{e:En}(h:Fit X bs e G)(ok:∀o∈bs,OkE o)(H:X.length<=5):Bad X bs e.ex.more:=by
 have d:=gK h
 have C:=iY h ok
 have f:ArS (e.ex.xs++[t50]):=λx F=>by
  rcases ź.mp F with z | z
  .exact d.1 x z
  .rw [ϵ.mp z]
   exact ⟨by unfold inN;decide +kernel,by unfold inN;decide +kernel⟩
 have g:e.ex.xs++[t50]≠[]:=by intro z;cases List.append_eq_nil_iff.mp z |>.2
 have j:(e.ex.xs++[t50]).length<=13:=by rw [Ž];exact Nat.succ_le_succ d.2.2
 have q:∀b,¬Ab b (aB X) (e.ex.xs++[t50]):=λb z=>by
  have:=z.1 e.ex.xs.length (Ž▸ė _) t50 (by rw [ū (ι _),ĺ];rfl)
  have l:(aB X).length=X.length:=by unfold aB;rw [List.length_map]
  have t:(decide ((5:Int)<((aB X).length:Nat))&&decide (oM t50.1 t50.2<((aB X)[(5:Int).toNat]?).getD 0))=true:=this
  rw [ł] at t
  have:=Ξ t.1
  lia
 cases e with
 | pact p xs hs=>exact ⟨f,g,j,ϰ,λu z=>q _ z.2.1⟩
 | step p xs k cs hh=>exact ⟨f,g,j,C,λu z=>q _ z.2.1⟩
 | undo p xs k cs =>
  obtain ⟨r,o,w,y⟩:=kn h
  have D:z7 bs true (xs++[t50]):=.inr ⟨r,o,w,λz=>by
   rw [y,sC _ (show xs≠[] from d.2.1)] at z
   have:=congrArg Str.length z
   have a:(Zf (mS true) xs++("; take 5 0":Str)).length=(Zf (mS true) xs).length+("; take 5 0":Str).length:=Ť
   have b:("; take 5 0":Str).length=10:=by decide +kernel
   rw [a,b] at this
   lia⟩
  exact ⟨f,g,j,.inl D,λu z=>q _ z.2.1⟩
def iW(bs:î En)(e:En):aT (bs++[e])=aT bs++aT [e]:=List.filterMap_append
def pI(bs:î En)(e:En):bh (bs++[e])=bh bs+bh [e]:=by
 unfold bh
 rw [List.filter_append,Ž]
def t4{bs:î En}{xs:î Zc}(fb:∀b∈bs,∃p' k' cs' h',b=En.step p' xs k' cs' h')(up:(aT bs).Pairwise (·<·)){r:î En}{p':Pa}{k':Nat}{cs':î (Int×Int)}{h0:Int}(e:bs=r++[.step p' xs k' cs' h0]):∀j∈aT bs,j<=k':=λj hj=>by
 rw [e,iW] at hj up
 have e1:aT [En.step p' xs k' cs' h0]=[k']:=rfl
 rw [e1] at hj up
 rcases ź.mp hj with z | z
 .exact Į ((List.pairwise_append.mp up).2.2 j z k' Ω)
 .exact ϵ.mp z▸ι _
def BS{X l:î (ć)}{bs:î En}{e:En}(h:Fit X bs e l)(d:(aT bs).Pairwise (·<·)):(aT (bs++[e])).Pairwise (·<·):=by
 rw [iW]
 cases e with
 | pact p xs hs=>rw [show aT [En.pact p xs hs]=[] from rfl,ų];exact d
 | undo p xs k cs=>rw [show aT [En.undo p xs k cs]=[] from rfl,ų];exact d
 | step p xs k cs hh =>
  obtain ⟨o,q,h0,fb,fl,g,_⟩:=h
  refine List.pairwise_append.mpr ⟨d,List.pairwise_singleton _ _,λa f b j=>?_⟩
  rw [ϵ.mp (show b∈[k] from j)]
  rcases fl with ⟨z,_⟩ | ⟨r,p',k',cs',e,e2⟩
  .rw [z] at f
   cases f
  .have:=t4 fb d e a f
   have:=g.1
   lia
theorem xj{Y:î (ć)}:∀{es pre:î En} {X:î (ć)},Run pre es X Y->(∀p,(aT (Zi p pre)).Pairwise (·<·))->∀p,(aT (Zi p (pre++es))).Pairwise (·<·)
 | [],pre,_,_,u,p=>by rw [ų];exact u p
 | a::r,pre,X,⟨W,h1,h2⟩,u,p=>by
  have:=xj h2 (λq=>by
   rw [jP]
   by_cases z:a.nm=q
   .rw [ů z]
    subst z
    exact BS h1 (u _)
   .rw [ŵ z,ų]
    exact u q) p
  rw [ő] at this
  exact this
def qD{X t:î (ć)}{bs:î En}{e:En}(h:Fit X bs e t)(ok:∀o∈bs,OkE o)(F:(aT bs).Pairwise (·<·)):Bad t (bs++[e]) e.ex:=by
 have g:=gK h
 have q:=iY h ok
 refine ⟨g.1,g.2.1,υ g.2.2,?_,?_⟩
 .cases e with
  | pact p xs hs=>exact ϰ
  | step p xs k cs hh =>
   intro o j
   rcases ź.mp j with z | z
   .exact q o z
   .obtain ⟨l,x,ex,_⟩:=oU h
    have:=(ſ.mp ex).1
    exact .inl ⟨p,xs,k,cs,hh,ϵ.mp z,ω⟩
  | undo p xs k cs =>
   rcases q with z | ⟨b,nb,us,l⟩
   .obtain ⟨r,o,w,d⟩:=kn h
    rcases z with z | ⟨r2,o2,e3,e4⟩
    .exact absurd z h.2.2.1
    .rw [w] at e3
     obtain ⟨_,y⟩:=List.append_inj' e3 rfl
     cases y
     exact absurd d e4
   .refine .inr ⟨ϱ,(by intro z;cases (List.append_eq_nil_iff.mp z).2),λo j=>?_,?_⟩
    .rcases ź.mp j with z | z
     .exact us o z
     .exact .inr ⟨p,k,cs,ϵ.mp z⟩
    .rw [pI,iW,Ž]
     have:=rJ h.2.2.2.1
     exact Nat.le_add_right_of_le this
 .intro H z
  cases e with
  | pact p xs hs=>cases (List.append_eq_nil_iff.mp z.2.2.1.2.1).2
  | step p xs k cs hh =>
   obtain ⟨_,_,_,_,C,G,f,k2,d,f2,_⟩:=z
   have:Lst (bs++[En.step p xs k cs hh]) (k+1) hh:=.inr ⟨bs,p,xs,k,cs,ϱ,ϱ⟩
   obtain ⟨rfl,rfl⟩:=fE f this
   have:=f2.1
   lia
  | undo p xs k cs =>
   obtain ⟨_,_,_,k2,d,f2,_⟩:=z
   have d:(k:Int)=k2:=d
   obtain rfl:k=k2:=by lia
   have f1:=h.2.2.2.1
   have lt:=rJ f1
   unfold left at f1 f2
   rw [pI,iW,show aT [En.undo p xs k cs]=[] from rfl,ų,show bh [En.undo p xs k cs]=1 from rfl] at f2
   generalize aT bs=ps at *
   generalize bh bs=u at *
   rw [List.getLast?_eq_getElem?,ŷ,List.getElem?_take] at f1 f2
   split at f1
   .split at f2
    .rw [ņ ω] at f1 f2
     obtain ⟨l1,g1⟩:=ſ.mp f1
     obtain ⟨D,g2⟩:=ſ.mp f2
     have:=List.pairwise_iff_getElem.mp F _ _ D l1 ω
     lia
    .cases f2
   .cases f1
end
end K82
namespace HT
open PySem PyProof.Rows
section
variable {prog:ù}{w:ö}{A:ô}{E:Đ}{s:ú}
def Bp{t b:ø}{vs x:Ċ}{Q:Đ}(G:IsTup s.heap t vs.toArray)(H:IsTup s.heap b x.toArray)(I:vs=[])(h:Q (.ref b) s):wpAny (model prog w) A (binaryOp .Add (.ref t) (.ref b)) Q E s:=by
 obtain ⟨⟨y,z,l,C⟩,o,q,n,r⟩:=id G
 obtain ⟨⟨u,g,j,k⟩,d,e,D,f⟩:=id H
 simp only at q r e f
 subst q r e f
 exact concat_meets ⟨_,o,ϱ⟩ ⟨_,d,ϱ⟩ noFill_tuple_add seq_tuple_add PySem.F.slot_tuple_add PySem.F.entry_tuple_add (PySem.F.args_tuple_add_2 _ _)
  (tuple_addW0 t b vs.toArray x.toArray n D z g C k (by simp [I])) ⟨o,d,h⟩
def iZ{t o:ø}{d:û}{vl q:ó}{lo g:Option Int}{Q:Đ}(f:IsTup s.heap t d)(r:s.heap.IsSliceOf o vl q .none)(pl:IsPart vl lo)(y:IsPart q g)
  (hw:sIx d.size 0 lo=0/\sIx d.size d.size g=d.size)(h:Q (.ref t) s):wpAny (model prog w) A (getItem (.ref t) (.ref o)) Q E s:=by
 obtain ⟨u,j,k,x⟩:=id r
 have l:s.TypeIs (.ref o) "slice":=⟨u,j,k⟩
 unfold getItem
 try with_reducible refine ŗ ?_
 first | refine ε (π ?_) | skip
 refine ε (wpAny_sequenceKey f.typeIs ζ ?_)
 refine ε (wpAny_callSpecial?_slot (name:=("__getitem__":Str)) f.typeIs ŝ
  (wpAny_call_entry ŝ f.typeIs entry_tuple_getitem ?_ (args_tuple_getitem _ _)))
 show wpAny _ _ (Builtin.Tuple.tupleItemsOf (.ref t) >>= _) _ _ s
 refine ε (tupleItemsOf_ f ?_)
 refine ε (wpAny_typeOf l ?_)
 rw [ů ζ]
 refine ε (fX r pl y ?_)
 have e:(((sIx d.size 0 lo:Nat):Int)==0&&(1:Int)==1&&(sIx d.size d.size g-sIx d.size 0 lo)==d.size)=true:=by
  rw [hw.1,hw.2]
  simp
 show wpAny _ _ (if (((sIx d.size 0 lo:Nat):Int)==0&&(1:Int)==1&&(sIx d.size d.size g-sIx d.size 0 lo)==d.size)=true then _ else _) _ _ s
 rw [ů e]
 refine ε ?_
 unfold Builtin.Tuple.tupleIsExact
 refine ε (wpAny_typeOf f.typeIs (π ?_))
 simp only [beq_self_eq_true,if_true]
 refine ε (wpAny_rule ?_)
 exact ε (π (π ⟨_,ϱ,π h⟩))
end
end HT
namespace L2
open PySem PySem.Spec PyProof.Rows PySem.W Lo
section
variable {X:Cx}
def D2(K:ò):R2:=λx y H Q=>∃a b xs ys,x=.ref a/\y=.ref b/\NN K H a xs/\H b=some (.tup ys)/\ys≠[]/\xs.length+ys.length<=sizeLine/\∀p H',NI H H'->H' p=some (.tup (xs++ys))->Q (.ref p) H'
def gG:OpR X (binaryOp .Add) (D2 X.K):=by
 intro d s σ H x y v u Q I k l h
 obtain ⟨a,b,xs,o,rfl,rfl,g,f,r,t,q⟩:=h
 by_cases e:xs=[]
 .subst e
  cases k
  cases l
  obtain ⟨w,C,D,_⟩:=I.tuple g
  obtain ⟨j,J,F,_⟩:=I.tuple (NA f)
  exact HT.Bp D F (C.nil_iff.mpr rfl) ⟨.ref b,H,I,ϱ,q b H (NC _) f⟩
 .exact rF d s σ H _ _ _ _ Q I k l ⟨a,b,xs,o,ϱ,ϱ,g,NA f,e,t,λz=>absurd z r,λ_ p G=>q p _ (aa G) Ny⟩
def Fa:V->Option Int->Option Int->Hp->VK->Prop:=λx lo hi H Q=>∃a xs,x=.ref a/\H a=some (.tup xs)/\∀p H',NI H H'->H' p=some (.tup (bn xs lo hi))->Q (.ref p) H'
def c8:SlR X Fa:=by
 intro f s σ H x v vl y lo k z Q I o t pl u h
 obtain ⟨a,xs,rfl,g,q⟩:=h
 by_cases hw:HT.sIx xs.length 0 lo=0/\HT.sIx xs.length xs.length k=xs.length
 .cases o
  obtain ⟨j,r,l,C⟩:=I.tuple (NA g)
  have d:j.toArray.size=xs.length:=by rw [Ű];exact r.length.symm
  refine ⟨"tuple",_,PyProof.Rows.slot_tuple_getitem.lookup,l.typeIs,?_⟩
  refine HT.iZ l t pl u (d▸hw) ⟨.ref a,H,I,ϱ,q a H (NC _) ?_⟩
  have e:bn xs lo k=xs:=by
   unfold bn
   rw [hw.1,hw.2]
   exact List.take_of_length_le (by simp)
  rw [e]
  exact g
 .exact uh f s σ H _ _ vl y lo k z Q I o t pl u ⟨a,xs,ϱ,NA g,hw,λp w=>q p _ (aa w) Ny⟩
end
end L2
namespace K82
open PySem L2 Lo St
section
variable {P:ù}{w:ö}{K:ò}{mg:ď}{base:ñ}{f CL CS CP:ø}{fd:õ}{C:Kd->ø}{CW:Wd->ø}
inductive B6 (vs:î V) (H:Hp) (Q:VK) (E:XK):Prop|mk t hs c:vs=[.ref t,.int c]->H t=some (.tup ((hs:ć).map V.int))->hs≠[]->hs.length<=13->(0:Int)<=c->(∀t' hs' H',hs'≠hs->hs'.length<=14->H' t'=some (.tup (hs'.map V.int))->NI H H'->Q (.ref t') H')->B6 vs H Q E
def Ee(F:Fun K "_law_other_hands" "_law_other_hands" cB f fd)(B:TxB mg):NH P w K mg base Za 1 f fd Nc B6:=by
 refine F.oj sc__law_other_hands λaM A a0 s H vs Q E hr h=>?_
 obtain ⟨t,g,c,rfl,j,nh,lh,c0,q⟩:=h
 have nd:=sc__law_other_hands.nd
 have hz:(1000:Nat)<=sizeLine:=by decide
 refine ⟨_,ac (sN 2 nd (ai aG (ai cw (pv 1) af) (aq az rfl B.len Ź (Zd (pv 0)))))
  (ac (aC (Zl (ai aG (pv 1) af) af) (Ze (aL c8 (pv 0) ba (aN (eR cA af)))) ao)
  (ac (aC (Zl (ai aG (pv 1) af) af) (Ze (ai gG (pv 0) (aA (Zd (oP K (pv 0) (eR cA af)))))) ao)
  (Ze (ai rF (ai gG (aL c8 (pv 0) ba (aN (pv 2))) (aA (Zd (ai aU (oP K (pv 0) (pv 2)) (bc K (bF (Zb af (eR cA (ai kU af af)))) (ai aG (pv 1) af))))))
   (aL c8 (pv 0) (aN (ai aU (pv 2) af)) ba))))),?_⟩
 have l0:0<g.length:=List.length_pos_iff.mpr nh
 have u:(g.map V.int).length=g.length:=ν _
 refine ⟨_,ϱ,_,_,ϱ,ϱ,⟨ζ,ζ⟩,_,ϱ,t,_,ϱ,.inr (NA j),_,_,ϱ,ϱ,by rw [u];lia,?_⟩
 refine ⟨_,ϱ,_,_,ϱ,ϱ,Qa 3,ϱ,_,ϱ,aP (λz=>?_) (λz1=>?_)⟩
 .refine ⟨_,ϱ,_,ϱ,_,ϱ,t,_,ϱ,j,λp H' C h1=>?_⟩
  have e:bn (g.map V.int) none (some (-1))=(g.take (g.length-1)).map V.int:=by
   have e1:HT.sIx (g.map V.int).length (g.map V.int).length (some (-1))=g.length-1:=by
    rw [u]
    show (if (-1:Int)<0 then ((-1)+(g.length:Int)).toNat else min (-1:Int).toNat g.length)=_
    rw [ů ζ]
    lia
   unfold bn
   rw [e1,show HT.sIx (g.map V.int).length 0 none=0 from rfl,List.drop_zero,Nat.sub_zero,ģ]
  refine q p _ H' (λz=>?_) ?_ (e▸h1) C
  .have:=congrArg List.length z
   rw [ŷ] at this
   lia
  .rw [ŷ]
   lia
 refine ⟨_,ϱ,_,_,ϱ,ϱ,Qa 3,ϱ,_,ϱ,aP (λz=>?_) (λz1=>?_)⟩
 .obtain ⟨r,x,ex⟩:∃r x,g=r++[x]:=⟨_,_,(List.dropLast_concat_getLast nh).symm⟩
  refine ⟨_,ϱ,_,ϱ,_,ϱ,t,_,_,_,ϱ,ϱ,NA j,(show atI _ _=some (V.int x) from ?_),χ,λp hp=>?_⟩
  .rw [ex,ż]
   exact dw _ _
  have C:=aa (o:=.tup [V.int x]) hp
  refine ⟨t,p,_,_,ϱ,ϱ,NA (C _ _ j),Ny,(by intro z;cases z),by rw [u];show g.length+1<=_;lia,λp2 H2 L h2=>?_⟩
  refine q p2 (g++[x]) H2 (λz=>?_) ?_ (ż▸h2) (C.trans L)
  .have:=congrArg List.length z
   rw [Ž] at this
   have:([x]:ć).length=1:=rfl
   lia
  .rw [Ž]
   show g.length+1<=_
   lia
 obtain ⟨k,W,X⟩:∃k:Nat,c/4%((g.map V.int).length:Nat)=(k:Int)/\k<g.length:=by
  rw [u]
  have a:=Ů (c/4) (show ((g.length:Nat):Int)≠0 by lia)
  have b:=Ŵ (c/4) (show 0<((g.length:Nat):Int) by lia)
  exact ⟨(c/4%(g.length:Nat)).toNat,(ŧ a).symm,ω⟩
 obtain ⟨y,ey⟩:∃y,g[k]?=some y:=⟨_,ξ X⟩
 have I:bn (g.map V.int) none (some (c/4%((g.map V.int).length:Nat)))=(g.take k).map V.int:=by
  rw [W]
  unfold bn
  rw [HT.cP,show HT.sIx (g.map V.int).length 0 none=0 from rfl,List.drop_zero,Nat.sub_zero,u,ņ (Į X),ģ]
 have J:bn (g.map V.int) (some (c/4%((g.map V.int).length:Nat)+1)) none=(g.drop (k+1)).map V.int:=by
  rw [W]
  unfold bn
  rw [show ((k:Int)+1)=((k+1:Nat):Int) by lia,HT.cP,show HT.sIx (g.map V.int).length (g.map V.int).length none=(g.map V.int).length from rfl,u,ņ X,List.map_drop,List.take_of_length_le (by rw [Ś,u];exact ι _)]
 refine ⟨_,ϱ,_,ϱ,_,ϱ,t,_,ϱ,j,λp1 H1 C h1=>?_⟩
 have h1:H1 p1=some (.tup ((g.take k).map V.int)):=by rw [← I];exact h1
 have Y:=C _ _ j
 refine ⟨_,ϱ,_,ϱ,t,_,_,_,ϱ,ϱ,NA Y,(show atI _ _=some (V.int y) from ?_),?_⟩
 .show atI (g.map V.int) (c/4%((g.map V.int).length:Nat))=_
  rw [W]
  exact ay (by rw [Ż,ey];rfl)
 refine ⟨_,_,ϱ,ϱ,⟨ζ,ζ,ζ⟩,_,ϱ,χ,λpl a2=>?_⟩
 obtain ⟨d,ed,d0⟩:∃d,atI [V.int 1,V.int (-(10 ^ (30:Int).toNat))] (c%2)=some (V.int d)/\d≠0:=by
  have z:c%2=0\/c%2=1:=by lia
  rcases z with z | z
  .rw [z]
   exact ⟨1,ϱ,ζ⟩
  .rw [z]
   exact ⟨_,ϱ,ζ⟩
 have L:=aa (o:=.lst [V.int 1,V.int (-(10 ^ (30:Int).toNat))]) a2
 refine ⟨_,ϱ,_,_,ϱ,ϱ,Qa 1,pl,_,_,_,ϱ,ϱ,Nz Ny,ed,_,_,ϱ,ϱ,χ,λp2 a3=>?_⟩
 have s3:=aa (o:=.tup [V.int (y+d)]) a3
 have D:(g.take k).length=k:=by rw [ŷ];lia
 refine ⟨p1,p2,_,_,ϱ,ϱ,NA (s3 _ _ (L _ _ h1)),Ny,(by intro z;cases z),by rw [ν,D];show k+1<=_;lia,λp3 H3 s4 h3=>?_⟩
 have G:=(C.trans (L.trans (s3.trans s4)))
 refine ⟨_,ϱ,_,ϱ,_,_,ϱ,ϱ,_,ϱ,t,_,ϱ,G _ _ j,λp4 H4 U Z=>?_⟩
 have Z:H4 p4=some (.tup ((g.drop (k+1)).map V.int)):=by rw [← J];exact Z
 have lr:(g.drop (k+1)).length=g.length-(k+1):=Ś
 have nq:∀l:ć,g.take k++[y+d]++l≠g:=λl z=>by
  have:=congrArg (λw=>w[k]?) z
  simp only [List.append_assoc] at this
  rw [ū ω,D,ĺ,ey] at this
  have:=Δ this
  lia
 have em:(g.take k).map V.int++[V.int (y+d)]=(g.take k++[y+d]).map V.int:=by rw [ż];rfl
 have O:(g.take k++[y+d]).length=k+1:=by rw [Ž,D];rfl
 rw [em] at h3
 refine ⟨p3,p4,_,_,ϱ,ϱ,NA (U _ _ h3),NA Z,?_,?_,λz=>?_,λz p5 a5=>?_⟩
 .intro z
  have:=congrArg List.length z
  rw [ν,O] at this
  cases this
 .rw [ν,ν,O,lr]
  lia
 .refine q p3 (g.take k++[y+d]) H4 ?_ (by rw [O];lia) (U _ _ h3) (G.trans U)
  have:=nq []
  rw [ų] at this
  exact this
 .refine q p5 (g.take k++[y+d]++g.drop (k+1)) _ (nq _) (by rw [Ž,O,lr];lia) ?_ ((G.trans U).trans (aa a5))
  rw [ż (l₁:=g.take k++[y+d])]
  exact Ny
def EN{H:Hp}{x:Int×Int}{a b:ø}(h1:H a=some (.tup [.ref b]))(h2:H b=some (.tup [.int x.1,.int x.2])):ChT H [x] a:=⟨_,h1,.cons ⟨b,ϱ,h2⟩ .nil⟩
inductive B7 (vs:î V) (H:Hp) (Q:VK) (E:XK):Prop|mk t cs c:vs=[.ref t,.int c]->ChT H cs t->(0:Int)<=c->(∀t' cs' H',cs'≠cs->ChT H' cs' t'->NI H H'->Q (.ref t') H')->B7 vs H Q E
def Ef(F:Fun K "_law_other_change" "_law_other_change" cm f fd)(B:TxB mg):NH P w K mg base Za 1 f fd MK B7:=by
 refine F.oj sc__law_other_change λX A D s H vs Q E Y h=>?_
 obtain ⟨t,cs,c,rfl,O,c0,q⟩:=h
 have nd:=sc__law_other_change.nd
 refine ⟨_,ac (aC (aJ (rE (cTs cPa) (hun (c:=2) Y)) (pv 0) (aA aO) (aF _)) (Ze (aA (Zd (aA (Zb (ai aG (pv 1) af) (ai aG (ai cw (pv 1) af) af)))))) ao)
  (ac (aC (Zl (ai aG (pv 1) af) af) (Ze (aA aO)) ao)
  (Ze (aA (Zd (aA (Zb (Zj K (Zj K (pv 0))) (ai aU (Zj K (Zj K (pv 0))) (bc K (bF (Zb af (ai kU af af))) (ai aG (pv 1) af))))))))),?_⟩
 refine ⟨_,ϱ,χ,λp0 G=>?_⟩
 have l:=aa (o:=.tup []) G
 have C:a9 H _:=λb xs e=>l b _ e
 have j:=O.keep C
 refine ⟨cs,[],qw j,qw (cs:=[]) ⟨_,Ny,.nil⟩,?_⟩
 generalize (upd H p0 (.tup []))=H1 at l j ⊢
 refine ⟨_,ϱ,aP (λz=>?_) (λz=>?_)⟩
 .have z:cs=[]:=Ξ z
  refine ⟨_,ϱ,_,_,ϱ,ϱ,Qa 7,_,ϱ,_,_,ϱ,ϱ,⟨ζ,ζ⟩,_,_,ϱ,ϱ,Qa 4,χ,λZ k=>⟨χ,λI g=>?_⟩⟩
  exact q I [(c%8,c/8%5)] _ (by rw [z];intro y;cases y) (EN Ny (aa g _ _ Ny)) (l.trans ((aa k).trans (aa g)))
 have n:cs≠[]:=λy=>z (τ y)
 refine ⟨_,ϱ,_,_,ϱ,ϱ,Qa 2,ϱ,_,ϱ,aP (λz=>?_) (λz1=>?_)⟩
 .exact ⟨χ,λp hp=>q p [] _ (Ne.symm n) ⟨_,Ny,.nil⟩ (l.trans (aa hp))⟩
 obtain ⟨us,h1,U⟩:=j
 cases U with
 | nil=>exact absurd rfl n
 | @cons x r u us' hu rest =>
 obtain ⟨b,rfl,L⟩:=hu
 obtain ⟨d,W,d0⟩:∃d,atI [V.int 1,V.int (10 ^ (30:Int).toNat)] (c%2)=some (V.int d)/\d≠0:=by
  have z:c%2=0\/c%2=1:=by lia
  rcases z with z | z
  .rw [z]
   exact ⟨1,ϱ,ζ⟩
  .rw [z]
   exact ⟨_,ϱ,ζ⟩
 refine ⟨_,ϱ,t,_,_,_,ϱ,ϱ,NA h1,St.at0,b,_,_,_,ϱ,ϱ,NA L,St.at0,?_⟩
 refine ⟨_,ϱ,t,_,_,_,ϱ,ϱ,NA h1,St.at0,b,_,_,_,ϱ,ϱ,NA L,St.at1,_,_,ϱ,ϱ,⟨ζ,ζ,ζ⟩,χ,λpl J=>?_⟩
 refine ⟨_,ϱ,_,_,ϱ,ϱ,Qa 1,pl,_,_,_,ϱ,ϱ,Nz Ny,W,_,_,ϱ,ϱ,χ,λZ k=>⟨χ,λI g=>?_⟩⟩
 refine q I [(x.1,x.2+d)] _ (λy=>?_) (EN Ny (aa g _ _ Ny)) (l.trans ((aa J).trans ((aa k).trans (aa g))))
 have:=congrArg Prod.snd (ē y).1
 have:x.2+d=x.2:=this
 lia
inductive Spo:En->Ex->Prop where
 | flip (e:En):Spo e e.ex.flip
 | more (e:En):Spo e e.ex.more
 | hands {p:Pa} {xs:î Zc} {hs hs':ć} (n:hs'≠hs):Spo (.pact p xs hs) (.pact p false xs hs')
 | step {p:Pa} {xs:î Zc} {k:Nat} {cs cs':î (Int×Int)} {h h' k':Int} (n:¬(k'=k/\cs'=cs/\h'=h)):Spo (.step p xs k cs h) (.step p true xs k' cs' h')
 | undo {p:Pa} {xs:î Zc} {k:Nat} {cs cs':î (Int×Int)} {k':Int} (n:¬(k'=k/\cs'=cs)):Spo (.undo p xs k cs) (.undo p true xs k' cs')
def Spo.bad{X f:î (ć)}{bs:î En}{e:En}{d:Ex}(s:Spo e d)(h:Fit X bs e f)(ok:∀o∈bs,OkE o)(g:X.length<=5):Bad X bs d:=by
 cases s with
 | flip=>exact zV h ok
 | more=>exact zU h ok g
 | hands n=>exact xa h n
 | step n=>exact zT h ok n
 | undo n=>exact tI h ok n
def Spo.nm{e:En}{d:Ex}(s:Spo e d):d.nm=e.nm:=by
 cases s with
 | flip=>cases e<;>rfl
 | more=>cases e<;>rfl
 | hands n=>rfl
 | step n=>rfl
 | undo n=>rfl
def iP(xs:î V)(n:Nat)(h:n<=xs.length):bn xs (some (n:Int)) none=xs.drop n:=by
 unfold bn
 rw [HT.cP,HT.on,ņ h,List.take_of_length_le (Ś▸ι _)]
def zC{H:Hp}{e:Ex}{t d:ø}{vs:î V}(h1:H t=some (.tup (.str e.wd::.ref d::.str (Zf (mS (!e.b)) e.xs)::vs)))(f:H d=some (.tup [.int e.nm.1,.int e.nm.2]))(g:ExR H e vs):NW H e.flip (.ref t):=by
 cases e<;>exact ⟨t,d,vs,ϱ,h1,f,g⟩
def zB{H:Hp}{e:Ex}{t d:ø}{vs:î V}(h1:H t=some (.tup (.str e.wd::.ref d::.str (Zf (mS e.b) (e.xs++[t50]))::vs)))(f:H d=some (.tup [.int e.nm.1,.int e.nm.2]))(g:ExR H e vs):NW H e.more (.ref t):=by
 cases e<;>exact ⟨t,d,vs,ϱ,h1,f,g⟩
inductive xI (vs:î V) (H:Hp) (Q:VK) (E:XK):Prop|mk e u c:vs=[u,.int c]->NV H e u->ArS e.ex.xs->e.ex.xs≠[]->e.ex.xs.length<=12->((∀p xs hs,e=.pact p xs hs->hs.length=xs.length))->(0:Int)<=c->(∀e' u' H',Spo e e'->NW H' e' u'->NI H H'->Q u' H')->xI vs H Q E
def CJ(F:Fun K "_law_spoiled" "_law_spoiled" eI f fd)(B:TxB mg)(GO:GF P w K mg base Za 1 "_law_other_hands" Nc B6)(GC:GF P w K mg base Za 1 "_law_other_change" MK B7):NH P w K mg base Za 2 f fd Nd xI:=by
 refine F.oj sc__law_spoiled λcc A b3 s H vs Q E hr h=>?_
 obtain ⟨e,u,c,rfl,en,ar,x0,b0,hl,c0,q⟩:=h
 have nd:=sc__law_spoiled.nd
 refine ⟨_,ac (bV (aL c8 (pv 0) ba (aN af)) (kQ (n:=3) rfl (aY (gN 2 nd) (aY (gN 3 nd) (aY (gN 4 nd) fy)))))
  (ac (sN 5 nd (ai cw (pv 1) af))
  (ac (aC (Zl (ai aG (pv 1) af) af)
     (ac (bV (dg Ŧ PySem.F.slot_str_partition PySem.F.type_str_partition vG (pv 4) (Zd aw)) (kQ (n:=3) rfl (aY (gN 6 nd) (aY (gN 7 nd) (aY (gN 8 nd) fy)))))
     (Ze (ai gG (aA (aj (pv 2) (Zb (pv 3) (ai eT (ai eT (bc K (bF (Zb aw aw)) (bM w9 rfl B.int Ġ (Zd (bH lK (pv 6) aw (aF _))))) aw) (pv 8))))) (aL c8 (pv 0) (aN af) ba))))
     ao)
  (ac (aC (Zl (ai aG (pv 1) af) af) (Ze (ai gG (aA (aj (pv 2) (Zb (pv 3) (ai eT (pv 4) aw)))) (aL c8 (pv 0) (aN af) ba))) ao)
  (ac (aC (Zl (pv 2) aw) (Ze (aA (aj (pv 2) (aj (pv 3) (Zb (pv 4) (pc GO hr (Zb (Zj K (pv 0)) (pv 5)))))))) ao)
  (ac (aC (Zl (ai aG (pv 1) af) af) (Ze (ai rF (ai gG (aL c8 (pv 0) ba (aN af)) (aA (Zd (pc GC hr (Zb (Zj K (pv 0)) (pv 5)))))) (aL c8 (pv 0) (aN af) ba))) ao)
  (ac (aC (PW.pt (ir (Zl (ai aG (pv 1) af) af) (fu (Zl (pv 2) aw)))) (Ze (ai gG (aL c8 (pv 0) ba (aN af)) (aA (Zd (ai aU (Zj K (pv 0)) (bc K (bF (Zb af (ai kU af af))) (ai aG (pv 5) af))))))) ao)
  (dy (u:=λD σ Z=>∃(t j x:ø) (wd tx:Str) (k n:Int) (r:î V) (y6 y7 y8:Option V),σ=[some (.ref t),some (.int c),some (.str wd),some (.ref j),some (.str tx),some (.int n),y6,y7,y8]/\Z t=some (.tup (.str wd::.ref j::.str tx::.int k::.ref x::r))/\r.length<=1/\0<=n/\∀d l C,d≠0->NI Z C->C l=some (.tup (.str wd::.ref j::.str tx::.int (k+d)::.ref x::r))->D.rt (.ref l) C)
  (Ze (ai gG (aA (aj (pv 2) (aj (pv 3) (Zb (pv 4) (ai aU (Zj K (pv 0)) (bc K (bF (aj af (aj (eR cA af) (Zb af (eR cA af))))) (ai aG (pv 5) af))))))) (aL c8 (pv 0) (aN af) ba))) ?s1))))))),?_⟩
 .rintro D σ H1 ⟨t,j,x,wd,tx,k,n,r,y6,y7,y8,rfl,h1,lr,n0,qq⟩
  have hz:(1000:Nat)<=sizeLine:=by decide
  obtain ⟨d,ed,d0⟩:∃d,atI [V.int 1,V.int (-1),V.int 2,V.int (-40)] (n%4)=some (V.int d)/\d≠0:=by
   have z:n%4=0\/n%4=1\/n%4=2\/n%4=3:=by lia
   rcases z with z | z | z | z<;>rw [z]
   .exact ⟨1,St.at0,ζ⟩
   .exact ⟨-1,St.at1,ζ⟩
   .exact ⟨2,St.at2,ζ⟩
   .exact ⟨-40,at3,ζ⟩
  refine ⟨_,ϱ,_,ϱ,_,ϱ,_,ϱ,t,_,_,_,ϱ,ϱ,NA h1,at3,_,ϱ,_,ϱ,χ,λpl a0=>?_⟩
  have O:=aa (o:=.lst [.int 1,.int (-1),.int 2,.int (-40)]) a0
  refine ⟨_,ϱ,_,_,ϱ,ϱ,Qa 3,pl,_,_,_,ϱ,ϱ,Nz Ny,ed,_,_,ϱ,ϱ,χ,λG I=>?_⟩
  have s3:=aa (o:=.tup [.str wd,.ref j,.str tx,.int (k+d)]) I
  have as:=O.trans s3
  have g2:(upd (upd H1 pl (.lst [.int 1,.int (-1),.int 2,.int (-40)])) G (.tup [.str wd,.ref j,.str tx,.int (k+d)])) G=some (.tup [.str wd,.ref j,.str tx,.int (k+d)]):=Ny
  refine ⟨_,ϱ,_,ϱ,t,_,ϱ,as _ _ h1,λp3 H3 J g3=>?_⟩
  rw [show bn _ (some 4) none=.ref x::r from iP _ 4 (by simp)] at g3
  exact ⟨G,p3,_,_,ϱ,ϱ,NA (J _ _ g2),g3,(by intro z;cases z),(by show 4+(r.length+1)<=_;lia),λp4 H4 X g4=>qq d p4 H4 d0 (as.trans (J.trans X)) g4⟩
 obtain ⟨t,j,vs,rfl,h1,h2,h3⟩:=en.ex
 have lv:1<=vs.length/\vs.length<=3:=by
  cases e<;>(obtain ⟨_,rfl,_⟩:=h3;exact ⟨by simp,by simp⟩)
 have nv:vs≠[]:=λz=>by rw [z] at lv;exact absurd lv.1 ζ
 have hz:(100000:Nat)<=sizeLine:=by decide
 have js:=jr ar ω
 have pl:=rB (mS e.ex.b) e.ex.xs
 have ml:∀b,(mS b).length<=6:=λb=>by cases b<;>decide +kernel
 have c4:=ml e.ex.b
 refine sq λnx L=>?_
 refine ⟨_,ϱ,_,ϱ,t,_,ϱ,h1,λp1 H1 s1 g1=>?_⟩
 have e3:bn (.str e.ex.wd::.ref j::.str (Zf (mS e.ex.b) e.ex.xs)::vs) none (some 3)=[.str e.ex.wd,.ref j,.str (Zf (mS e.ex.b) e.ex.xs)]:=dq _ 3 (by simp)
 have d3:bn (.str e.ex.wd::.ref j::.str (Zf (mS e.ex.b) e.ex.xs)::vs) (some 3) none=vs:=iP _ 3 (by simp)
 rw [e3] at g1
 have y:=s1 _ _ h1
 have U:=h3.keep s1.ts
 refine ⟨p1,_,ϱ,NA g1,ϱ,_,_,ϱ,_,_,ϱ,_,_,ϱ,ϱ,?_⟩
 refine L _ _ (sq λnx L=>?_)
 refine ⟨_,ϱ,_,_,ϱ,ϱ,⟨ζ,ζ⟩,?_⟩
 refine L _ _ (sq λnx L=>?_)
 refine ⟨_,ϱ,_,_,ϱ,ϱ,Qa 5,ϱ,_,ϱ,aP (λz=>?_) (λz0=>?_)⟩
 .refine ⟨_,ϱ,ϱ,_,_,ϱ,ϱ,θ,ω,λp hp=>?_⟩
  rw [sG]
  have O:=aa (o:=.tup [.str (mS e.ex.b),.str (" ":Str),.str (Str.join ("; ":Str) (e.ex.xs.map sx))]) hp
  refine ⟨p,_,ϱ,NA Ny,ϱ,_,_,ϱ,_,_,ϱ,_,_,ϱ,ϱ,?_⟩
  generalize (upd H1 p (.tup [.str (mS e.ex.b),.str (" ":Str),.str (Str.join ("; ":Str) (e.ex.xs.map sx))]))=H2 at O ⊢
  refine ⟨_,ϱ,_,ϱ,χ,λpl a0=>?_⟩
  have s3:=aa (o:=.lst [.str "held",.str "walked"]) a0
  refine ⟨_,ϱ,ϱ,.inr ⟨_,ϱ,pl,_,_,_,ϱ,ϱ,Nz Ny,(show atI _ _=some (V.str (mS (!e.ex.b))) from ?_),?_⟩⟩
  .cases e.ex.b
   .exact ů (show decide (V.str (mS false)=V.str "held")=true by decide +kernel)▸St.at1
   .exact ŵ (show ¬decide (V.str (mS true)=V.str "held")=true by decide +kernel)▸St.at0
  have c6:=ml (!e.ex.b)
  have l1:(" ":Str).length=1:=by decide +kernel
  have l2:(mS (!e.ex.b)++(" ":Str)).length=(mS (!e.ex.b)).length+(" ":Str).length:=Ť
  refine ⟨_,_,ϱ,ϱ,ω,_,ϱ,_,_,ϱ,ϱ,(by show (mS (!e.ex.b)++(" ":Str)).length+(Str.join ("; ":Str) (e.ex.xs.map sx)).length<=_;lia),χ,λG I=>?_⟩
  have J:=aa (o:=.tup [.str e.ex.wd,.ref j,.str (Zf (mS (!e.ex.b)) e.ex.xs)]) I
  have av:=O.trans (s3.trans J)
  have g2:(upd (upd H2 pl (.lst [.str "held",.str "walked"])) G (.tup [.str e.ex.wd,.ref j,.str (Zf (mS (!e.ex.b)) e.ex.xs)])) G=some (.tup [.str e.ex.wd,.ref j,.str (Zf (mS (!e.ex.b)) e.ex.xs)]):=Ny
  refine ⟨_,ϱ,_,ϱ,t,_,ϱ,av _ _ y,λp3 H3 X g3=>?_⟩
  rw [d3] at g3
  refine ⟨G,p3,_,_,ϱ,ϱ,NA (X _ _ g2),g3,nv,by show 3+vs.length<=_;lia,λp4 H4 s6 g4=>?_⟩
  have sa:=av.trans (X.trans s6)
  exact q _ (.ref p4) H4 (.flip e) (zC g4 (sa _ _ (s1 _ _ h2)) (U.keep sa.ts)) (s1.trans sa)
 refine L _ _ (sq λnx L=>?_)
 refine ⟨_,ϱ,_,_,ϱ,ϱ,Qa 5,ϱ,_,ϱ,aP (λz=>?_) (λz1=>?_)⟩
 .have l1:("; take 5 0":Str).length=10:=by decide +kernel
  refine ⟨_,ϱ,_,ϱ,_,ϱ,_,_,ϱ,ϱ,ω,χ,λG I=>?_⟩
  have J:=aa (o:=.tup [.str e.ex.wd,.ref j,.str (Zf (mS e.ex.b) e.ex.xs++("; take 5 0":Str))]) I
  have g2:(upd H1 G (.tup [.str e.ex.wd,.ref j,.str (Zf (mS e.ex.b) e.ex.xs++("; take 5 0":Str))])) G=some (.tup [.str e.ex.wd,.ref j,.str (Zf (mS e.ex.b) e.ex.xs++("; take 5 0":Str))]):=Ny
  refine ⟨_,ϱ,_,ϱ,t,_,ϱ,J _ _ y,λp3 H3 X g3=>?_⟩
  rw [d3] at g3
  refine ⟨G,p3,_,_,ϱ,ϱ,NA (X _ _ g2),g3,nv,by show 3+vs.length<=_;lia,λp4 H4 s6 g4=>?_⟩
  have sa:=J.trans (X.trans s6)
  exact q _ (.ref p4) H4 (.more e) (zB (sC _ x0▸g4) (sa _ _ (s1 _ _ h2)) (U.keep sa.ts)) (s1.trans sa)
 have hnd:∃d,atI [V.int 1,V.int (10 ^ (30:Int).toNat)] (c/6%2)=some (V.int d)/\d≠0:=by
  have z:c/6%2=0\/c/6%2=1:=by lia
  rcases z with z | z<;>rw [z]
  .exact ⟨1,St.at0,ζ⟩
  .exact ⟨_,St.at1,ζ⟩
 have mk:(∃p xs hs,e=.pact p xs hs)\/∃(k:Nat) (x:ø) (r:î V) (cs:î (Int×Int)),vs=.int k::.ref x::r/\ChT H1 cs x/\r.length<=1/\V.str e.ex.wd≠V.str "pact"/\∀(k':Int) cs' Y l Z,ChT Z cs' Y->¬(k'=k/\cs'=cs)->NI H1 Z->Z l=some (.tup (.str e.ex.wd::.ref j::.str (Zf (mS e.ex.b) e.ex.xs)::.int k'::.ref Y::r))->Q (.ref l) Z:=by
  cases e with
  | pact p xs hs=>exact .inl ⟨_,_,_,rfl⟩
  | step p xs k cs h =>
   obtain ⟨x,rfl,h4⟩:=U
   exact .inr ⟨k,x,_,cs,ϱ,h4,ι _,(show V.str "step"≠V.str "pact" by decide +kernel),λk' cs' Y l Z hc n s' g=>q _ (.ref l) Z (.step (h':=h) λz=>n ⟨z.1,z.2.1⟩) ⟨l,j,_,ϱ,g,s' _ _ (s1 _ _ h2),Y,ϱ,hc⟩ (s1.trans s')⟩
  | undo p xs k cs =>
   obtain ⟨x,rfl,h4⟩:=U
   exact .inr ⟨k,x,_,cs,ϱ,h4,ϖ _,(show V.str "undo"≠V.str "pact" by decide +kernel),λk' cs' Y l Z hc n s' g=>q _ (.ref l) Z (.undo n) ⟨l,j,_,ϱ,g,s' _ _ (s1 _ _ h2),Y,ϱ,hc⟩ (s1.trans s')⟩
 refine L _ _ (sq λnx L=>?_)
 rcases mk with ⟨p,xs,hs,rfl⟩ | ⟨k,x,r,cs,rfl,h4,lr,nw,mk⟩
 .obtain ⟨x,rfl,h4⟩:=U
  have lh:hs.length=xs.length:=hl _ _ _ rfl
  refine ⟨_,ϱ,ϱ,_,ϱ,aP (λ_=>?_) (λc=>absurd (τ rfl) c)⟩
  refine ⟨_,ϱ,_,ϱ,_,ϱ,_,ϱ,t,_,_,_,ϱ,ϱ,NA y,at3,_,ϱ,x,hs,_,ϱ,h4,(λz=>x0 (Ľ.mp (by show xs.length=0;rw [← lh,z];rfl))),by have:xs.length<=12:=b0;lia,ω,λl ch H2 n _ h5 O=>⟨χ,λG I=>?_⟩⟩
  have sa:=O.trans (aa (o:=.tup [.str "pact",.ref j,.str (Zf (mS false) xs),.ref l]) I)
  exact q _ (.ref G) _ (.hands n) ⟨G,j,_,ϱ,Ny,sa _ _ (s1 _ _ h2),l,ϱ,aa I _ _ h5⟩ (s1.trans sa)
 have dr:∀n:Nat,n<=5+r.length->bn (.str e.ex.wd::.ref j::.str (Zf (mS e.ex.b) e.ex.xs)::.int k::.ref x::r) (some (n:Int)) none=(V.str e.ex.wd::.ref j::.str (Zf (mS e.ex.b) e.ex.xs)::.int k::.ref x::r).drop n:=λn h=>iP _ n (by simp;lia)
 refine ⟨_,ϱ,ϱ,_,ϱ,aP (λz=>absurd (Ξ z) nw) (λ_=>?_)⟩
 refine L _ _ (sq λnx L=>?_)
 refine ⟨_,ϱ,_,_,ϱ,ϱ,Qa 5,ϱ,_,ϱ,aP (λz=>?_) (λz2=>?_)⟩
 .refine ⟨_,ϱ,_,ϱ,t,_,ϱ,y,λG H2 O g2=>?_⟩
  rw [show bn _ none (some 4)=[_,_,_,_] from dq _ 4 (by simp)] at g2
  refine ⟨_,ϱ,t,_,_,_,ϱ,ϱ,NA (O _ _ y),at4,_,ϱ,x,cs,_,ϱ,h4.keep O.ts,ω,λl cs' H3 n h5 s3=>⟨χ,λp3 ah=>?_⟩⟩
  have J:=aa (o:=.tup [.ref l]) ah
  have a4:=O.trans (s3.trans J)
  refine ⟨G,p3,_,_,ϱ,ϱ,NA (J _ _ (s3 _ _ g2)),Ny,(by intro z;cases z),by show 4+1<=sizeLine;decide,λp4 H4 X g4=>?_⟩
  refine ⟨_,ϱ,_,ϱ,t,_,ϱ,X _ _ (a4 _ _ y),λp5 H5 s6 g5=>?_⟩
  rw [show bn _ (some 5) none=r from dr 5 ω] at g5
  have W:=a4.trans (X.trans s6)
  have aM:=h5.keep (J.trans (X.trans s6)).ts
  refine ⟨p4,p5,_,_,ϱ,ϱ,NA (s6 _ _ g4),NA g5,(by intro z;cases z),by show 5+r.length<=_;lia,λz=>?_,λz p6 bi=>?_⟩
  .subst z
   exact mk k cs' l p4 H5 aM (λz=>n z.2) W (s6 _ _ g4)
  .have s7:=aa (o:=.tup ([.str e.ex.wd,.ref j,.str (Zf (mS e.ex.b) e.ex.xs),.int k,.ref l]++r)) bi
   exact mk k cs' l p6 _ (aM.keep s7.ts) (λz=>n z.2) (W.trans s7) Ny
 have aS:∀d l C,d≠0->NI H1 C->C l=some (.tup (.str e.ex.wd::.ref j::.str (Zf (mS e.ex.b) e.ex.xs)::.int (k+d)::.ref x::r))->Q (.ref l) C:=λd l C d0 s' g=>mk (k+d) cs x l C (h4.keep s'.ts) (λz=>d0 ω) s' g
 refine L _ _ (sq λnx L=>?_)
 refine ⟨_,ϱ,_,_,ϱ,ϱ,Qa 5,ϱ,_,ϱ,aP (λz3=>?_) (λz3=>a8 ?_)⟩
 rotate_left
 .exact L _ _ ⟨t,j,x,_,_,k,_,r,_,_,_,ϱ,y,lr,ω,aS⟩
 refine ⟨_,ϱ,ϱ,_,ϱ,aP (λz4=>?_) (λz4=>?_)⟩
 rotate_left
 .exact L _ _ ⟨t,j,x,_,_,k,_,r,_,_,_,ϱ,y,lr,ω,aS⟩
 cases e with
 | pact p xs hs=>exact absurd rfl nw
 | undo p xs k cs=>exact absurd (show V.str "undo"=V.str "step" from Ξ z4) θ
 | step p xs k2 cs2 h =>
  obtain ⟨c1,ev,b2⟩:=U
  cases ev
  obtain ⟨d,ed,d0⟩:=hnd
  refine ⟨_,ϱ,_,ϱ,t,_,ϱ,y,λG H2 O g2=>?_⟩
  rw [show bn _ none (some 5)=[_,_,_,_,_] from dq _ 5 (by simp)] at g2
  refine ⟨_,ϱ,t,_,_,_,ϱ,ϱ,NA (O _ _ y),at5,_,_,ϱ,ϱ,⟨ζ,ζ,ζ⟩,χ,λpl a0=>?_⟩
  have s3:=aa (o:=.lst [V.int 1,V.int (10 ^ (30:Int).toNat)]) a0
  refine ⟨_,ϱ,_,_,ϱ,ϱ,Qa 1,pl,_,_,_,ϱ,ϱ,Nz Ny,ed,_,_,ϱ,ϱ,χ,λp3 ah=>?_⟩
  have J:=aa (o:=.tup [V.int (h+d)]) ah
  have a4:=O.trans (s3.trans J)
  refine ⟨G,p3,_,_,ϱ,ϱ,NA (J _ _ (s3 _ _ g2)),Ny,(by intro z;cases z),by show 5+1<=sizeLine;decide,λp4 H4 X g4=>?_⟩
  have W:=a4.trans X
  exact q _ (.ref p4) H4 (.step (k':=(k:Int)) (cs':=cs2) (h':=h+d) λz=>d0 ω) ⟨p4,j,_,ϱ,g4,W _ _ (s1 _ _ h2),x,ϱ,b2.keep W.ts⟩ (s1.trans W)
section
variable {X:Cx}{C:L2.St->Hp->Prop}
abbrev VR:=V->Hp->Prop
structure EV(X:Cx)(C:L2.St->Hp->Prop)(e:ï)(R:VR):Prop where
 pe:PE X e (fun σ H Q=>C σ H/\∀v H',NI H H'->R v H'->Q v H')
 kp:∀v H H',NI H H'->R v H->R v H'
def AllR:î VR->î V->Hp->Prop
 | [],vs,_=>vs=[]
 | R::Rs,vs,H=>∃v r,vs=v::r/\R v H/\AllR Rs r H
theorem AllR.len:∀{Rs:î VR} {vs:î V} {H:Hp},AllR Rs vs H->vs.length=Rs.length
 | [],_,_,h=>by rw [show _=[] from h];rfl
 | R::Rs,_,_,⟨v,r,e,_,h⟩=>by rw [e,Ŷ,Ŷ,h.len]
structure EVs(X:Cx)(C:L2.St->Hp->Prop)(es:Ą)(Rs:î VR):Prop where
 pa:PA X es (fun σ H Q=>C σ H/\∀vs H',NI H H'->AllR Rs vs H'->Q vs H')
 kp:∀vs H H',NI H H'->AllR Rs vs H->AllR Rs vs H'
 kc:∀σ H H',NI H H'->C σ H->C σ H'
def jd{e:ï}{t:TE}{R:VR}(h:PE X e t)(kp:∀v H H',NI H H'->R v H->R v H')(hw:∀σ H Q,C σ H->(∀v H',NI H H'->R v H'->Q v H')->t σ H Q):EV X C e R:=⟨λpins s σ H Q I q=>h pins s σ H Q I (hw σ H Q q.1 q.2),kp⟩
def isI(n:Int):VR:=λv _=>v=.int n
def isS(z:Str):VR:=λv _=>v=.str z
def cI{i:Int}{j:Nat}{pos:Pos}:EV X C (.Constant (.int i) j pos) (isI i):=jd af (λ_ _ _ _ h=>h) λ_ H _ _ q=>q _ H (NC _) rfl
def EF{i:Int}{j:Nat}{pos pos':Pos}:EV X C (.UnaryOp .USub (.Constant (.int i) j pos) pos') (isI (-i)):=jd (eR cA af) (λ_ _ _ _ h=>h) λ_ H _ _ q=>⟨_,ϱ,q _ H (NC _) rfl⟩
def dR{z y:Str}{j:Nat}{pos:Pos}(h:z=y):EV X C (.Constant (.str z) j pos) (isS y):=jd aw (λ_ _ _ _ h=>h) λ_ H _ _ q=>q _ H (NC _) (by rw [h];rfl)
def aD(kc:∀σ H H',NI H H'->C σ H->C σ H'):EVs X C [] []:=⟨λpos pins s σ H Q I h=>aO pos pins s σ H Q I (h.2 [] H (NC _) rfl),λ_ _ _ _ h=>h,kc⟩
def ae{e:ï}{es:Ą}{R:VR}{Rs:î VR}(h:EV X C e R)(hr:EVs X C es Rs)(hs:starEach (e::es) X.env=(false,eval e X.env)::starEach es X.env:=by rfl):EVs X C (e::es) (R::Rs) :=
 ⟨λpos pins s σ H Q I q=>aj h.pe hr.pa hs pos pins s σ H Q I ⟨q.1,λv H1 s1 r1=>⟨hr.kc _ _ _ s1 q.1,λvs H2 s2 r2=>q.2 _ H2 (s1.trans s2) ⟨v,vs,ϱ,h.kp _ _ _ s2 r1,r2⟩⟩⟩,
  λvs H H' s ⟨v,r,e1,r1,r2⟩=>⟨v,r,e1,h.kp _ _ _ s r1,hr.kp _ _ _ s r2⟩,hr.kc⟩
def rQ{es:Ą}{Rs:î VR}{R:VR}{k:Nat}{pos:Pos}(h:EVs X C es Rs)(hl:Rs.length<=1000)(kp:∀v H H',NI H H'->R v H->R v H')(hw:∀t vs H,H t=some (.tup vs)->AllR Rs vs H->R (.ref t) H):EV X C (.Tuple es k pos) R :=
 jd (aA h.pa) kp fun σ H Q c q=>⟨c,λvs H1 s1 r=>⟨by rw [r.len];exact Λ hl ζ,λp hp=>q _ _ (s1.trans (aa hp)) (hw p vs _ Ny (h.kp _ _ _ (aa hp) r))⟩⟩
def vX{es:Ą}{Rs:î VR}{R:VR}{pos:Pos}(h:EVs X C es Rs)(hl:Rs.length<=1000)(kp:∀v H H',NI H H'->R v H->R v H')(hw:∀t vs H,H t=some (.lst vs)->AllR Rs vs H->R (.ref t) H):EV X C (.List es pos) R :=
 jd (bF h.pa) kp fun σ H Q c q=>⟨c,λvs H1 s1 r=>⟨by rw [r.len];exact Λ hl ζ,λp hp=>q _ _ (s1.trans (aa hp)) (hw p vs _ Ny (h.kp _ _ _ (aa hp) r))⟩⟩
def TiR(ns:ć):VR:=λv H=>∃t,v=.ref t/\H t=some (.tup (ns.map V.int))
def PaR(x:Int×Int):VR:=λv H=>∃b,v=.ref b/\H b=some (.tup [.int x.1,.int x.2])
def ChR(cs:î (Int×Int)):VR:=λv H=>∃t,v=.ref t/\ChT H cs t
theorem xp:∀{ns:ć} {vs:î V} {H:Hp},AllR (ns.map isI) vs H->vs=ns.map V.int
 | [],_,_,h=>h
 | n::r,_,_,⟨v,us,e,e1,h⟩=>by rw [e,show v=_ from e1,xp h];rfl
theorem BK:∀{cs:î (Int×Int)} {vs:î V} {H:Hp},AllR (cs.map PaR) vs H->Paired (λ(x:Int×Int) u=>∃b,u=.ref b/\H b=some (.tup [.int x.1,.int x.2])) cs vs
 | [],_,_,h=>by rw [show _=[] from h];exact .nil
 | n::r,_,_,⟨v,us,e,e1,h⟩=>by rw [e];exact .cons e1 (BK h)
def jL(x:Int×Int):∀v H H',NI H H'->PaR x v H->PaR x v H':=λ_ _ _ s ⟨b,e,h⟩=>⟨b,e,s _ _ h⟩
def tD(cs:î (Int×Int)):∀v H H',NI H H'->ChR cs v H->ChR cs v H':=λ_ _ _ s ⟨b,e,h⟩=>⟨b,e,h.keep s.ts⟩
def zD(ns:ć){es:Ą}{k:Nat}{pos:Pos}(h:EVs X C es (ns.map isI))(hl:ns.length<=1000:=by simp):EV X C (.Tuple es k pos) (TiR ns):=rQ h (by rw [List.length_map];exact hl) (λ_ _ _ s ⟨b,e,h⟩=>⟨b,e,s _ _ h⟩) λt vs H g r=>⟨t,ϱ,by rw [g,xp r]⟩
def oW(x:Int×Int){es:Ą}{k:Nat}{pos:Pos}(h:EVs X C es [isI x.1,isI x.2]):EV X C (.Tuple es k pos) (PaR x):=rQ h (show 2<=1000 by decide) (jL x) λt vs H g r=>⟨t,ϱ,by rw [g,xp (ns:=[x.1,x.2]) r];rfl⟩
def qp(cs:î (Int×Int)){es:Ą}{k:Nat}{pos:Pos}(h:EVs X C es (cs.map PaR))(hl:cs.length<=1000:=by simp):EV X C (.Tuple es k pos) (ChR cs):=rQ h (by rw [List.length_map];exact hl) (tD cs) λt vs H g r=>⟨t,ϱ,vs,g,BK r⟩
def fR:Ex->î VR
 | .pact p b xs hs=>[isS "pact",PaR p,isS (Zf (mS b) xs),TiR hs]
 | .step p b xs k cs h=>[isS "step",PaR p,isS (Zf (mS b) xs),isI k,ChR cs,isI h]
 | .undo p b xs k cs=>[isS "undo",PaR p,isS (Zf (mS b) xs),isI k,ChR cs]
def ExV(e:Ex):VR:=λv H=>NW H e v
def EE{e:Ex}{t:ø}{vs:î V}{H:Hp}(g:H t=some (.tup vs))(h:AllR (fR e) vs H):ExV e (.ref t) H:=by
 cases e with
 | pact p b xs hs =>
  obtain ⟨_,_,rfl,rfl,_,_,rfl,⟨d,rfl,f⟩,_,_,rfl,rfl,_,_,rfl,⟨j,rfl,l⟩,rfl⟩:=h
  exact ⟨t,d,_,ϱ,g,f,j,ϱ,l⟩
 | step p b xs k cs hh =>
  obtain ⟨_,_,rfl,rfl,_,_,rfl,⟨d,rfl,f⟩,_,_,rfl,rfl,_,_,rfl,rfl,_,_,rfl,⟨j,rfl,l⟩,_,_,rfl,rfl,rfl⟩:=h
  exact ⟨t,d,_,ϱ,g,f,j,ϱ,l⟩
 | undo p b xs k cs =>
  obtain ⟨_,_,rfl,rfl,_,_,rfl,⟨d,rfl,f⟩,_,_,rfl,rfl,_,_,rfl,rfl,_,_,rfl,⟨j,rfl,l⟩,rfl⟩:=h
  exact ⟨t,d,_,ϱ,g,f,j,ϱ,l⟩
def b7(e:Ex){es:Ą}{k:Nat}{pos:Pos}(h:EVs X C es (fR e)):EV X C (.Tuple es k pos) (ExV e):=rQ h (Nat.le_trans (show (fR e).length<=6 by cases e<;>simp [fR]) ζ) (λ_ _ _ s h=>h.keep s.ts) λt vs H g r=>EE g r
def LsR(as:î Ex):VR:=λv H=>∃l us,v=.ref l/\H l=some (.lst us)/\Paired (NW H) as us
def sQ(as:î Ex):∀v H H',NI H H'->LsR as v H->LsR as v H':=λ_ _ _ s ⟨l,us,e,h,p⟩=>⟨l,us,e,s _ _ h,NB p λ_ _ z=>z.keep s.ts⟩
theorem BI:∀{as:î Ex} {vs:î V} {H:Hp},AllR (as.map ExV) vs H->Paired (NW H) as vs
 | [],_,_,h=>by rw [show _=[] from h];exact .nil
 | n::r,_,_,⟨v,us,e,e1,h⟩=>by rw [e];exact .cons e1 (BI h)
def gi(as:î Ex){es:Ą}{pos:Pos}(h:EVs X C es (as.map ExV))(hl:as.length<=1000:=by simp):EV X C (.List es pos) (LsR as):=vX h (by rw [List.length_map];exact hl) (sQ as) λt vs H g r=>⟨t,vs,ϱ,g,BI r⟩
def iO{as bs:î Ex}{a b:ï}{pos:Pos}(h1:EV X C a (LsR as))(h2:EV X C b (LsR bs))(kc:∀σ H H',NI H H'->C σ H->C σ H')(hl:as.length+bs.length<=1000:=by simp):EV X C (.BinOp a .Add b pos) (LsR (as++bs)) :=
 jd (ai uv h1.pe h2.pe) (sQ _) fun σ H Q c q=>⟨c,λv H1 s1 r1=>⟨kc _ _ _ s1 c,λu H2 s2 r2=>by
  obtain ⟨l,us,rfl,g1,p1⟩:=sQ _ _ _ _ s2 r1
  obtain ⟨m,ws,rfl,g2,p2⟩:=r2
  have l1:=p1.len
  have l2:=p2.len
  refine ⟨l,m,us,ws,ϱ,ϱ,g1,g2,Λ ω (show 1000<=sizeLine by decide),λp hp=>q _ _ (s1.trans (s2.trans (aa hp))) ⟨p,_,ϱ,Ny,?_⟩⟩
  exact (NB p1 λ_ _ z=>z.keep (aa hp).ts).app (NB p2 λ_ _ z=>z.keep (aa hp).ts)⟩⟩
def Cz(c:Int)(y2:Option V)(R3:Option V->Hp->Prop):L2.St->Hp->Prop:=fun σ H=>∃v y3,σ=[some (.int c),some v,y2,y3]/\PaR (9,9) v H/\R3 y3 H
def T3:Option V->Hp->Prop:=λ_ _=>True
def C3(as:î Ex):Option V->Hp->Prop:=λy H=>∃l,y=some l/\LsR as l H
variable {c:Int}{y2:Option V}{R3:Option V->Hp->Prop}
def kT(σ:L2.St)(H H':Hp)(s:NI H H')(h:Cz c y2 T3 σ H):Cz c y2 T3 σ H':=by
 obtain ⟨v,y3,e,p,r⟩:=h
 exact ⟨v,y3,e,jL _ _ _ _ s p,r⟩
def Zm{as:î Ex}(σ:L2.St)(H H':Hp)(s:NI H H')(h:Cz c y2 (C3 as) σ H):Cz c y2 (C3 as) σ H':=by
 obtain ⟨v,y3,e,p,l,d,r⟩:=h
 exact ⟨v,y3,e,jL _ _ _ _ s p,l,d,sQ _ _ _ _ s r⟩
def dW{e:ï}(h:PE X e (jx 1)):EV X (Cz c y2 R3) e (PaR (9,9)):=jd h (jL _) fun σ H Q z q=>by
 obtain ⟨v,y3,rfl,p,r⟩:=z
 exact ⟨v,ϱ,q v H (NC _) p⟩
def iN{e:ï}{tx:Str}(h:PE X e (jx 2)):EV X (Cz c (some (.str tx)) R3) e (isS tx):=jd h (λ_ _ _ _ h=>h) fun σ H Q z q=>by
 obtain ⟨v,y3,rfl,p,r⟩:=z
 exact ⟨_,ϱ,q _ H (NC _) rfl⟩
def lP{e:ï}{as:î Ex}(h:PE X e (jx 3)):EV X (Cz c y2 (C3 as)) e (LsR as):=jd h (sQ _) fun σ H Q z q=>by
 obtain ⟨v,y3,rfl,p,l,rfl,r⟩:=z
 exact ⟨l,ϱ,q l H (NC _) r⟩
def two{a b:Int}{j1 j2:Nat}{q1 q2:Pos}(kc:∀σ H H',NI H H'->C σ H->C σ H'):EVs X C [.Constant (.int a) j1 q1,.Constant (.int b) j2 q2] [isI a,isI b]:=ae cI (ae cI (aD kc))
def ch1{b:Int}{j1 j2 k1 k2:Nat}{q1 q2 q3 q4:Pos}(kc:∀σ H H',NI H H'->C σ H->C σ H'):EV X C (.Tuple [.Tuple [.Constant (.int 0) j1 q1,.Constant (.int b) j2 q2] k1 q3] k2 q4) (ChR [(0,b)]):=qp [(0,b)] (ae (oW (0,b) (two kc)) (aD kc))
structure PSw(X:Cx)(st:î ð)(t:TS):Prop where
 ps:PSs X st t
structure PSq(X:Cx)(st:ð)(t:TS):Prop where
 ps:PS X st t
def DD(C:L2.St->Hp->Prop)(R:VR)(i:Nat):TS:=λD σ H=>C σ H/\∀v H',NI H H'->R v H'->D.nx (σ.set i (some v)) H'
def DG(C:L2.St->Hp->Prop)(R:VR):TS:=λD σ H=>C σ H/\∀v H',NI H H'->R v H'->D.rt v H'
variable {st:ð}{rest:î ð}{t u:TS}{e:ï}{R:VR}{pos:Pos}
def ck(h1:PSq X st t)(h2:PSw X rest u):PSw X (st::rest) (BX t u):=⟨ac h1.ps h2.ps⟩
def i5(h:PSq X st t):PSw X [st] t:=⟨au h.ps⟩
def rA{a:ï}{tc:TT}(hc:PT X a tc)(h:PSw X rest t):PSq X (.If a rest [] pos) (DM tc t Bx):=⟨aC hc h.ps ao⟩
def i6(h:EV X C e R):PSq X (.Return (some e) pos) (DG C R):=⟨eO h.pe⟩
def oo{i:Nat}{x:Str}{px:Pos}(hN:X.N.Nodup)(hi:X.N[i]?=some x)(hx:Loc X.env.scope x)(h:EV X C e R)(hs:swapsWith e (some (.Name x px)) pos.line X.env=pure false:=by rfl)(hf:X.fn x=true\/X.env.scope.names.lookup x=some .local:=by first | exact .inl rfl | exact .inr rfl | assumption):PSq X (.Assign [.Name x px] e pos) (DD C R i):=⟨gC hN hi hx h.pe hs hf⟩
end
def fm(as:î En)(e:Ex):Prop:=(∀o∈as,o.nm.1=9)/\e.nm.1=9/\∀x r R,∃Y,Run [] as ((x::r)::R) Y/\Bad Y (Zi e.nm as) e
structure One(x:Zc):Prop where
 a:Ar x.1 x.2
 t:∀a r R,be (aB ((a::r)::R)) x=true
def tX(a:Int)(r:ć)(R:î (ć)):(decide ((0:Int)<((aB ((a::r)::R)).length:Nat))&&decide ((0:Int)<((aB ((a::r)::R))[(0:Int).toNat]?).getD 0))=true:=by
 rw [ł]
 refine ⟨τ ?_,τ ?_⟩
 .show (0:Int)<(((aB R).length+1:Nat):Int)
  lia
 .show (0:Int)<((r.length+1:Nat):Int)
  lia
def iv{i:Int}(h:decide (i.natAbs<10 ^ 40)=true):inV i:=by
 unfold St.inV
 exact Ξ h
def in0:inN 0:=by unfold inN;decide +kernel
def D8:One (.take,[0,0]):=⟨⟨in0,in0⟩,tX⟩
def vz:One (.give,[0,0]):=⟨⟨in0,in0⟩,tX⟩
def pR{v:Int}(h:decide (v.natAbs<10 ^ 40)=true):One (.add,[0,0,v]):=⟨⟨in0,in0,iv h⟩,tX⟩
def lL{v:Int}(h:decide (v.natAbs<10 ^ 40)=true):One (.plus,[v]):=⟨iv h,λ_ _ _=>rfl⟩
def BE{v:Int}(h:decide (v.natAbs<10 ^ 40)=true):One (.need,[v]):=⟨iv h,λ_ _ _=>rfl⟩
def iA:∀x∈([]:î Zc),One x:=λ_ m=>by cases m
def bu{x:Zc}{xs:î Zc}(h:One x)(t:∀y∈xs,One y):∀y∈x::xs,One y:=λy m=>by
 rcases ϕ.mp m with rfl | m
 .exact h
 .exact t y m
def oV{b:Bool}{x:Int}{r:ć}{R:î (ć)}{xs:î Zc}(h:∀y∈xs,One y)(n:xs≠[])(l:xs.length<=12)(nn:∀y∈xs,y.1≠.need):FitP b ((x::r)::R) xs:=⟨λy m=>(h y m).a,n,l,λj hj y e=>(h y (ž e)).t x r R,λ_ j _ _ y e=>nn y (ž e)⟩
def vA{xs:î Zc}{h:Int}{X:î (ć)}(nn:∀y∈xs,y.1≠.need):okS xs h X:=λi y e z=>absurd z (nn y (ž e))
def mV{x:Int}{r:ć}{R X':î (ć)}{bs:î En}{p:Pa}{xs:î Zc}{k st:Nat}{cs:î (Int×Int)}{h h0:Int}{y:Zc}(o:∀y∈xs,One y)(n:xs≠[])(l:xs.length<=12)(nn:∀y∈xs,y.1≠.need)(fb:∀b∈bs,∃p' k' cs' h',b=.step p' xs k' cs' h')(fl:(bs=[]/\st=0/\h0=0)\/∃r p' k' cs',bs=r++[.step p' xs k' cs' h0]/\st=k'+1)
  (f1:st<=k)(f2:∀i y,st<=i->i<k->xs[i]?=some y->aI y.1 y.2=.non)(ex:xs[k]?=some y)(hy:aI y.1 y.2≠.non)(d:Zk y (bw (aR ((xs.drop st).take (k-st)) h0 ((x::r)::R)).1 h0) (aR ((xs.drop st).take (k-st)) h0 ((x::r)::R)).2=(h,cs))(e:X'=ce y cs (aR ((xs.drop st).take (k-st)) h0 ((x::r)::R)).2):Fit ((x::r)::R) bs (.step p xs k cs h) X' :=
 ⟨oV o n l nn,st,h0,fb,fl,⟨f1,f2,y,ex,hy⟩,vA λz m=>nn z (Ŀ (ň m)),y,ex,d,e⟩
def tH:î Zc:=[(.plus,[5]),(.give,[0,0])]
def tK:î Zc:=[(.add,[0,0,3]),(.plus,[1]),(.add,[0,0,4])]
def tL:î Zc:=[(.add,[0,0,3]),(.plus,[1]),(.add,[0,0,5])]
def tG:î Zc:=[(.plus,[5]),(.give,[0,0]),(.plus,[1]),(.add,[0,0,2]),(.give,[0,0])]
def oH:∀y∈tH,One y:=bu (lL rfl) (bu vz iA)
def oK:∀y∈tK,One y:=bu (pR rfl) (bu (lL rfl) (bu (pR rfl) iA))
def oL:∀y∈tL,One y:=bu (pR rfl) (bu (lL rfl) (bu (pR rfl) iA))
def oG:∀y∈tG,One y:=bu (lL rfl) (bu vz (bu (lL rfl) (bu (pR rfl) (bu vz iA))))
def nK:∀y∈tK,y.1≠.need:=by decide
def nG:∀y∈tG,y.1≠.need:=by decide
abbrev p9:Pa:=(9,9)
def eA:En:=.pact (9,8) tH [5,5]
def eB:En:=.step p9 tK 0 [(0,8)] 0
def eC:En:=.undo p9 tK 0 [(0,5)]
def g1:En:=.step p9 tG 1 [(0,5)] 5
def g2:En:=.step p9 tG 3 [(0,7)] 6
def g3':En:=.step p9 tG 4 [(0,6)] 6
def fA(x:Int)(r:ć)(R:î (ć)):Fit ((x::r)::R) [] eA ((5::r)::R):=⟨oV oH (by intro z;cases z) ζ ζ,ϱ,vA ζ,ϱ,ϱ⟩
def fB(r:ć)(R:î (ć)):Fit ((5::r)::R) [] eB ((8::r)::R):=mV (st:=0) (h0:=0) oK (by intro z;cases z) ζ nK (λ_ m=>by cases m) (.inl ⟨ϱ,ϱ,ϱ⟩) (ι _) (λi y a b=>absurd b ω) rfl (by intro z;cases z) rfl rfl
def fC(r:ć)(R:î (ć)):Fit ((8::r)::R) [eB] eC ((5::r)::R):=⟨oV oK (by intro z;cases z) ζ nK,λb m=>.inl ⟨_,_,_,_,ϵ.mp m⟩,(by intro z;cases z),ϱ,λj m=>by
  rw [ϵ.mp (show j∈[0] from m)]
  exact ⟨_,ϱ,by intro z;cases z⟩,_,ϱ,(by intro z;cases z),ϱ,ϱ⟩
def f1(x:Int)(r:ć)(R:î (ć)):Fit ((x::r)::R) [] g1 ((5::r)::R):=mV (st:=0) (h0:=0) oG (by intro z;cases z) ζ nG (λ_ m=>by cases m) (.inl ⟨ϱ,ϱ,ϱ⟩) ζ (λi y a b e=>by
  obtain rfl:i=0:=by lia
  cases e
  rfl) rfl (by intro z;cases z) rfl rfl
def f2(r:ć)(R:î (ć)):Fit ((5::r)::R) [g1] g2 ((7::r)::R):=mV (st:=2) (h0:=5) oG (by intro z;cases z) ζ nG (λb m=>⟨_,_,_,_,ϵ.mp m⟩) (.inr ⟨[],_,_,_,ϱ,ϱ⟩) ζ (λi y a b e=>by
  obtain rfl:i=2:=by lia
  cases e
  rfl) rfl (by intro z;cases z) rfl rfl
def g12:∀b∈[g1,g2],∃p' k' cs' h',b=En.step p' tG k' cs' h':=λb m=>by
 rcases ϕ.mp m with rfl | m
 .exact ⟨_,_,_,_,ϱ⟩
 .exact ⟨_,_,_,_,ϵ.mp m⟩
def f3(r:ć)(R:î (ć)):Fit ((7::r)::R) [g1,g2] g3' ((6::r)::R):=mV (st:=4) (h0:=6) oG (by intro z;cases z) ζ nG g12 (.inr ⟨[g1],_,_,_,ϱ,ϱ⟩) ζ (λi y a b=>absurd b ω) rfl (by intro z;cases z) rfl rfl
def okB:OkE eB:=oU (fB [] [])
def ok1:OkE g1:=oU (f1 0 [] [])
def ok2:OkE g2:=oU (f2 [] [])
def lS{xs:î Zc}(h:∀y∈xs,One y):ArS xs:=λy m=>(h y m).a
def Dy:Wlk [eB]:=λo m=>.inl ⟨_,_,_,_,_,ϵ.mp m,ζ⟩
def m0:fm [] (.pact p9 false [(.plus,[3]),(.need,[4])] [3,3]):=⟨(λ_ m=>by cases m),ϱ,λx r R=>⟨_,ϱ,lS (bu (lL rfl) (bu (BE rfl) iA)),(by intro z;cases z),ζ,ϰ,λX' z=>absurd (z.2.2.1.2.2.1 1 _ rfl rfl 4 rfl) (show ¬(4:Int)<=0+3 by decide)⟩⟩
def m1:fm [] (.step p9 true [(.plus,[-2]),(.need,[-1]),(.give,[0,0])] 2 [(0,-2)] (-2)):=⟨(λ_ m=>by cases m),ϱ,λx r R=>⟨_,ϱ,lS (bu (lL rfl) (bu (BE rfl) (bu vz iA))),(by intro z;cases z),ζ,(λ_ m=>by cases m),λX' z=>by
 obtain ⟨_,_,_,_,st,h0,ls,k,ek,_,ok,_⟩:=z
 obtain ⟨rfl,rfl⟩:=fE ls (.inl ⟨ϱ,ϱ,ϱ⟩)
 obtain rfl:k=2:=by lia
 exact absurd (ok 1 _ rfl rfl (-1) rfl) (show ¬(-1:Int)<=0+-2 by decide)⟩⟩
def m2:fm [] (.undo p9 true [(.take,[0,0]),(.add,[0,0,1])] 0 []):=⟨(λ_ m=>by cases m),ϱ,λx r R=>⟨_,ϱ,lS (bu D8 (bu (pR rfl) iA)),(by intro z;cases z),ζ,.inl (.inl rfl),λX' z=>z.2.2.1 (.inl rfl)⟩⟩
def ust:∀o∈[g1,g2],(∃p' k' cs' h' x,o=En.step p' tG k' cs' h'/\tG[k']?=some x/\aI x.1 x.2≠.non)\/∃p' k' cs',o=En.undo p' tG k' cs':=λo m=>by
 rcases ϕ.mp m with rfl | m
 .exact .inl ⟨_,_,_,_,_,ϱ,ϱ,by intro z;cases z⟩
 .exact .inl ⟨_,_,_,_,_,ϵ.mp m,ϱ,by intro z;cases z⟩
def vB{bs:î En}{k:Int}{cs:î (Int×Int)}{X e:î (ć)}(m:1∈left bs)(z:tO X bs tG k cs e):False:=by
 obtain ⟨_,_,_,d,_⟩:=z
 obtain ⟨x,ex,n⟩:=d 1 m
 cases ex
 exact n rfl
def m3:fm [g1] (.undo p9 true tG 1 []):=⟨ζ,ϱ,λx r R=>⟨_,⟨_,f1 x r R,ϱ⟩,lS oG,(by intro z;cases z),ζ,.inr ⟨ϱ,(by intro z;cases z),λo m=>ust o (ϕ.mpr (.inl (ϵ.mp m))),ζ⟩,λX' z=>vB (bs:=[g1]) (show 1∈[1] by decide) z.2.2.2⟩⟩
def m4:fm [g1,g2] (.undo p9 true tG 3 [(0,5)]):=⟨ζ,ϱ,λx r R=>⟨_,⟨_,f1 x r R,_,f2 r R,ϱ⟩,lS oG,(by intro z;cases z),ζ,.inr ⟨ϱ,(by intro z;cases z),ust,ζ⟩,λX' z=>vB (bs:=[g1,g2]) (show 1∈[1,3] by decide) z.2.2.2⟩⟩
def m5:fm [g1,g2,g3'] (.step p9 true tG 4 [(0,6)] 6):=⟨ζ,ϱ,λx r R=>⟨_,⟨_,f1 x r R,_,f2 r R,_,f3 r R,ϱ⟩,qD (f3 r R) (λo m=>by
 rcases ϕ.mp m with rfl | m
 .exact ok1
 .rw [ϵ.mp m];exact ok2) (show [1,3].Pairwise (·<·) by decide)⟩⟩
def k0:fm [eA,eB,eC] (.step p9 true tK 2 [(0,9)] 1):=⟨ζ,ϱ,λx r R=>⟨_,⟨_,fA x r R,_,fB r R,_,fC r R,ϱ⟩,lS oK,(by intro z;cases z),ζ,(λo m=>by
 rcases ϕ.mp (show o∈[eB,eC] from m) with rfl | m
 .exact Dy _ Ω
 .exact .inr ⟨_,_,_,_,ϵ.mp m⟩),λX' z=>by
 obtain ⟨_,_,_,_,_,e,_⟩:=z.2.2.2.1 eC (show eC∈[eB,eC] from Θ _ Ω)
 cases e⟩⟩
def k1:fm [eA,eB] (.step p9 true tL 2 [(0,13)] 1):=⟨ζ,ϱ,λx r R=>⟨_,⟨_,fA x r R,_,fB r R,ϱ⟩,lS oL,(by intro z;cases z),ζ,Dy,λX' z=>by
 obtain ⟨_,_,_,_,_,e,h⟩:=z.2.2.2.1 eB (show eB∈[eB] from Ω)
 cases e
 exact absurd h θ⟩⟩
def k2{cs:î (Int×Int)}(n:cs≠[(0,5)]):fm [eA,eB] (.undo p9 true tK 0 cs):=⟨ζ,ϱ,λx r R=>⟨_,⟨_,fA x r R,_,fB r R,ϱ⟩,tI (fC r R) (λo m=>by rw [ϵ.mp m];exact okB) λz=>n z.2⟩⟩
def k3:fm [eA,eB] (.pact p9 false [(.plus,[3])] [3]):=⟨ζ,ϱ,λx r R=>⟨_,⟨_,fA x r R,_,fB r R,ϱ⟩,lS (bu (lL rfl) iA),(by intro z;cases z),ζ,ϰ,λX' z=>by
 have:[eB]=[]:=z.2.2.1.2.1
 cases this⟩⟩
def tq(c:Int):î (Int×Int):=if c/4%3=0 then [(0,6)] else if c/4%3=1 then [] else [(0,5),(0,5)]
def EM(c:Int):tq c≠[(0,5)]:=by
 unfold tq
 split
 .decide
 .split<;>decide
section
variable {X:Cx}{c:Int}{y2:Option V}{as:î Ex}{n:ï}{j1 j2 j3 j4 j5 j6 j7 j8 k1 k2 k3 k4 k5 k6:Nat}{q1 q2 q3 q4 q5 q6 q7 q8 q9 qa qb qc qd qe qf qg qh qi:Pos}
def EH:EV X (Cz c y2 (C3 as)) (.List [.Tuple [.Tuple [.Constant (.int 0) j1 q1,.Constant (.int 6) j2 q2] k1 q3] k2 q4,.Tuple [] k3 q5,.Tuple [.Tuple [.Constant (.int 0) j3 q6,.Constant (.int 5) j4 q7] k4 q8,.Tuple [.Constant (.int 0) j5 q9,.Constant (.int 5) j6 qa] k5 qb] k6 qc] qd) (λv H=>∃l us,v=.ref l/\H l=some (.lst us)/\AllR [ChR [(0,6)],ChR [],ChR [(0,5),(0,5)]] us H):=by
 have h1:EV X (Cz c y2 (C3 as)) (.Tuple [.Tuple [.Constant (.int 0) j1 q1,.Constant (.int 6) j2 q2] k1 q3] k2 q4) (ChR [(0,6)]):=ch1 Zm
 have d:EV X (Cz c y2 (C3 as)) (.Tuple [] k3 q5) (ChR []):=qp [] (aD Zm)
 have f:EV X (Cz c y2 (C3 as)) (.Tuple [.Tuple [.Constant (.int 0) j3 q6,.Constant (.int 5) j4 q7] k4 q8,.Tuple [.Constant (.int 0) j5 q9,.Constant (.int 5) j6 qa] k5 qb] k6 qc) (ChR [(0,5),(0,5)]):=qp [(0,5),(0,5)] (ae (oW (0,5) (two Zm)) (ae (oW (0,5) (two Zm)) (aD Zm)))
 refine vX (ae h1 (ae d (ae f (aD Zm)))) (show 3<=1000 by decide) ?_ λt vs H g r=>⟨t,vs,ϱ,g,r⟩
 rintro v H x s ⟨l,us,e,g,_,_,h,j,_,_,k,o,_,_,q,u,w⟩
 exact ⟨l,us,e,s _ _ g,_,_,h,tD _ _ _ _ s j,_,_,k,tD _ _ _ _ s o,_,_,q,tD _ _ _ _ s u,w⟩
def EG{L:ï}(D:EV X (Cz c y2 (C3 as)) L (λv H=>∃l us,v=.ref l/\H l=some (.lst us)/\AllR [ChR [(0,6)],ChR [],ChR [(0,5),(0,5)]] us H))(F:PE X n (tOp (rI (λx j=>0<j) λi j=>V.int (i%j)) (tOp (rI EX λi j=>V.int (i/j)) (jx 0) (tC (V.int 4))) (tC (V.int 3))))(G:mW n)(I:X.K=K):EV X (Cz c y2 (C3 as)) (.Subscript L n qi) (ChR (tq c)):=by
 subst I
 refine jd (jI (r:=yh X.K) mQ D.pe F G) (tD _) fun σ H Q z q=>?_
 refine ⟨z,λv H1 C d=>?_⟩
 obtain ⟨l,us,rfl,g,e,_,rfl,d,f,_,rfl,h,k,_,rfl,o,rfl⟩:=d
 obtain ⟨v,y3,rfl,_⟩:=z
 obtain ⟨u,t,w⟩:∃u,atI [e,f,k] (c/4%3)=some u/\ChR (tq c) u H1:=by
  have y:c/4%3=0\/c/4%3=1\/c/4%3=2:=by lia
  unfold tq
  rcases y with z | z | z<;>rw [z]
  .exact ⟨_,St.at0,d⟩
  .exact ⟨_,St.at1,h⟩
  .exact ⟨_,St.at2,o⟩
 exact ⟨_,ϱ,_,_,ϱ,ϱ,⟨ζ,ζ⟩,_,_,ϱ,ϱ,Qa 2,l,_,_,_,ϱ,ϱ,Nz g,t,q u H1 C w⟩
end
inductive xL (vs:î V) (H:Hp) (Q:VK) (E:XK):Prop|mk c:vs=[.int c]->(0:Int)<=c->(∀as e v H',fm as e->as.length<=3->LsR (as.map En.ex++[e]) v H'->NI H H'->Q v H')->xL vs H Q E
def yL(F:Fun K "_law_known" "_law_known" gz f fd):NH P w K mg base Za 1 f fd MN xL:=by
 refine F.oj sc__law_known λx A k s H vs Q E U h=>?_
 obtain ⟨c,rfl,O,q⟩:=h
 have nd:=sc__law_known.nd
 have u:("walked add 0 0 3; plus 1; add 0 0 4":Str)=Zf (mS true) tK:=by decide +kernel
 refine ⟨_,PSw.ps (ck (oo (i:=1) nd rfl (Or.inl rfl) (oW (C:=λ_ _=>True) (9,9) (ae cI (ae cI (aD (C:=λ_ _=>True) λ_ _ _ _ _=>ϰ)))))
  (ck (oo (i:=2) nd rfl (Or.inl rfl) (dR (C:=λ_ _=>True) u))
  (ck (oo (i:=3) nd rfl (Or.inl rfl) (gi (C:=Cz c (some (.str (Zf (mS true) tK))) T3) [eA.ex,eB.ex] (ae (b7 (C:=Cz c (some (.str (Zf (mS true) tK))) T3) (eA.ex) (ae (dR rfl) (ae (oW (9,8) (two kT)) (ae (dR θ) (ae (zD [5,5] (two kT)) (aD kT)))))) (ae (b7 (C:=Cz c (some (.str (Zf (mS true) tK))) T3) (eB.ex) (ae (dR rfl) (ae (dW (pv 1)) (ae (iN (pv 2)) (ae cI (ae (ch1 kT) (ae cI (aD kT)))))))) (aD kT)))))
  (ck (rA (Zl (ai aG (pv 0) af) af) (i5 (i6 (iO (C:=Cz c (some (.str (Zf (mS true) tK))) (C3 [eA.ex,eB.ex])) (as:=[eA.ex,eB.ex]) (bs:=[eC.ex,.step p9 true tK 2 [(0,9)] 1]) (lP (pv 3)) (gi (C:=Cz c (some (.str (Zf (mS true) tK))) (C3 [eA.ex,eB.ex])) [eC.ex,.step p9 true tK 2 [(0,9)] 1] (ae (b7 (C:=Cz c (some (.str (Zf (mS true) tK))) (C3 [eA.ex,eB.ex])) (eC.ex) (ae (dR rfl) (ae (dW (pv 1)) (ae (iN (pv 2)) (ae cI (ae (ch1 Zm) (aD Zm))))))) (ae (b7 (C:=Cz c (some (.str (Zf (mS true) tK))) (C3 [eA.ex,eB.ex])) (.step p9 true tK 2 [(0,9)] 1) (ae (dR rfl) (ae (dW (pv 1)) (ae (iN (pv 2)) (ae cI (ae (ch1 Zm) (ae cI (aD Zm)))))))) (aD Zm)))) Zm))))
  (ck (rA (Zl (ai aG (pv 0) af) af) (i5 (i6 (iO (C:=Cz c (some (.str (Zf (mS true) tK))) (C3 [eA.ex,eB.ex])) (as:=[eA.ex,eB.ex]) (bs:=[.step p9 true tL 2 [(0,13)] 1]) (lP (pv 3)) (gi (C:=Cz c (some (.str (Zf (mS true) tK))) (C3 [eA.ex,eB.ex])) [.step p9 true tL 2 [(0,13)] 1] (ae (b7 (C:=Cz c (some (.str (Zf (mS true) tK))) (C3 [eA.ex,eB.ex])) (.step p9 true tL 2 [(0,13)] 1) (ae (dR rfl) (ae (dW (pv 1)) (ae (dR θ) (ae cI (ae (ch1 Zm) (ae cI (aD Zm)))))))) (aD Zm))) Zm))))
  (ck (rA (Zl (ai aG (pv 0) af) af) (i5 (i6 (iO (C:=Cz c (some (.str (Zf (mS true) tK))) (C3 [eA.ex,eB.ex])) (as:=[eA.ex,eB.ex]) (bs:=[.undo p9 true tK 0 (tq c)]) (lP (pv 3)) (gi (C:=Cz c (some (.str (Zf (mS true) tK))) (C3 [eA.ex,eB.ex])) [.undo p9 true tK 0 (tq c)] (ae (b7 (C:=Cz c (some (.str (Zf (mS true) tK))) (C3 [eA.ex,eB.ex])) (.undo p9 true tK 0 (tq c)) (ae (dR rfl) (ae (dW (pv 1)) (ae (iN (pv 2)) (ae cI (ae (EG (K:=K) EH (ai aG (ai cw (pv 0) af) af) (λ_ _=>rfl) rfl) (aD Zm))))))) (aD Zm))) Zm))))
  (i5 (i6 (iO (C:=Cz c (some (.str (Zf (mS true) tK))) (C3 [eA.ex,eB.ex])) (as:=[eA.ex,eB.ex]) (bs:=[.pact p9 false [(.plus,[3])] [3]]) (lP (pv 3)) (gi (C:=Cz c (some (.str (Zf (mS true) tK))) (C3 [eA.ex,eB.ex])) [.pact p9 false [(.plus,[3])] [3]] (ae (b7 (C:=Cz c (some (.str (Zf (mS true) tK))) (C3 [eA.ex,eB.ex])) (.pact p9 false [(.plus,[3])] [3]) (ae (dR rfl) (ae (dW (pv 1)) (ae (dR θ) (ae (zD [3] (ae cI (aD Zm))) (aD Zm)))))) (aD Zm))) Zm))))))))),?_⟩
 refine ⟨ϰ,λy H1 D o=>⟨ϰ,λW X l G=>?_⟩⟩
 cases G
 refine ⟨⟨_,_,ϱ,jL _ _ _ _ l o,ϰ⟩,λI J t L=>?_⟩
 have d:=D.trans (l.trans t)
 have j:Cz c (some (.str (Zf (mS true) tK))) (C3 [eA.ex,eB.ex]) [some (.int c),some y,some (.str (Zf (mS true) tK)),some I] J:=⟨_,_,ϱ,jL _ _ _ _ (l.trans t) o,_,ϱ,L⟩
 refine ⟨_,ϱ,_,_,ϱ,ϱ,Qa 3,ϱ,_,ϱ,aP (λz=>?_) (λz=>?_)⟩
 .exact ⟨j,λv e g r=>q [eA,eB,eC] _ v e k0 ζ r (d.trans g)⟩
 refine ⟨_,ϱ,_,_,ϱ,ϱ,Qa 3,ϱ,_,ϱ,aP (λz=>?_) (λz=>?_)⟩
 .exact ⟨j,λv e g r=>q [eA,eB] _ v e k1 ζ r (d.trans g)⟩
 refine ⟨_,ϱ,_,_,ϱ,ϱ,Qa 3,ϱ,_,ϱ,aP (λz=>?_) (λz=>?_)⟩
 .exact ⟨j,λv e g r=>q [eA,eB] _ v e (k2 (EM c)) ζ r (d.trans g)⟩
 .exact ⟨j,λv e g r=>q [eA,eB] _ v e k3 ζ r (d.trans g)⟩
def AQ(F:Fun K "_law_more" "_law_more" ij f fd)(GK:GF P w K mg base Za 1 "_law_known" MN xL):NH P w K mg base Za 2 f fd MN xL:=by
 refine F.oj sc__law_more λL A y s H vs Q E O h=>?_
 obtain ⟨c,rfl,c0,q⟩:=h
 have nd:=sc__law_more.nd
 have J:("walked plus 5; give 0 0; plus 1; add 0 0 2; give 0 0":Str)=Zf (mS true) tG:=by decide +kernel
 refine ⟨_,PSw.ps (ck (oo (i:=1) nd rfl (Or.inl rfl) (oW (C:=λ_ _=>True) (9,9) (ae cI (ae cI (aD (C:=λ_ _=>True) λ_ _ _ _ _=>ϰ)))))
  (ck (rA (aJ pQ (ai aG (pv 0) af) af (aF _)) ⟨Ze (pc GK O (Zd (ai cw (pv 0) af)))⟩)
  (ck (rA (Zl (ai aG (pv 0) af) af) (i5 (i6 (gi (C:=Cz c none T3) [.pact p9 false [(.plus,[3]),(.need,[4])] [3,3]] (ae (b7 (C:=Cz c none T3) (.pact p9 false [(.plus,[3]),(.need,[4])] [3,3]) (ae (dR rfl) (ae (dW (pv 1)) (ae (dR θ) (ae (zD [3,3] (two kT)) (aD kT)))))) (aD kT))))))
  (ck (rA (Zl (ai aG (pv 0) af) af) (i5 (i6 (gi (C:=Cz c none T3) [.step p9 true [(.plus,[-2]),(.need,[-1]),(.give,[0,0])] 2 [(0,-2)] (-2)] (ae (b7 (C:=Cz c none T3) (.step p9 true [(.plus,[-2]),(.need,[-1]),(.give,[0,0])] 2 [(0,-2)] (-2)) (ae (dR rfl) (ae (dW (pv 1)) (ae (dR θ) (ae cI (ae (qp [(0,-2)] (ae (oW (0,-2) (ae cI (ae EF (aD kT)))) (aD kT))) (ae EF (aD kT)))))))) (aD kT))))))
  (ck (rA (Zl (ai aG (pv 0) af) af) (i5 (i6 (gi (C:=Cz c none T3) [.undo p9 true [(.take,[0,0]),(.add,[0,0,1])] 0 []] (ae (b7 (C:=Cz c none T3) (.undo p9 true [(.take,[0,0]),(.add,[0,0,1])] 0 []) (ae (dR rfl) (ae (dW (pv 1)) (ae (dR θ) (ae cI (ae (qp [] (aD kT)) (aD kT))))))) (aD kT))))))
  (ck (oo (i:=2) nd rfl (Or.inl rfl) (dR (C:=λ_ _=>True) J))
  (ck (oo (i:=3) nd rfl (Or.inl rfl) (gi (C:=Cz c (some (.str (Zf (mS true) tG))) T3) [g1.ex] (ae (b7 (C:=Cz c (some (.str (Zf (mS true) tG))) T3) (g1.ex) (ae (dR rfl) (ae (dW (pv 1)) (ae (iN (pv 2)) (ae cI (ae (ch1 kT) (ae cI (aD kT)))))))) (aD kT))))
  (ck (rA (Zl (ai aG (pv 0) af) af) (i5 (i6 (iO (C:=Cz c (some (.str (Zf (mS true) tG))) (C3 [g1.ex])) (as:=[g1.ex]) (bs:=[.undo p9 true tG 1 []]) (lP (pv 3)) (gi (C:=Cz c (some (.str (Zf (mS true) tG))) (C3 [g1.ex])) [.undo p9 true tG 1 []] (ae (b7 (C:=Cz c (some (.str (Zf (mS true) tG))) (C3 [g1.ex])) (.undo p9 true tG 1 []) (ae (dR rfl) (ae (dW (pv 1)) (ae (iN (pv 2)) (ae cI (ae (qp [] (aD Zm)) (aD Zm))))))) (aD Zm))) Zm))))
  (ck (rA (Zl (ai aG (pv 0) af) af) (i5 (i6 (iO (C:=Cz c (some (.str (Zf (mS true) tG))) (C3 [g1.ex])) (as:=[g1.ex]) (bs:=[g2.ex,.undo p9 true tG 3 [(0,5)]]) (lP (pv 3)) (gi (C:=Cz c (some (.str (Zf (mS true) tG))) (C3 [g1.ex])) [g2.ex,.undo p9 true tG 3 [(0,5)]] (ae (b7 (C:=Cz c (some (.str (Zf (mS true) tG))) (C3 [g1.ex])) (g2.ex) (ae (dR rfl) (ae (dW (pv 1)) (ae (iN (pv 2)) (ae cI (ae (ch1 Zm) (ae cI (aD Zm)))))))) (ae (b7 (C:=Cz c (some (.str (Zf (mS true) tG))) (C3 [g1.ex])) (.undo p9 true tG 3 [(0,5)]) (ae (dR rfl) (ae (dW (pv 1)) (ae (iN (pv 2)) (ae cI (ae (ch1 Zm) (aD Zm))))))) (aD Zm)))) Zm))))
  (ck (oo (i:=3) nd rfl (Or.inl rfl) (iO (C:=Cz c (some (.str (Zf (mS true) tG))) (C3 [g1.ex])) (as:=[g1.ex]) (bs:=[g2.ex,g3'.ex]) (lP (pv 3)) (gi (C:=Cz c (some (.str (Zf (mS true) tG))) (C3 [g1.ex])) [g2.ex,g3'.ex] (ae (b7 (C:=Cz c (some (.str (Zf (mS true) tG))) (C3 [g1.ex])) (g2.ex) (ae (dR rfl) (ae (dW (pv 1)) (ae (iN (pv 2)) (ae cI (ae (ch1 Zm) (ae cI (aD Zm)))))))) (ae (b7 (C:=Cz c (some (.str (Zf (mS true) tG))) (C3 [g1.ex])) (g3'.ex) (ae (dR rfl) (ae (dW (pv 1)) (ae (iN (pv 2)) (ae cI (ae (ch1 Zm) (ae cI (aD Zm)))))))) (aD Zm)))) Zm))
  (i5 (i6 (iO (C:=Cz c (some (.str (Zf (mS true) tG))) (C3 [g1.ex,g2.ex,g3'.ex])) (as:=[g1.ex,g2.ex,g3'.ex]) (bs:=[.step p9 true tG 4 [(0,6)] 6]) (lP (pv 3)) (gi (C:=Cz c (some (.str (Zf (mS true) tG))) (C3 [g1.ex,g2.ex,g3'.ex])) [.step p9 true tG 4 [(0,6)] 6] (ae (b7 (C:=Cz c (some (.str (Zf (mS true) tG))) (C3 [g1.ex,g2.ex,g3'.ex])) (.step p9 true tG 4 [(0,6)] 6) (ae (dR rfl) (ae (dW (pv 1)) (ae (iN (pv 2)) (ae cI (ae (ch1 Zm) (ae cI (aD Zm)))))))) (aD Zm))) Zm))))))))))))),?_⟩
 refine ⟨ϰ,λG H1 k o=>?_⟩
 refine ⟨_,ϱ,_,_,ϱ,ϱ,Qa 11,_,_,ϱ,ϱ,_,ϱ,aP (λz=>?_) (λz=>?_)⟩
 .exact ⟨_,ϱ,_,_,ϱ,ϱ,⟨ζ,ζ⟩,_,ϱ,ω,λas e v d m l r g=>q as e v d m l r (k.trans g)⟩
 have u:Cz c none T3 [some (.int c),some G,none,none] H1:=⟨_,_,ϱ,o,ϰ⟩
 refine ⟨_,ϱ,_,_,ϱ,ϱ,Qa 5,ϱ,_,ϱ,aP (λz=>?_) (λz=>?_)⟩
 .exact ⟨u,λv d g r=>q [] _ v d m0 ζ r (k.trans g)⟩
 refine ⟨_,ϱ,_,_,ϱ,ϱ,Qa 5,ϱ,_,ϱ,aP (λz=>?_) (λz=>?_)⟩
 .exact ⟨u,λv d g r=>q [] _ v d m1 ζ r (k.trans g)⟩
 refine ⟨_,ϱ,_,_,ϱ,ϱ,Qa 5,ϱ,_,ϱ,aP (λz=>?_) (λz=>?_)⟩
 .exact ⟨u,λv d g r=>q [] _ v d m2 ζ r (k.trans g)⟩
 refine ⟨ϰ,λv2 H2 t U=>?_⟩
 cases U
 refine ⟨⟨_,_,ϱ,jL _ _ _ _ t o,ϰ⟩,λW X D Y=>?_⟩
 have j:=k.trans (t.trans D)
 have x:Cz c (some (.str (Zf (mS true) tG))) (C3 [g1.ex]) [some (.int c),some G,some (.str (Zf (mS true) tG)),some W] X:=⟨_,_,ϱ,jL _ _ _ _ (t.trans D) o,_,ϱ,Y⟩
 refine ⟨_,ϱ,_,_,ϱ,ϱ,Qa 5,ϱ,_,ϱ,aP (λz=>?_) (λz=>?_)⟩
 .exact ⟨x,λv d g r=>q [g1] _ v d m3 ζ r (j.trans g)⟩
 refine ⟨_,ϱ,_,_,ϱ,ϱ,Qa 5,ϱ,_,ϱ,aP (λz=>?_) (λz=>?_)⟩
 .exact ⟨x,λv d g r=>q [g1,g2] _ v d m4 ζ r (j.trans g)⟩
 refine ⟨x,λv4 H4 I Z=>⟨⟨_,_,ϱ,jL _ _ _ _ (t.trans (D.trans I)) o,_,ϱ,Z⟩,λv d g r=>q [g1,g2,g3'] _ v d m5 ζ r (j.trans (I.trans g))⟩⟩
variable {P1 P2:ø}
theorem pN{b:î En}{Y:î (ć)}:∀{a pre:î En} {X:î (ć)},Run pre (a++b) X Y->∃Z,Run pre a X Z/\Run (pre++a) b Z Y
 | [],pre,X,h=>⟨X,rfl,by rw [ų];exact h⟩
 | e::r,pre,X,⟨W,h1,h2⟩=>by
  obtain ⟨Z,z1,z2⟩:=pN (a:=r) h2
  exact ⟨Z,⟨W,h1,z1⟩,by rw [ő] at z2;exact z2⟩
theorem sw{b:î En}{Y Z:î (ć)}:∀{a pre:î En} {X:î (ć)},Run pre a X Z->Run (pre++a) b Z Y->Run pre (a++b) X Y
 | [],pre,X,h,g=>by
  have h:X=Z:=h
  subst h
  rw [ų] at g
  exact g
 | e::r,pre,X,⟨W,h1,h2⟩,g=>⟨W,h1,sw h2 (by rw [ő];exact g)⟩
def vC{p:Pa}{pre q:î En}(h:∀o∈pre,o.nm≠p):Zi p (pre++q)=Zi p q:=by
 unfold Zi
 rw [List.filter_append,List.filter_eq_nil_iff.mpr (λo m z=>h o m (Ξ z)),List.nil_append]
theorem su{pre:î En}{Y:î (ć)}:∀{as q:î En} {X:î (ć)},Run q as X Y->(∀o∈pre,∀a∈as,o.nm≠a.nm)->Run (pre++q) as X Y
 | [],_,_,h,_=>h
 | e::r,q,X,⟨W,h1,h2⟩,n=>⟨W,by rw [vC λo m=>n o m e Ω];exact h1,by rw [ő];exact su h2 λo m a ma=>n o m a (Θ _ ma)⟩
def NW.en{H:Hp}{e:En}{u:V}(h:NW H e.ex u):NV H e u:=by
 obtain ⟨t,d,vs,rfl,h1,f,g⟩:=h
 cases e<;>exact ⟨t,d,vs,ϱ,h1,f,g⟩
def ens{H:Hp}{as:î En}{e:Ex}:∀{us:î V},Paired (NW H) (as.map En.ex++[e]) us->∃vs u,us=vs++[u]/\Paired (NV H) as vs/\NW H e u:=by
 induction as with
 | nil =>
  intro us h
  cases h with
  | cons h t =>
   cases t
   exact ⟨[],_,ϱ,.nil,h⟩
 | cons a r ih =>
  intro us h
  cases h with
  | cons h t =>
   obtain ⟨vs,u,d,p,x⟩:=ih t
   rw [d]
   exact ⟨_::vs,u,ϱ,.cons h.en p,x⟩
def vp{α β:Type}{R:α->β->Prop}{xs:î α}{ys:î β}(h:Paired R xs ys)(n:Nat):Paired R (xs.take n) (ys.take n):=by
 induction h generalizing n with
 | nil=>rw [List.take_nil,List.take_nil];exact .nil
 | cons a t ih =>
  cases n with
  | zero=>exact .nil
  | succ n=>exact .cons a (ih n)
def jM{X:Cx}:OpR X (binaryOp .Add) (λx y H Q=>∃l b xs zs,x=.ref l/\y=.ref b/\H l=some (.lst xs)/\H b=some (.lst zs)/\xs.length+zs.length<=sizeLine/\∀p H',NI H H'->H' p=some (.lst (xs++zs))->Q (.ref p) H'):=λpins s σ H x y v u Q I rx ry ⟨l,b,xs,zs,e1,e2,h1,h2,hz,q⟩=>uv pins s σ H x y v u Q I rx ry ⟨l,b,xs,zs,e1,e2,h1,h2,hz,λp hp=>q p _ (aa hp) Ny⟩
def fY{X:Cx}:SlR X (λx lo hi H Q=>∃a xs,x=.ref a/\NO X.K H a xs/\∀p H',NI H H'->H' p=some (.lst (bn xs lo hi))->Q (.ref p) H'):=λpins s σ H x v vl vu lo hi sl Q I rx hs pl pu ⟨a,xs,e,hx,q⟩=>dY pins s σ H x v vl vu lo hi sl Q I rx hs pl pu ⟨a,xs,e,hx,λp hp=>q p _ (aa hp) Ny⟩
inductive xQ (vs:î V) (H:Hp) (Q:VK) (E:XK):Prop|mk el eu es X0 X i c:vs=[.ref el,.int ((i:Nat):Int),.int c]->H el=some (.lst eu)->Paired (NV H) es eu->es.length<=36->((∀e∈es,e.nm.1<9))->Run [] es X0 X->pd (aB X0)->i<es.length->(0:Int)<=c->(∀t l us u r es' Y e H',H' t=some (.tup [.ref l,.int ((es'.length:Nat):Int)])->H' l=some (.lst (us++u::r))->Paired (NV H') es' us->Run [] es' X0 Y->NW H' e u->Bad Y (Zi e.nm es') e->(us++u::r).length<=80->(∀v∈r,∃a,v=V.ref a)->NI H H'->Q (.ref t) H')->xQ vs H Q E
def C5(F:Fun K "_law_bad" "_law_bad" jm f fd)(B:TxB mg)(GM:GF P w K mg base Za 2 "_law_more" MN xL)(GS:GF P w K mg base Za 2 "_law_spoiled" Nd xI):NH P w K mg base Za 3 f fd MI xQ:=by
 refine F.oj sc__law_bad λcZ A bi s H vs Q E hr h=>?_
 obtain ⟨U,d,g,X0,X,i,c,rfl,l,C,le,aS,aZ,W,hi,c0,q⟩:=h
 have nd:=sc__law_bad.nd
 refine ⟨_,ac (aC (Zl (ai aG (pv 2) af) af)
   (ac (sN 3 nd (pc GM hr (Zd (ai cw (pv 2) af))))
   (Ze (aA (Zb (ai jM (ai jM (aL fY (pv 0) ba (aN (pv 1))) (pv 3)) (aL fY (pv 0) (aN (pv 1)) ba)) (ai iz (ai aU (pv 1) (aq az rfl B.len Ź (Zd (pv 3)))) af))))) ao)
  (ac (aC (Zl (ai aG (pv 2) af) af)
   (Ze (aA (Zb (ai jM (aL fY (pv 0) ba (aN (ai aU (pv 1) af))) (aL fY (pv 0) (aN (pv 1)) ba)) (ai aU (pv 1) af)))) ao)
  (Ze (aA (Zb (ai jM (ai jM (aL fY (pv 0) ba (aN (pv 1))) (bF (Zd (pc GS hr (Zb (bc K (pv 0) (pv 1)) (ai cw (pv 2) af)))))) (aL fY (pv 0) (aN (ai aU (pv 1) af)) ba)) (pv 1))))),?_⟩
 have hz:(1000:Nat)<=sizeLine:=by decide
 have pl:g.length=d.length:=C.len
 have lt:(g.take i).length=i:=by rw [ŷ];lia
 have lu:(d.take i).length=i:=by rw [ŷ];lia
 have ld:(d.drop i).length<=36:=by rw [Ś];lia
 have c1:bn d none (some (i:Int))=d.take i:=dq _ i ω
 have c2:bn d (some (i:Int)) none=d.drop i:=iP _ i ω
 have c3:bn d none (some ((i:Int)+1))=d.take (i+1):=dq _ (i+1) ω
 have c4:bn d (some ((i:Int)+1)) none=d.drop (i+1):=iP _ (i+1) ω
 obtain ⟨u,hu⟩:∃u,d[i]?=some u:=⟨_,ξ ω⟩
 obtain ⟨a,ea,a7⟩:=C.get hu
 have ed:g.drop i=a::g.drop (i+1):=by
  rw [œ hi]
  rw [ξ hi] at ea
  rw [Δ ea]
 have b4:d.drop i=u::d.drop (i+1):=by
  rw [œ ω]
  rw [ξ ω] at hu
  rw [Δ hu]
 have et:g.take (i+1)=g.take i++[a]:=by rw [Ų,ea];rfl
 obtain ⟨Z,rz,rb⟩:=pN (a:=g.take i) (b:=g.drop i) (by rw [List.take_append_drop];exact aZ)
 rw [ed] at rb
 obtain ⟨Z',ft,_⟩:=rb
 rw [List.nil_append] at ft
 have ok:∀o∈Zi a.nm (g.take i),OkE o:=λo ho=>uj rz o (List.mem_filter.mp ho).1
 have ab:aB Z=aB X0:=rz.sz
 have lZ:Z.length=X0.length:=by
  have:=congrArg List.length ab
  unfold aB at this
  rw [ν,ν] at this
  exact this
 have lX:X0.length=(aB X0).length:=by unfold aB;rw [List.length_map]
 have cx:=W.2.1
 have pt:=vp C i
 have rf:∀v∈d,∃a,v=V.ref a:=λv m=>by
  obtain ⟨j,ej⟩:=ť m
  obtain ⟨_,_,t,_,_,e,_⟩:=C.get ej
  exact ⟨t,e⟩
 refine ⟨_,ϱ,_,_,ϱ,ϱ,Qa 3,ϱ,_,ϱ,aP (λz=>?_) (λz1=>?_)⟩
 .refine ⟨_,ϱ,_,_,ϱ,ϱ,⟨ζ,ζ⟩,_,ϱ,ω,λas e v H1 mo l3 ls s1=>?_⟩
  obtain ⟨ml,cd,rfl,g1,p1⟩:=ls
  obtain ⟨J,G,rfl,pm,b1⟩:=ens p1
  have lm:as.length=J.length:=pm.len
  have ad:(J++[G]).length=J.length+1:=by rw [Ž];rfl
  refine ⟨_,ϱ,_,ϱ,_,ϱ,U,_,ϱ,Nz (s1 _ _ l),λp2 H2 D g2=>?_⟩
  rw [c1] at g2
  refine ⟨_,ϱ,p2,ml,_,_,ϱ,ϱ,g2,D _ _ g1,ω,λp3 H3 s3 g3=>?_⟩
  refine ⟨_,ϱ,_,ϱ,_,ϱ,U,_,ϱ,Nz (s3 _ _ (D _ _ (s1 _ _ l))),λp4 H4 I g4=>?_⟩
  rw [c2] at g4
  have lc:(d.take i++(J++[G])).length=i+J.length+1:=by rw [Ž,lu,ad];lia
  refine ⟨p3,p4,_,_,ϱ,ϱ,I _ _ g3,g4,ω,λO H5 s5 g5=>?_⟩
  have ah:=D.trans (s3.trans (I.trans s5))
  refine ⟨_,ϱ,_,ϱ,ml,_,ϱ,.inl (Nz (ah _ _ g1)),_,_,ϱ,ϱ,_,_,ϱ,ϱ,χ,λt nt=>?_⟩
  have e9:(g.take i++as).length=i+as.length:=by rw [Ž,lt]
  have en:(i:Int)+(((J++[G]).length:Nat):Int)-1=(((g.take i++as).length:Nat):Int):=by rw [ad,e9];lia
  have L:=aa (o:=.tup [.ref O,.int ((i:Int)+(((J++[G]).length:Nat):Int)-1)]) nt
  have k:=ah.trans L
  obtain ⟨x,r,R,rfl⟩:∃x r R,Z=(x::r)::R:=by
   have l1:=W.1
   cases Z with
   | nil=>rw [lX] at lZ;rw [← lZ] at l1;exact absurd l1 ζ
   | cons y R =>
    cases y with
    | nil =>
     have m:(0:Int)∈aB X0:=by rw [← ab];exact Ω
     exact absurd (W.2.2 0 m).1 ζ
    | cons x r=>exact ⟨x,r,R,rfl⟩
  obtain ⟨n1,b2,mr⟩:=mo
  obtain ⟨Y,ry,bad⟩:=mr x r R
  have nn:∀p:Pa,p.1=9->∀o∈g.take i,o.nm≠p:=λp e9 o m z=>by
   have:=aS o (ň m)
   rw [z,e9] at this
   exact absurd this ζ
  have rj:Run [] (g.take i++as) X0 Y:=sw rz (by
   have:=su (pre:=g.take i) ry λo m b mb=>nn _ (n1 b mb) o m
   rw [ų] at this
   exact this)
  refine q t O (d.take i++J) G (d.drop i) (g.take i++as) Y e _ (Ny.trans (congrArg (λz=>some (HO.tup [.ref O,.int z])) en)) ?_ ?_ rj (b1.keep k.ts) (by rw [vC (nn _ b2)];exact bad) ?_ (λv m=>rf v (Ŀ m)) (s1.trans k)
  .rw [L _ _ g5]
   simp only [List.append_assoc,List.cons_append,List.nil_append]
  .exact (NB pt λ_ _ z=>z.keep (s1.trans k).ts).app (NB pm λ_ _ z=>z.keep k.ts)
  .rw [Ž,Ž,Ŷ]
   lia
 refine ⟨_,ϱ,_,_,ϱ,ϱ,Qa 3,ϱ,_,ϱ,aP (λz=>?_) (λz2=>?_)⟩
 .refine ⟨_,ϱ,_,ϱ,_,_,ϱ,ϱ,_,ϱ,U,_,ϱ,Nz l,λp2 H2 D g2=>?_⟩
  rw [c3] at g2
  have cF:(d.take (i+1)).length=i+1:=by rw [ŷ];lia
  refine ⟨_,ϱ,_,ϱ,_,ϱ,U,_,ϱ,Nz (D _ _ l),λp4 H4 I g4=>?_⟩
  rw [c2] at g4
  refine ⟨p2,p4,_,_,ϱ,ϱ,I _ _ g2,g4,ω,λO H5 s5 g5=>?_⟩
  refine ⟨_,ϱ,_,_,ϱ,ϱ,χ,λt nt=>?_⟩
  have L:=aa (o:=.tup [.ref O,.int ((i:Int)+1)]) nt
  have k:=D.trans (I.trans (s5.trans L))
  have l1:(g.take (i+1)).length=i+1:=by rw [ŷ];lia
  refine q t O (d.take (i+1)) u (d.drop (i+1)) (g.take (i+1)) Z' a.ex _ (by rw [Ny,l1];rfl) ?_ ?_ ?_ (a7.ex.keep k.ts) ?_ ?_ (λv m=>rf v (Ŀ m)) k
  .rw [← b4]
   exact L _ _ g5
  .exact NB (vp C (i+1)) λ_ _ z=>z.keep k.ts
  .rw [et]
   exact rz.app ft
  .rw [En.ex_nm,et,jP,ů rfl]
   exact qD ft ok (xj rz (λp=>List.Pairwise.nil) a.nm)
  .rw [Ž,Ŷ,Ś]
   lia
 refine ⟨_,ϱ,_,ϱ,_,ϱ,U,_,ϱ,Nz l,λp2 H2 D g2=>?_⟩
 rw [c1] at g2
 have pr:=gK ft
 refine ⟨_,ϱ,_,ϱ,U,_,_,_,ϱ,ϱ,Nz (D _ _ l),ay hu,_,ϱ,_,_,ϱ,ϱ,⟨ζ,ζ⟩,a,u,_,ϱ,a7.keep D.ts,pr.1,pr.2.1,pr.2.2,(λp xs hs e=>by subst e;rw [ft.2.2.2.1];exact mH _ _ _),ω,λe' G H3 sp ex s3=>⟨χ,λp3 n3=>?_⟩⟩
 have I:=aa (o:=.lst [G]) n3
 refine ⟨p2,p3,_,_,ϱ,ϱ,I _ _ (s3 _ _ g2),Ny,by rw [lu];show i+1<=_;lia,λp4 H5 s5 g4=>?_⟩
 refine ⟨_,ϱ,_,ϱ,_,_,ϱ,ϱ,_,ϱ,U,_,ϱ,Nz (s5 _ _ (I _ _ (s3 _ _ (D _ _ l)))),λO H6 L g5=>?_⟩
 rw [c4] at g5
 have cM:(d.drop (i+1)).length<=36:=by rw [Ś];lia
 have l9:(d.take i++[G]).length=i+1:=by rw [Ž,lu];rfl
 refine ⟨p4,O,_,_,ϱ,ϱ,L _ _ g4,g5,ω,λp6 H7 s7 g7=>?_⟩
 refine ⟨_,ϱ,χ,λt nt=>?_⟩
 have s8:=aa (o:=.tup [.ref p6,.int (i:Int)]) nt
 have ak:=I.trans (s5.trans (L.trans (s7.trans s8)))
 have al:=D.trans (s3.trans ak)
 refine q t p6 (d.take i) G (d.drop (i+1)) (g.take i) Z e' _ (by rw [Ny,lt]) ?_ ?_ rz (ex.keep ak.ts) ?_ ?_ (λv m=>rf v (Ŀ m)) al
 .rw [s8 _ _ g7,ő]
  rfl
 .exact NB pt λ_ _ z=>z.keep al.ts
 .rw [sp.nm]
  exact sp.bad ft ok ω
 .rw [Ž,Ŷ]
  lia
end
end K82
namespace L2
open PySem PySem.Spec PyProof.Rows PySem.W Lo
def uH{P:ù}{w:ö}{K:ò}{mg mb:ď}{CX:CXT}{k:Nat}{fa a cc cd l y:ø}{fd:õ}{x:Str}{sp:Sp}{f:ú}{vs:Ċ}{ns:ć}
  (KX:K.In f.heap)(av:f.heap.Ns mainGlobals mg)(j:f.heap.Ns builtinsNs mb)(ax:∀x:Str,x≠"__name__"->mb x=bootBuiltins x)(a2:f.heap.NoLimit)(hg:f.gens=#[])
  (Q:f.heap.get? a=some {cls:=.type "list",data:=.seq vs.toArray})(hi:IntsAre vs ns)(hl:ns.length<=sizeLine)(hr:NU k callerA)
  (hC:codeHdIn K cc l=true)(aM:codeHdIn K cd y=true)(hT1:f.heap.get? l=some (tabObj #[]))(hT2:f.heap.get? y=some (tabObj #[]))(hK:noTabs K=true)(hB:BB mg f.heap)
  (F:∀base:ñ,K.In base->BB mg base->NH P w K mg base CX k fa fd [x] sp)(U:∀(s:ú) (u:ó),BindsTo s fd ⟨[u],[]⟩ [(x,u)])
  (aS:∀H:Hp,NO K H a (ns.map V.int)->H l=some (.tbl #[])->H y=some (.tbl #[])->sp [.ref a] H (λv _=>v=.bl true) λ_ _ _=>False)
  (aZ:∀H e s',CX [] H f (λ_ _ _=>False) e s'->False) :
  codeAny (model P w) callerA (.call (.ref fa) ⟨[.ref a],[]⟩) (λr s'=>r=.ok (.ret (.bool true))/\OldK f.heap s'.heap/\s'.os=f.os/\AllBare s'.gens) f:=by
 have rv:=pH hi
 have X:=hi.length
 have L:∀{b:ø},b=l\/b=y->f.heap.get? b=some (tabObj #[]):=λ{b} z=>by
  rcases z with z | z
  .rw [z];exact hT1
  .rw [z];exact hT2
 have G:¬(a=l\/a=y):=λz=>by
  rw [L z] at Q
  cases Q
 have kP:∀{b:ø},b=l\/b=y->K.lookup b=none:=λ{b} z=>by
  cases q:K.lookup b with
  | none=>rfl
  | some o =>
   have h2:=List.all_eq_true.mp hK (b,o) (mem_of_lookupK q)
   have e:=KX _ _ q
   rw [L z] at e
   cases e
   exact absurd (show false=true from h2) ű
 have Y:∀{b:ø},b=l\/b=y->∃cc,f.heap.TableAt cc b #[]:=λ{b} z=>by
  rcases z with z | z
  .rw [z];exact ⟨cc,(codeHd_of_K KX hC).tab hT1⟩
  .rw [z];exact ⟨cd,(codeHd_of_K KX aM).tab hT2⟩
 have J:∀H:Hp,NO K H a (ns.map V.int)->(∀b,b=l\/b=y->H b=some (.tbl #[]))->NS P w H f.heap->(∀b,H b≠none->b=a\/(b=l\/b=y))->(H a≠none->K.lookup a=none)->(∀u,H a=some u->∃o xs,u=.frz o (.lst xs)) ->
   codeAny (model P w) callerA (.call (.ref fa) ⟨[.ref a],[]⟩) (λr s'=>r=.ok (.ret (.bool true))/\OldK f.heap s'.heap/\s'.os=f.os/\AllBare s'.gens) f:=by
  intro H hS hP a0 hA al an
  have g:∀{b:ø} {o:Obj},f.heap.get? b=some o->H b=none->(pC f.heap H).get? b=some o:=λe n=>zq e n
  have ab:∀{b:ø} {o:Obj},f.heap.get? b=some o->(o.cls≠.type "list")->o.cls≠.none->H b=none:=λ{b o} e d1 d2=>by
   cases q:H b with
   | none=>rfl
   | some u =>
    rcases hA b (by rw [q];simp) with e' | e'
    .subst e'
     rw [Q] at e
     cases e
     exact absurd rfl d1
    .rw [L e'] at e
     cases e
     exact absurd rfl d2
  have ad:∀{b:ø} {o:Obj} {es:Array DictEntry} {ep:Nat},f.heap.get? b=some o->o.data=.dict es ep->H b=none:=λ{b o es ep} e d=>by
   cases q:H b with
   | none=>rfl
   | some u =>
    rcases hA b (by rw [q];simp) with e' | e'
    .subst e'
     rw [Q] at e
     cases e
     cases (show Data.seq vs.toArray _=Data.dict es ep from d)
    .rw [L e'] at e
     cases e
     cases (show Data.fields #[]=Data.dict es ep from d)
  have O:∀{b:ø} {m:ď},f.heap.Ns b m->(pC f.heap H).Ns b m:=λ{b m} ⟨o,es,ep,e,d,r⟩=>⟨o,es,ep,g e (ad e d),d,r⟩
  have Z:K.In (pC f.heap H):=λb o e=>g (KX b o e) (by
   cases q:H b with
   | none=>rfl
   | some u =>
    rcases hA b (by rw [q];simp) with e' | e'
    .subst e'
     rw [al (by rw [q];simp)] at e
     cases e
    .rw [kP e'] at e
     cases e)
  have hM:Mod K mg (pC f.heap H):=⟨Z,O av,⟨mb,O j,ax⟩,let ⟨mc,h1,h2⟩:=a2;⟨mc,O h1,h2⟩⟩
  have ah:BB mg (pC f.heap H):=by
   obtain ⟨bm,ob,b1,b2,b3,b4,b5,b6⟩:=hB
   exact ⟨bm,ob,b1,b2,g b3 (ab b3 (by rw [b4];decide) (by rw [b4];nofun)),b4,b5,b6⟩
  have e0:Env0 P w K mg (pC f.heap H) callerA [] f H:=⟨ϱ,hM,λb o e=>A6 e,Nat.le_of_eq (wP _ _),trivial,λb j=>absurd (show b∈([]:ĉ) from j) (by simp),a0,.of_eq hg⟩
  refine Ł ((F _ Z ah).run callerA [] f H ⟨[.ref a],[]⟩ [.ref a] [.ref a] _ _ hr e0 (U f (.ref a)) (.cons rfl .nil) (aS H hS (hP _ (.inl rfl)) (hP _ (.inr rfl)))) λr s' h=>?_
  cases r with
  | error e=>exact (aZ H e s' h).elim
  | ok fl =>
   cases fl with
   | next=>exact False.elim h
   | brk=>exact False.elim h
   | cont=>exact False.elim h
   | ret u =>
    obtain ⟨v,H',os,W,un,I,r',q⟩:=h
    have q':v=.bl true:=q
    subst q'
    obtain rfl:u=Value.bool true:=r'
    have C:∀b o,f.heap.get? b=some o->¬(b=l\/b=y)->s'.heap.get? b=some o:=λb o e nP=>by
     cases q:H b with
     | none=>exact un.keep b o e q (by intro z;exact absurd (show b∈([]:ĉ) from z) (by simp)) (by simp)
     | some u =>
      rcases hA b (by rw [q];simp) with e' | e'
      .subst e'
       obtain ⟨ob,xs,rfl⟩:=an u q
       have z2:=un.frzs b ob _ q
       obtain ⟨e1,_⟩:=a0 b _ q
       obtain ⟨e2,_⟩:=I b _ z2
       rw [e] at e1
       cases e1
       exact e2
      .exact absurd e' nP
    have tP:∀{b:ø},b=l\/b=y->∃more,s'.heap.get? b=some {cls:=.none,data:=.fields (#[]++more)}:=λ{b} z=>by
     obtain ⟨more,eP⟩:=un.tbls b #[] (hP b z)
     exact ⟨more,I b _ eP⟩
    refine ⟨ϱ,⟨λb o e=>?_,λb o e=>?_⟩,os,W⟩
    .by_cases z:b=l\/b=y
     .rw [L z] at e
      cases e
      obtain ⟨more,t⟩:=tP z
      obtain ⟨_,tc⟩:=Y z
      exact .inr (.inl ⟨tc.isCodeTable,ϱ,#[],more,ϱ,t⟩)
     .exact .inl (C b o e z)
    .by_cases z:b=l\/b=y
     .obtain ⟨more,t⟩:=tP z
      exact ⟨_,t⟩
     .exact ⟨o,C b o e z⟩
 cases hk:K.lookup a with
 | some o =>
  have e:=KX a o hk
  rw [Q] at e
  cases e
  refine J (λb=>if b=l\/b=y then some (.tbl #[]) else none) (.inr ⟨_,vs.toArray,_,hk,ϱ,ϱ,ϱ,by rw [List.size_toArray,X];exact hl,by simpa using rv⟩) (λb z=>if_pos z) (λb u z=>?_) (λb z=>?_) (λz=>absurd (if_neg G) z) λu z=>?_
  .by_cases j:b=l\/b=y
   .have D:=(ů j).symm.trans z
    cases D
    exact L j
   .have D:=(ŵ j).symm.trans z
    cases D
  .by_cases j:b=l\/b=y
   .exact .inr j
   .exact absurd (ŵ j) z
  .have D:=(ŵ G).symm.trans z
   cases D
 | none =>
  refine J (λb=>if b=l\/b=y then some (.tbl #[]) else if b=a then some (.frz {cls:=.type "list",data:=.seq vs.toArray} (.lst (ns.map V.int))) else none) (.inl (.inr ⟨{cls:=.type "list",data:=.seq vs.toArray},(ŵ G).trans (ů rfl)⟩)) (λb z=>ů z) (λb u z=>?_) (λb z=>?_) (λ_=>hk) λu z=>?_
  .by_cases j:b=l\/b=y
   .have D:=(ů j).symm.trans z
    cases D
    exact L j
   .have z1:=(ŵ j).symm.trans z
    by_cases j:b=a
    .have D:=(ů j).symm.trans z1
     cases D
     subst j
     exact ⟨Q,by rw [ν];exact hl,vs,_,rv,Q⟩
    .have D:=(ŵ j).symm.trans z1
     cases D
  .by_cases j:b=l\/b=y
   .exact .inr j
   .by_cases hb':b=a
    .exact .inl hb'
    .exact absurd ((ŵ j).trans (ŵ hb')) z
  .have z1:=((ŵ G).trans (ů rfl)).symm.trans z
   cases z1
   exact ⟨_,_,ϱ⟩
def we{l:OpenLaw}{n k:Nat}{q:ù}{loose:Ĉ}{XP:(ď)->ñ->Prop}{YP:ö->ñ->Prop}{d:DefRec}{K:Params->ò}{sp:ö->ø->ø->Sp}{x:Str}
  (hn:l.most=some n)(U:n<=sizeLine)(W:d.params.defaults=[])(hr:NU k callerA)(hY:∀(w:ö) (h:ñ),YP w h->(K w.params).In h)
  (F:∀(w:ö) (mg:ď) (D:ø) (h:ñ),YP w h->(K w.params).In h->h.Ns mainGlobals mg->mg d.name=some (.ref D) ->
   ∃(I:õ) (cc cd j r:ø),(∀(s:ú) (u:ó),BindsTo s I ⟨[u],[]⟩ [(x,u)])/\codeHdIn (K w.params) cc j=true/\codeHdIn (K w.params) cd r=true/\j≠r/\h.get? j=some (tabObj #[])/\h.get? r=some (tabObj #[])/\noTabs (K w.params)=true /\
    ∀base:ñ,(K w.params).In base->BB mg base->NH l.prog w (K w.params) mg base Za k D I [x] (sp w j r))
  (X:∀(w:ö) (j r:ø) (H:Hp) (a:ø) (ns:ć),ns.length<=n->NO (K w.params) H a (ns.map V.int)->j≠r->H j=some (.tbl #[])->H r=some (.tbl #[])->sp w j r [.ref a] H (λv _=>v=.bl true) λ_ _ _=>False) :
  WalkO q loose XP YP l.row.toRowW d [] (λf vs=>PySem.call f vs):=by
 refine Att.tJ hn W λw s₀ s₁ mg mb D o pm cd a6 a vs ns G Y ho hd a7 Q C y t hg=>?_
 have Z:=hY w _ Y
 obtain ⟨I,cc,a1,j,r,hb,hC,J,L,O,P,hK,hF⟩:=F w mg D _ Y Z G.T.g Q
 exact uH Z G.T.g G.T.b G.T.builtins G.T.nolimit hg C y (Λ t U) hr hC J O P hK G.T.bmain hF hb (λH hS h1 h2=>X w j r H a ns t hS L h1 h2) λH e s' z=>z
end L2
namespace L2
open PySem PySem.Spec PyProof.Rows
def CH{X:Cx}(n:Nat)(g:X.A.units+n<cLine):OpR X (compareOp .Eq) (λx y H Q=>uT X.K n H x y true/\Q (.bl true) H):=by
 intro d s σ H x y v u Q I e f h
 exact h.1 X.prog X.w X.A s v u g I.hok I.kIn e f X.prog X.w X.xe _ ⟨.bl true,H,I,ϱ,h.2⟩
def CG{X:Cx}(n:Nat)(g:X.A.units+n<cLine):OpR X (compareOp .NotEq) (λx y H Q=>xc X.K n H x y true/\Q (.bl false) H):=by
 intro d s σ H x y v u Q I e f h
 exact h.1 X.prog X.w X.A s v u g I.hok I.kIn e f X.prog X.w X.xe _ ⟨.bl false,H,I,ϱ,h.2⟩
end L2
namespace K82
open PySem L2 Lo St
section
variable {P:ù}{w:ö}{K:ò}{mg:ď}{base:ñ}{f CL CS CP:ø}{fd:õ}{C:Kd->ø}{CW:Wd->ø}
open XA in
def jN{nm:Str}{st:ð}{C:ø}{k l o r:Pos}(F:Fun K "__init__" nm st f fd)(S:ag vT vT (NE st))(t:NF st=[.Assign [.Attribute (.Name "self" k) "at" l] (.Name "at" o) r])(u:NE st=NE fO)(c:lF K C):NH P w K mg base Za 1 f fd vT (qH C):=by
 refine F.oj S λj A d s H vs Q E x h=>?_
 obtain ⟨e,n,rfl,g,q⟩:=h
 rw [t,u]
 refine ⟨_,au (Cp (pv 0) (pv 1) rfl),?_⟩
 exact ⟨_,ϱ,_,ϱ,e,C,n,ϱ,ϱ,g,c,q⟩
variable {P1 P2:ø}
def to0(sp:Sp):Sp:=λvs H Q _=>sp vs H Q λ_ _ _=>False
theorem NH.to0{k:Nat}{ps:Ĉ}{sp:Sp}(F:NH P w K mg base (XA.CXA P w) k f fd ps sp):NH P w K mg base Za k f fd ps (to0 sp) :=
 ⟨λvs H Q E h=>F.len _ _ _ _ h,λA outer s H args us vs Q E hr he hb hv hs=>Ł (F.run A outer s H args us vs Q _ hr he hb hv hs) λr s' h=>by
  cases r with
  | error e =>
   obtain ⟨ea,C,dd,n,tk,H',e1,e2,e3,e4,e5,e6,_,q⟩:=h
   exact q.elim
  | ok fl=>cases fl<;>exact h⟩
def NK.seq{S:ĉ}{d H H':Hp}{a:ø}{xs:î V}(k:NK S H H')(fs:∀b∈S,d b=none)(s:NI d H)(h:NO K d a xs):NO K H' a xs:=by
 have f:∀o,d a=some o->H' a=some o:=λo e=>k _ _ (λm=>by cases fs _ m▸e) (s _ _ e)
 rcases h with (h | ⟨o,h⟩) | h
 .exact .inl (.inl (f _ h))
 .exact .inl (.inr ⟨o,f _ h⟩)
 .exact .inr h
section
variable {H H':Hp}{c1 c2 el bl hl:ø}{rs1 rs2:ĉ}{X0 X Y:î (ć)}{es es':î En}{eu us r:î V}{u:V}{e:Ex}
structure LwJ(P1 P2:ø)(H:Hp)(c1 c2 el:ø)(rs1 rs2:ĉ)(X0 X:î (ć))(es:î En)(eu:î V):Prop where
 r1:Rows H c1 rs1 X0
 r2:Rows H c2 rs2 X
 fe:H el=some (.lst eu)
 pe:Paired (NV H) es eu
 tb:NL P1 P2 H
structure BdJ(P1 P2:ø)(H:Hp)(c1 c2 el bl hl:ø)(rs1 rs2:ĉ)(X0 X:î (ć))(es:î En)(eu us:î V)(u:V)(r:î V)(es':î En)(e:Ex):Prop extends LwJ P1 P2 H c1 c2 el rs1 rs2 X0 X es eu where
 fb:H bl=some (.lst (us++u::r))
 fh:H hl=some (.lst (us++u::r))
 pb:Paired (NV H) es' us
 xb:NW H e u
def rM(tb:NL P1 P2 H)(k:NK [P1,P2] H H'){a:ø}{o:HO}(h:H a=some o)(n:∀z,o≠.tbl z):H' a=some o:=k _ _ (λm=>by
 rcases ϕ.mp m with z | m
 .exact pJ tb.a h n z
 .exact pJ tb.b h n (ϵ.mp m)) h
def LwJ.fr(h:LwJ P1 P2 H c1 c2 el rs1 rs2 X0 X es eu)(k:NK [P1,P2] H H')(tb:NL P1 P2 H'):LwJ P1 P2 H' c1 c2 el rs1 rs2 X0 X es eu:=by
 have f:∀{a:ø} {us:î V},H a=some (.lst us)->H' a=some (.lst us):=λe=>rM h.tb k e λz y=>by cases y
 have ts:a9 H H':=λb xs e=>rM h.tb k e λz y=>by cases y
 have d:∀{c:ø} {rs:ĉ} {X:î (ć)},Rows H c rs X->Rows H' c rs X:=λ{c rs X} r=>⟨f r.l,NB r.r λ_ _ z=>f z,r.nd⟩
 exact ⟨d h.r1,d h.r2,f h.fe,NB h.pe λ_ _ z=>z.keep ts,tb⟩
def BdJ.fr(h:BdJ P1 P2 H c1 c2 el bl hl rs1 rs2 X0 X es eu us u r es' e)(k:NK [P1,P2] H H')(tb:NL P1 P2 H'):BdJ P1 P2 H' c1 c2 el bl hl rs1 rs2 X0 X es eu us u r es' e:=by
 have d:∀{a:ø} {us:î V},H a=some (.lst us)->H' a=some (.lst us):=λe=>rM h.tb k e λz y=>by cases y
 have ts:a9 H H':=λb xs e=>rM h.tb k e λz y=>by cases y
 exact ⟨h.toLwJ.fr k tb,d h.fb,d h.fh,NB h.pb λ_ _ z=>z.keep ts,h.xb.keep ts⟩
def BdJ.same(h:BdJ P1 P2 H c1 c2 el bl hl rs1 rs2 X0 X es eu us u r es' e)(s:NI H H'):BdJ P1 P2 H' c1 c2 el bl hl rs1 rs2 X0 X es eu us u r es' e:=h.fr (ND s) (h.tb.keep s)
def BdJ.pl{g:ø}{Q:VK}{E:XK}{l:ø}(h:BdJ P1 P2 H c1 c2 el bl hl rs1 rs2 X0 X es eu us u r es' e)(d:pd (aB X0))(fl:H l=some (.lst (us++u::r)))(z:Run [] es' X0 Y)(bd:Bad Y (Zi e.nm es') e)(D:(us++u::r).length<=80)(q:∀tk H',BdJ P1 P2 H' c1 c2 el bl hl rs1 rs2 X0 X es eu us u r es' e->E (.int ((es'.length:Nat):Int) tk) (some g) H'):bK P1 P2 g [.ref c1,.ref l] H Q E:=by
 have C:X0.length=(aB X0).length:=by unfold aB;rw [List.length_map]
 have:=d.2.1
 obtain ⟨j,k,o,t,w⟩:=bd
 exact ⟨c1,rs1,X0,Y,l,us,u::r,es',ϱ,h.r1,h.tb,λm x=>Int.le_trans (d.2.2 m x).2 ζ,ω,fl,h.pb,ω,z,.inr ⟨e,u,r,ϱ,h.xb,j,k,o,t,w,λtk H' f y=>q tk H' (h.fr y f)⟩⟩
def BdJ.fnd{CF:ø}{Q:VK}{E:XK}{l:ø}(h:BdJ P1 P2 H c1 c2 el bl hl rs1 rs2 X0 X es eu us u r es' e)(szo:pd (aB X0))(fl:H l=some (.lst (us++u::r)))(ry:Run [] es' X0 Y)(bd:Bad Y (Zi e.nm es') e)(ll:(us++u::r).length<=80)(q:∀H',BdJ P1 P2 H' c1 c2 el bl hl rs1 rs2 X0 X es eu us u r es' e->Q (.int ((es'.length:Nat):Int)) H'):xO P1 P2 CF [.ref c1,.ref l] H Q E:=h.pl szo fl ry bd ll λtk H' h'=>⟨ϱ,_,tk,ϱ,λH'' s=>q H'' (h'.same s)⟩
def BdJ.rfd{CF:ø}{Q:VK}{E:XK}{l:ø}(h:BdJ P1 P2 H c1 c2 el bl hl rs1 rs2 X0 X es eu us u r es' e)(szo:pd (aB X0))(fl:H l=some (.lst (us++u::r)))(ry:Run [] es' X0 Y)(bd:Bad Y (Zi e.nm es') e)(ll:(us++u::r).length<=80)(q:∀H',BdJ P1 P2 H' c1 c2 el bl hl rs1 rs2 X0 X es eu us u r es' e->Q (.bl true) H'):xJ P1 P2 CF [.ref c1,.ref l] H Q E:=h.pl szo fl ry bd ll λtk H' h'=>⟨ϱ,_,tk,ϱ,λH'' s=>q H'' (h'.same s)⟩
end
inductive nJ (K:ò) (P1 P2:ø) (vs:î V) (H:Hp) (Q:VK) (E:XK):Prop|mk a ns:vs=[.ref a]->NO K H a ((ns:ć).map V.int)->ns.length<=63->P1≠P2->H P1=some (.tbl #[])->H P2=some (.tbl #[])->(∀H',Q (.bl true) H')->nJ K P1 P2 vs H Q E
theorem vh{H:Hp}:∀{us:î V},(∀v∈us,∃a,v=V.ref a)->Paired (λx y=>EqIs K 0 H x y true) us us
 | [],_=>.nil
 | v::r,h=>by
  obtain ⟨a,rfl⟩:=h v Ω
  exact .cons (Bg 0) (vh λx m=>h x (Θ _ m))
def CZ{CF:ø}(F:Fun K "law" "law" hW f fd)(B:TxB mg)(bT:GF P w K mg base Za 3 "_law_first" MO (qO K))(GE:GF P w K mg base Za 5 "_law_entries" Nj (xP K))(GP:GF P w K mg base Za 10 "played" MG (to0 (bK P1 P2 CF)))(GA:GF P w K mg base Za 1 "_law_cell" L0 (nN K))(GX:GF P w K mg base Za 1 "_law_mixed" MV mz)
  (GB:GF P w K mg base Za 3 "_law_bad" MI xQ)(GO:GF P w K mg base Za 11 "_law_found" HK (xO P1 P2 CF))(GR:GF P w K mg base Za 11 "_law_refused" HK (xJ P1 P2 CF)):NH P w K mg base Za 12 f fd MO (nJ K P1 P2):=by
 refine F.oj sc_law λcZ A bA s H vs Q E G h=>?_
 obtain ⟨sc,ns,rfl,hS,b0,ne,b1,b2,q⟩:=h
 have nd:=sc_law.nd
 have hz:(1000:Nat)<=sizeLine:=by decide
 refine ⟨_,ac (sN 1 nd (pc bT G (Zd (pv 0))))
  (ac (f7 (iy:=2) xV rfl (cg (pv 1)) (λ_ _ _ _=>bo) (λ_ _ _ _=>bM (r:=Cl K) eh rfl B.list Ħ (Zd (pv 0))) nd rfl (Or.inl rfl))
  (ac (sN 3 nd (pc GE G (Zb (pv 0) (pv 2))))
  (ac (aC (aJ (sH (Ĝ (hun (c:=0) G))) (pv 3) (bF aO) (aF _)) (Ze (bH uu (pc GO G (Zb (pv 1) (pv 3))) gE (aF _))) ao)
  (dy (u:=λD σ H4=>∃I L J g d X0 X y C,σ=[some (.ref sc),some (.ref I),some (.ref L),some (.ref J),none,none,none,none,none]/\LwJ P1 P2 H4 I L J g d X0 X y C/\NO K H4 sc (ns.map V.int)/\y.length<=36/\y≠[]/\(∀e∈y,e.nm.1<9)/\Run [] y X0 X/\pd (aB X0)/\∀H',D.rt (.bl true) H')
  (ac (sN 4 nd (ai aG (pc GX G (Zb (ai aU (pc GA G (Zb (pv 0) af)) (ai dD af (pc GA G (Zb (pv 0) af)))) af)) (aq az rfl B.len Ź (Zd (pv 3)))))
  (ac (bV (pc GB G (aj (pv 3) (Zb (pv 4) (pc GX G (Zb (ai aU (pc GA G (Zb (pv 0) af)) (ai dD af (pc GA G (Zb (pv 0) af)))) af))))) (kQ (n:=2) rfl (aY (gN 5 nd) (aY (gN 6 nd) fy))))
  (ac (sN 7 nd (bM eh rfl B.list Ħ (Zd (pv 5))))
  (dy (u:=λD σ H4=>∃I L J bl hl g d X0 X Y y C U u r x e y4,σ=[some (.ref sc),some (.ref I),some (.ref L),some (.ref J),y4,some (.ref bl),some (.int ((x.length:Nat):Int)),some (.ref hl),none]/\BdJ P1 P2 H4 I L J bl hl g d X0 X y C U u r x e/\y.length<=36/\Run [] y X0 X/\Run [] x X0 Y/\Bad Y (Zi e.nm x) e/\(U++u::r).length<=80/\(∀v∈U++u::r,∃a,v=V.ref a)/\pd (aB X0)/\∀H',D.rt (.bl true) H')
  (ac (sN 8 nd (pc GO G (Zb (pv 1) (pv 7))))
  (ac (aC (PW.pt (cU (eN (bj (aq fH rfl B.isi ũ (Zb (pv 8) (jK (v:=.ty "int") rfl B.int Ġ rfl))))) (cU (bj (aq fH rfl B.isi ũ (Zb (pv 8) (jK (v:=.ty "bool") rfl B.bool PyProof.Rows.boot_bool rfl)))) (cU (aJ f8 (pv 8) (pv 6) (aF _)) (cR (aJ (CG 1 (Ĝ (hun (c:=1) G))) (pv 7) (pv 5) (aF _))))))) aQ ao)
  (ac (aC (PW.pt (cU (eN (bj (pc GR G (Zb (pv 1) (pv 5))))) (cR (aJ vy (pc GO G (Zb (pv 1) (aL dY (pv 5) ba (aN (pv 6))))) gE (aF _))))) aQ ao)
  (Ze (kS (bH lK (pc GO G (Zb (pv 1) (pv 5))) (pv 6) (aF _)) (iu (bH (CH 2 (Ĝ (hun (c:=2) G))) (pc GP G (Zb (pv 1) (pv 3))) (pv 2) (aF _)))))))) ?s2)))) ?s1)))),?_⟩
 .rintro D σ H4 ⟨I,L,J,bl,hl,g,d,X0,X,Y,y,C,U,u,r,x,e,y4,rfl,h,a0,O,ry,bd,ll,rf,k,qq⟩
  have lX:X0.length=(aB X0).length:=by unfold aB;rw [List.length_map]
  have b3:=k.2.1
  have sm:Sml X0:=λm hm=>Int.le_trans (k.2.2 m hm).2 ζ
  have pl:x.length=U.length:=h.pb.len
  have lu:(U++u::r).length=U.length+(r.length+1):=by rw [Ž,Ŷ]
  refine sq λnx Z=>?_
  refine ⟨_,ϱ,_,ϱ,?_⟩
  unfold jg
  refine h.fnd k h.fh ry bd ll λH6 h6=>?_
  refine Z _ _ (sq λnx Z=>?_)
  refine ⟨_,ϱ,_,_,_,_,ϱ,TyOf.int _,uK,_,ϱ,a8 ?_⟩
  refine ⟨_,ϱ,_,_,_,_,ϱ,TyOf.int _,uL,_,ϱ,a8 ?_⟩
  refine ⟨_,ϱ,_,ϱ,ϱ,_,ϱ,aP (λc=>absurd c (by simp)) (λ_=>?_)⟩
  refine ⟨_,ϱ,_,ϱ,(uk h6.fh h6.fb (vh rf)).2,_,ϱ,a8 ?_⟩
  refine Z _ _ (sq λnx Z=>?_)
  refine ⟨_,ϱ,_,ϱ,?_⟩
  unfold jg
  refine h6.rfd k h6.fb ry bd ll λH8 h8=>?_
  refine ⟨_,ϱ,a8 ?_⟩
  refine ⟨_,ϱ,_,ϱ,_,ϱ,_,ϱ,bl,_,ϱ,Nz h8.fb,λp9 n9=>?_⟩
  have ec:bn (U++u::r) none (some ((x.length:Nat):Int))=U:=by
   rw [dq _ _ ω,pl,List.take_left]
  rw [ec]
  have s9:=aa (o:=.lst U) n9
  have h9:=h8.same s9
  refine ⟨I,g,X0,Y,p9,U,[],x,ϱ,h9.r1,h9.tb,sm,ω,by rw [ų];exact Ny,h9.pb,by rw [ų];lia,ry,.inl ⟨ϱ,λc rs Ha ra bC fa ka=>?_⟩⟩
  have ha:=h9.fr ka bC
  refine ⟨ϱ,_,ϱ,aP (λc=>absurd c (by simp)) (λ_=>?_)⟩
  refine Z _ _ ?_
  refine ⟨_,ϱ,_,ϱ,?_⟩
  unfold jg
  refine ha.fnd k ha.fb ry bd ll λHc hc=>?_
  refine ⟨_,ϱ,ϱ,_,ϱ,aP (λ_=>?_) (λc=>absurd (τ rfl) c)⟩
  refine ⟨_,ϱ,_,ϱ,I,g,X0,X,J,C,[],y,ϱ,hc.r1,hc.tb,sm,ω,by rw [ų];exact hc.fe,hc.pe,by rw [ų,← hc.pe.len];lia,O,.inl ⟨ϱ,λcd d3 Hd rd bG d4 kd=>?_⟩⟩
  have hd:=hc.fr kd bG
  exact ⟨_,ϱ,(uk rd.l hd.r2.l (vg rd.r hd.r2.r)).1,qq _⟩
 .rintro D σ H4 ⟨I,L,J,g,d,X0,X,y,C,rfl,h,hS,a0,n0,a5,O,k,qq⟩
  have pl:y.length=C.length:=h.pe.len
  have l0:0<y.length:=List.length_pos_iff.mpr n0
  refine sq λnx Z=>?_
  refine ⟨_,ϱ,sc,ns,7,ϱ,hS,_,ϱ,sc,ns,8,ϱ,hS,_,_,ϱ,ϱ,.inl ⟨ζ,ζ⟩,_,_,ϱ,ϱ,_,_,ϱ,λm m0 m1=>⟨_,ϱ,J,_,ϱ,.inl (Nz h.fe),_,_,ϱ,ϱ,ω,?_⟩⟩
  obtain ⟨i,ei,hi⟩:∃i:Nat,m%((C.length:Nat):Int)=(i:Int)/\i<y.length:=by
   have a:=Ů m (show ((C.length:Nat):Int)≠0 by lia)
   have b:=Ŵ m (show 0<((C.length:Nat):Int) by lia)
   exact ⟨(m%(C.length:Nat)).toNat,(ŧ a).symm,ω⟩
  show jV 4 (V.int (m%((C.length:Nat):Int))) _ _ _
  rw [ei]
  refine Z _ _ (sq λnx Z=>?_)
  refine ⟨_,ϱ,_,ϱ,_,ϱ,sc,ns,9,ϱ,hS,_,ϱ,sc,ns,6,ϱ,hS,_,_,ϱ,ϱ,.inl ⟨ζ,ζ⟩,_,_,ϱ,ϱ,_,_,ϱ,λc c0 _=>?_⟩
  refine ⟨J,C,y,X0,X,i,c,ϱ,h.fe,h.pe,a0,a5,O,k,hi,c0,λt l U u r x Y e H5 gt gl pu ry xu bad ll rr s5=>?_⟩
  refine ⟨t,_,ϱ,NA gt,ϱ,_,_,ϱ,_,_,ϱ,ϱ,?_⟩
  refine Z _ _ (sq λnx Z=>?_)
  refine ⟨_,ϱ,l,_,ϱ,.inl (Nz gl),λhl nh=>?_⟩
  have s6:=aa (o:=.lst (U++u::r)) nh
  have h6:=h.fr (ND (s5.trans s6)) (h.tb.keep (s5.trans s6))
  refine Z _ _ ⟨I,L,J,l,hl,g,d,X0,X,Y,y,C,U,u,r,x,e,_,ϱ,⟨h6,s6 _ _ gl,Ny,NB pu λ_ _ z=>z.keep s6.ts,xu.keep s6.ts⟩,a0,O,ry,bad,ll,λv m=>?_,k,qq⟩
  rcases ź.mp m with m | m
  .obtain ⟨j,ej⟩:=ť m
   obtain ⟨_,_,t,_,_,e,_⟩:=pu.get ej
   exact ⟨t,e⟩
  .rcases ϕ.mp m with rfl | m
   .obtain ⟨t,_,_,e,_⟩:=xu
    exact ⟨t,e⟩
   .exact rr v m
 refine ⟨_,ϱ,sc,ns,ϱ,hS,λI g X0 H1 r1 k s1=>?_⟩
 have b4:NL P1 P2 H1:=⟨.inl (s1 _ _ b1),.inl (s1 _ _ b2),ne⟩
 have lX:X0.length=(aB X0).length:=by unfold aB;rw [List.length_map]
 have b3:=k.2.1
 refine ⟨_,ϱ,I,ϱ,⟨_,Nz r1.l⟩,?_⟩
 refine vN r1 ω λd H2 s2 f2 bI p2 L bL=>?_
 have s3:=aa (o:=.lst (d.map V.ref)) bL
 have r2:Rows (upd H2 L (.lst (d.map V.ref))) L d X0:=⟨Ny,NB p2 λ_ _ z=>s3 _ _ z,bI⟩
 have W:=s2.trans s3
 generalize (upd H2 L (.lst (d.map V.ref)))=H3 at s3 r2 W ⊢
 refine ⟨_,ϱ,_,ϱ,sc,ns,L,d,X0,ϱ,(s1.trans W).seq hS,b0,r2,k,λJ C y X H4 r4 fe pe a0 a5 O k4 dl=>?_⟩
 have bi:=r1.keep W
 have bm:∀b∈I::g,b∉d:=λb m m2=>by
  rcases ϕ.mp m with z | m
  .have:=r1.l
   rw [← z,f2 b m2] at this
   cases this
  .obtain ⟨xs,e⟩:=r1.at m
   cases f2 b m2▸e
 have h4:LwJ P1 P2 H4 I L J g d X0 X y C:=⟨bi.fr k4 bm,r4,fe,pe,(b4.keep W).rows r2 k4⟩
 have bt:NO K H4 sc (ns.map V.int):=k4.seq (λb m=>f2 b m) W (s1.seq hS)
 refine ⟨_,ϱ,χ,λp5 n5=>?_⟩
 have s5:=aa (o:=.lst []) n5
 have h5:=h4.fr (ND s5) (h4.tb.keep s5)
 refine ⟨J,p5,C,ϱ,ϱ,Nz h5.fe,Nz Ny,_,ϱ,aP (λz=>?_) (λz=>?_)⟩
 .obtain rfl:C=[]:=Ξ z
  have ee:y=[]:=Ľ.mp pe.len
  subst ee
  exact ⟨_,ϱ,_,ϱ,I,g,X0,X,J,[],[],[],ϱ,h5.r1,h5.tb,λm hm=>Int.le_trans (k.2.2 m hm).2 ζ,ω,h5.fe,.nil,ϖ _,O,.inl ⟨ϱ,λc rs H' _ _ _ _=>⟨ϱ,q _⟩⟩⟩
 .exact ⟨I,L,J,g,d,X0,X,y,C,ϱ,h5,s5.seq bt,a0,(λe=>z (τ (Ľ.mp (by rw [← pe.len,e];rfl)))),a5,O,k,q⟩
end
def kmk(a b c:ø):Kd->ø
 | .read=>a
 | .mean=>b
 | .change=>c
def wmk(a b c d e f g:ø):Wd->ø
 | .take=>a
 | .mean=>b
 | .sum=>c
 | .give=>d
 | .add=>e
 | .plus=>f
 | .need=>g
abbrev bmV:Ċ:=[.type "ValueError",.type "Exception",.type "BaseException",.type "object"]
section
variable {K:ò}{f:ø}{x q:Str}{st:ð}{fd:õ}
abbrev BdF(x q:Str)(st:ð)(us:Ċ)(ps:Ĉ):Prop:=∀(kV doc pm:ó) (an:Option ø) (cdv ct:ó),bindArgs (PySem.W.fnOf x q (NG st) (NF st) (NE st) .none kV doc pm an cdv ct) ⟨us,[]⟩=pure (ps.zip us)
def FnB(x q:Str)(st:ð)(ps:Ĉ):Prop:=∀us:Ċ,us.length=ps.length->BdF x q st us ps
def Cu(P:Ċ->Prop):Nat->Prop
 | 0=>P []
 | n+1=>∀u,Cu (λus=>P (u::us)) n
def Dm:∀{n:Nat} {P:Ċ->Prop},Cu P n->∀us:Ċ,us.length=n->P us:=by
 intro n
 induction n with
 | zero=>intro P h us e;rw [List.eq_nil_of_length_eq_zero e];exact h
 | succ n ih =>
  intro P h us e
  cases us with
  | nil=>cases e
  | cons u us=>exact ih (P:=λus=>P (u::us)) (h u) us (Nat.succ.inj e)
def fb{ps:Ĉ}(h:Cu (λus=>BdF x q st us ps) ps.length):FnB x q st ps:=Dm h
end
def Zh(K:ò)(f:ø)(x q:Str)(st:ð)(ps:Ĉ):Prop:=PySem.W.isFn K (.ref f)=true/\∃fd,Fun K x q st f fd/\NT K fd ps []
def fnx{K:ò}{f:ø}{x q:Str}{st:ð}{ps:Ĉ}{oc kV dc pm cd ct:ó}{od an:Option ø}{sl:Array (ý)}(b:FnB x q st ps)(l:K.lookup f=some ⟨oc,od,.func (PySem.W.fnOf x q (NG st) (NF st) (NE st) .none kV dc pm an cd ct),sl⟩)(c:PySem.W.codeIn K cd q=true)(k:PySem.W.keepIn K (.ref f)=true)(j:PySem.W.isFn K (.ref f)=true):Zh K f x q st ps:=⟨j,_,oS l c k,(oS l c k).binds λa e c d g h us hl=>b us hl a e c d g h⟩
open PySem.W (readsIn findCls fnOf codeIn handedIn findIn nsIn keepIn isFn plainGet hasDictIn plainOver makesIn mroIn kitOne specialIn takesIn excIn mg_of mg_none_of codeHdIn tabObj noTabs exmAny)
abbrev XF(K:ò)(C:ø)(m:Str)(f:ø):Prop:=PySem.W.findIn K (.ref C) m=some (some (.ref f))
abbrev X0(K:ò)(C:ø)(m:Str):Prop:=PySem.W.findIn K (.ref C) m=some none
abbrev XN(K:ò)(m:Str)(f:ø):Prop:=PySem.W.nsIn K mainGlobals m=some (some (.ref f))
abbrev Xn(K:ò)(m:Str):Prop:=PySem.W.nsIn K mainGlobals m=some none
structure Ck(K:ò)(C:ø):Prop where
 c:Cls K C
 m:PySem.W.makesIn K C=true
 k:PySem.W.keepIn K (.ref C)=true
section
variable {P:ù}{w:ö}{K:ò}{mg:ď}{base:ñ}{k:Nat}{C f:ø}{x:Str}{ps:Ĉ}{sp:Sp}{fd:õ}
def gmk(a:XF K C x f)(j:PySem.W.isFn K (.ref f)=true)(e:PySem.W.keepIn K (.ref f)=true)(b:NT K fd ps [])(o:NH P w K mg base Za k f fd ps sp):GM P w K mg base Za k C x ps sp:=⟨f,fd,o,b,⟨a,j,e⟩⟩
def gfk(e:PySem.W.keepIn K (.ref f)=true)(m:mg x=some (.ref f))(b:NT K fd ps [])(o:NH P w K mg base Za k f fd ps sp):GF P w K mg base Za k x ps sp:=⟨f,fd,o,b,e,m⟩
end
def nmS(st:ð):Str:=match st with | .FunctionDef n ..=>n | _=>""
def psS(st:ð):Ĉ:=(NG st).args.map λa=>a.arg
def FnZ(K:ò)(f:ø)(st:ð):Prop:=PySem.W.nsIn K mainGlobals (nmS st)=some (some (.ref f))/\Zh K f (nmS st) (nmS st) st (psS st)
def all_mk {l : PySem.W.OpenLaw} {w : ö} {K : ò} {h : ñ} {mg : Str → ý} {fa CR eL CM eP CC f0 fi ft a3 my f5 fc fe ff L a4 a5 cb t bC d O cf bG Q ch cl co bI U cp cs bL Y ct cv bN bP Z cx aS b0 bS r cz bT CY CP mA CE a1 g dN q dP o dS j cF mB mE mF mG mL mM mN mP fg mT fh mX fn fp n0 fq fv cM n1 fw d0 n2 n3 n4 n5 n6 n7 n9 na nb ne nf nh nj nk nl nn no np nq nr ns nt nu fZ fx fF nv d1 a7 d2 ab : ø} (X : K.In h) (G : h.Ns mainGlobals mg) (HM : mg "law" = some (.ref fa))
     {nw nx ny nz HN nA:Option ø} {nF nH HP:Array (ý)} {nL nT nW o0 d3 o1 o2 o3 o4 o5 d4 ob HQ oc od oe fG ol:ó} {u av b2 d5 b3 d6 I ad:Tok} {op:Array DictEntry} {HR:Nat} {HS:Option ø} {or os:Tok} {HT:Nat} {HU:Array (ý)} {ot:Option ø} {ov:Array (ý)} {ez:û} {ox:Option ø} {oD:Array (ý)} {eD:û}
  (nR:XN K "Read" CR)
 (fI:Ck K CR)
  (HV:X0 K CR "first")
  (HX:X0 K CR "last")
  (HY:XF K CR "kind" eL)
  (HZ:Zh K eL "kind" "Read.kind" iE vi)
  (nM:XN K "Mean" CM)
 (fN:Ck K CM)
  (I0:X0 K CM "first")
  (I1:X0 K CM "last")
  (I2:XF K CM "kind" eP)
  (I3:Zh K eP "kind" "Mean.kind" iH vi)
  (nC:XN K "Change" CC)
 (fP:Ck K CC)
  (I4:X0 K CC "first")
  (I5:X0 K CC "last")
  (I6:XF K CC "kind" f0)
  (I7:Zh K f0 "kind" "Change.kind" fQ vi)
  (I8:XF K CR "__init__" fi)
  (I9:XF K CM "__init__" fi)
  (Ia:XF K CC "__init__" fi)
  (li:Zh K fi "__init__" "Lock.__init__" iJ y9)
  (Ib:XF K CR "told" ft)
  (Ic:XF K CM "told" ft)
  (Id:XF K CC "told" ft)
  (lt:Zh K ft "told" "Lock.told" iI vi)
  (Ie:XN K "Reader" a3)
 (d7:Ck K a3)
  (If:X0 K a3 "text")
  (Ig:X0 K a3 "place")
  (Ih:XF K a3 "__init__" my)
  (Ii:Zh K my "__init__" "Reader.__init__" jb MX)
  (Ij:XF K a3 "passes" f5)
  (Ik:Zh K f5 "passes" "Reader.passes" gP MY)
  (Il:XF K a3 "read_any" fc)
  (Im:Zh K fc "read_any" "Reader.read_any" fD Ni)
  (Io:XF K a3 "read_below" fe)
  (Ip:Zh K fe "read_below" "Reader.read_below" dU vi)
  (Iq:XF K a3 "read_number" ff)
  (Ir:Zh K ff "read_number" "Reader.read_number" dh vi)
  (Is:XN K "TakeStep" L)
 (d8:Ck K L)
  (oI:X0 K L "where")
  (oT:X0 K L "cell")
  (p1:X0 K L "low")
  (p2:X0 K L "high")
  (p3:X0 K L "amount")
  (fS:XF K L "__init__" a4)
  (p4:Zh K a4 "__init__" "CellStep.__init__" dQ MD)
  (fT:XF K L "house" a5)
  (p5:Zh K a5 "house" "CellStep.house" cY vi)
  (g4:XF K L "lock" cb)
  (p6:Zh K cb "lock" "TakeStep.lock" dE vi)
  (g5:XF K L "sure" t)
  (p7:Zh K t "sure" "Step.sure" iB vi)
  (g7:XF K L "step_done" bC)
  (pa:Zh K bC "step_done" "TakeStep.step_done" bW tz)
  (ga:XF K L "back" d)
  (pb:Zh K d "back" "Step.back" iD HI)
  (Iu:XN K "MeanStep" O)
 (d9:Ck K O)
  (pm:X0 K O "where")
  (pn:X0 K O "cell")
  (po:X0 K O "low")
  (pp:X0 K O "high")
  (pr:X0 K O "amount")
  (gc:XF K O "__init__" a4)
  (gd:XF K O "house" a5)
  (ge:XF K O "lock" cf)
  (pu:Zh K cf "lock" "MeanStep.lock" dL vi)
  (gh:XF K O "sure" t)
  (gl:XF K O "step_done" bG)
  (pw:Zh K bG "step_done" "MeanStep.step_done" dk tz)
  (gm:XF K O "back" d)
  (Iv:XN K "SumStep" Q)
 (dc:Ck K Q)
  (px:X0 K Q "where")
  (py:X0 K Q "cell")
  (pT:X0 K Q "low")
  (qa:X0 K Q "high")
  (qb:X0 K Q "amount")
  (go:XF K Q "__init__" ch)
  (qc:Zh K ch "__init__" "SumStep.__init__" eW MM)
  (gq:XF K Q "house" cl)
  (qd:Zh K cl "house" "SumStep.house" dF vi)
  (gr:XF K Q "lock" co)
  (qe:Zh K co "lock" "SumStep.lock" eV vi)
  (gt:XF K Q "sure" t)
  (gx:XF K Q "step_done" bI)
  (qf:Zh K bI "step_done" "SumStep.step_done" bb tz)
  (gy:XF K Q "back" d)
  (Iw:XN K "GiveStep" U)
 (dd:Ck K U)
  (qg:X0 K U "where")
  (qh:X0 K U "cell")
  (qi:X0 K U "low")
  (qn:X0 K U "high")
  (qq:X0 K U "amount")
  (h2:XF K U "__init__" a4)
  (h3:XF K U "house" a5)
  (h4:XF K U "lock" cp)
  (qr:Zh K cp "lock" "GiveStep.lock" dO vi)
  (h5:XF K U "sure" cs)
  (qs:Zh K cs "sure" "GiveStep.sure" dM vi)
  (h6:XF K U "step_done" bL)
  (qx:Zh K bL "step_done" "GiveStep.step_done" bZ tz)
  (h7:XF K U "back" d)
  (Ix:XN K "AddStep" Y)
 (dl:Ck K Y)
  (r0:X0 K Y "where")
  (r1:X0 K Y "cell")
  (r2:X0 K Y "low")
  (r3:X0 K Y "high")
  (r4:X0 K Y "amount")
  (h8:XF K Y "__init__" ct)
  (r5:Zh K ct "__init__" "AddStep.__init__" eY MJ)
  (h9:XF K Y "house" a5)
  (ha:XF K Y "lock" cv)
  (r6:Zh K cv "lock" "AddStep.lock" eX vi)
  (hb:XF K Y "sure" t)
  (hc:XF K Y "step_done" bN)
  (r7:Zh K bN "step_done" "AddStep.step_done" cn tz)
  (hd:XF K Y "back" bP)
  (r9:Zh K bP "back" "AddStep.back" e8 HI)
  (Iy:XN K "PlusStep" Z)
 (dp:Ck K Z)
  (ra:X0 K Z "where")
  (rb:X0 K Z "cell")
  (rc:X0 K Z "low")
  (rd:X0 K Z "high")
  (ri:X0 K Z "amount")
  (he:XF K Z "__init__" cx)
  (rj:Zh K cx "__init__" "PlusStep.__init__" dH ME)
  (hf:XF K Z "house" aS)
  (rl:Zh K aS "house" "Step.house" gJ vi)
  (hg:XF K Z "lock" b0)
  (rn:Zh K b0 "lock" "Step.lock" iC vi)
  (hh:XF K Z "sure" t)
  (hi:XF K Z "step_done" bS)
  (ro:Zh K bS "step_done" "PlusStep.step_done" bX tz)
  (hj:XF K Z "back" d)
  (rp:XN K "NeedStep" r)
 (dr:Ck K r)
  (rr:X0 K r "where")
  (rs:X0 K r "cell")
  (rt:X0 K r "low")
  (ru:X0 K r "high")
  (rv:X0 K r "amount")
  (hk:XF K r "__init__" cz)
  (rx:Zh K cz "__init__" "NeedStep.__init__" dJ ME)
  (hm:XF K r "house" aS)
  (ho:XF K r "lock" b0)
  (hp:XF K r "sure" t)
  (hq:XF K r "step_done" bT)
  (ry:Zh K bT "step_done" "NeedStep.step_done" bY tz)
  (hr:XF K r "back" d)
  (Iz:XN K "CellStep" CY)
  (IA:specialIn K (.ref CY) "__getattribute__"=some (some (.builtin "type.__getattribute__")))
  (IB:readsIn K CY (.type "type")=true)
  (IC:findCls K (.ref CY) (.type "type") "__init__"=some (.val (.ref a4)))
  (ID:handedIn (.ref a4)=true)
  (rz:findIn K (.ref L) "__class__"=some (some (.builtin "object.__class__")))
  (s0:mroIn K L (.type "object")=some true)
  (s1:kitOne K (.ref L) (.ref r)=some false)
  (s2:findIn K (.ref O) "__class__"=some (some (.builtin "object.__class__")))
  (s3:mroIn K O (.type "object")=some true)
  (s4:kitOne K (.ref O) (.ref r)=some false)
  (s5:findIn K (.ref Q) "__class__"=some (some (.builtin "object.__class__")))
  (s6:mroIn K Q (.type "object")=some true)
  (s7:kitOne K (.ref Q) (.ref r)=some false)
  (s8:findIn K (.ref U) "__class__"=some (some (.builtin "object.__class__")))
  (s9:mroIn K U (.type "object")=some true)
  (sc:kitOne K (.ref U) (.ref r)=some false)
  (sl:findIn K (.ref Y) "__class__"=some (some (.builtin "object.__class__")))
  (sm:mroIn K Y (.type "object")=some true)
  (sn:kitOne K (.ref Y) (.ref r)=some false)
  (sp:findIn K (.ref Z) "__class__"=some (some (.builtin "object.__class__")))
  (ss:mroIn K Z (.type "object")=some true)
  (sv:kitOne K (.ref Z) (.ref r)=some false)
  (sy:findIn K (.ref r) "__class__"=some (some (.builtin "object.__class__")))
  (t0:mroIn K r (.type "object")=some true)
  (t1:kitOne K (.ref r) (.ref r)=some true)
  (hn:specialIn K (.builtin "object.__class__") "__get__"=some (some (.builtin "getset_descriptor.__get__")))
  (ds:takesIn K (.builtin "object.__class__")=some true)
  (nP:XN K "Pact" CP)
 (hs:Ck K CP)
  (IE:X0 K CP "manner")
  (IF:X0 K CP "steps")
  (IG:X0 K CP "parts")
  (IH:XF K CP "__init__" mA)
  (II:Zh K mA "__init__" "Pact.__init__" iF KW)
  (nE:XN K "PactError" CE)
  (xE:excIn K CE bmV "ValueError.__new__"=true)
  (ht:XN K "NoNeed" a1)
  (IJ:excIn K a1 bmV "ValueError.__new__"=true)
  (hu:XN K "NoText" g)
  (IK:keepIn K (.ref g)=true)
  (MR:XF K g "__init__" dN)
  (IL:Zh K dN "__init__" "NoText.__init__" fO vT)
  (IM:XA.tj K g dN "ValueError.__new__"=true)
  (IN:XA.wY K g=true)
  (IO:findIn K (.ref g) "__setattr__"=some (some (.builtin "object.__setattr__")))
  (IP:X0 K g "at")
  (IQ:findIn K (.ref g) "__getattribute__"=some (some (.builtin "BaseException.__getattribute__")))
  (IR:X0 K g "__getattr__")
  (IS:findIn K (.ref g) "__class__"=some (some (.builtin "object.__class__")))
  (IT:mroIn K g (.type "object")=some true)
  (IU:mroIn K g (.type "BaseException")=some true)
  (t2:XN K "NoPlace" q)
  (IV:keepIn K (.ref q)=true)
  (MS:XF K q "__init__" dP)
  (IW:Zh K dP "__init__" "NoPlace.__init__" iG vT)
  (IX:XA.tj K q dP "ValueError.__new__"=true)
  (IY:XA.wY K q=true)
  (IZ:findIn K (.ref q) "__setattr__"=some (some (.builtin "object.__setattr__")))
  (J0:X0 K q "at")
  (J1:findIn K (.ref q) "__getattribute__"=some (some (.builtin "BaseException.__getattribute__")))
  (J2:X0 K q "__getattr__")
  (J3:findIn K (.ref q) "__class__"=some (some (.builtin "object.__class__")))
  (J4:mroIn K q (.type "object")=some true)
  (J5:mroIn K q (.type "BaseException")=some true)
  (t3:XN K "NoWayBack" o)
  (J6:keepIn K (.ref o)=true)
  (MT:XF K o "__init__" dS)
  (J7:Zh K dS "__init__" "NoWayBack.__init__" gb vT)
  (J8:XA.tj K o dS "ValueError.__new__"=true)
  (J9:XA.wY K o=true)
  (Ja:findIn K (.ref o) "__setattr__"=some (some (.builtin "object.__setattr__")))
  (Jb:X0 K o "at")
  (Jc:findIn K (.ref o) "__getattribute__"=some (some (.builtin "BaseException.__getattribute__")))
  (Jd:X0 K o "__getattr__")
  (Je:findIn K (.ref o) "__class__"=some (some (.builtin "object.__class__")))
  (Jf:mroIn K o (.type "object")=some true)
  (Jg:mroIn K o (.type "BaseException")=some true)
  (t5:XN K "NoFit" j)
  (Jh:keepIn K (.ref j)=true)
  (MU:XF K j "__init__" cF)
  (Ji:Zh K cF "__init__" "NoFit.__init__" jS vT)
  (Jj:XA.tj K j cF "ValueError.__new__"=true)
  (Jk:XA.wY K j=true)
  (Jl:findIn K (.ref j) "__setattr__"=some (some (.builtin "object.__setattr__")))
  (Jm:X0 K j "at")
  (Jn:findIn K (.ref j) "__getattribute__"=some (some (.builtin "BaseException.__getattribute__")))
  (Jo:X0 K j "__getattr__")
  (Jp:findIn K (.ref j) "__class__"=some (some (.builtin "object.__class__")))
  (Jq:mroIn K j (.type "object")=some true)
  (Jr:mroIn K j (.type "BaseException")=some true)
  (Js:exmAny K (.ref g) [.ref g,.ref q,.ref o,.ref a1]=some true)
  (Jt:exmAny K (.ref q) [.ref g,.ref q,.ref o,.ref a1]=some true)
  (Ju:exmAny K (.ref o) [.ref g,.ref q,.ref o,.ref a1]=some true)
  (Jv:exmAny K (.ref a1) [.ref g,.ref q,.ref o,.ref a1]=some true)
  (Jw:mroIn K j (.ref j)=some true)
  (Jx:mroIn K j (.ref CE)=some true)
  (Jy:kitOne K (.ref j) (.ref a1)=some false)
  (Jz:kitOne K (.ref j) (.ref g)=some false)
  (JA:kitOne K (.ref j) (.type "ValueError")=some true)
  (JB:FnZ K mB om)
  (JC:FnZ K mE jG)
  (JD:FnZ K mF pM)
  (JE:FnZ K mG c9)
  (JF:FnZ K mL fJ)
  (JG:FnZ K mM hV)
  (JH:FnZ K mN jk)
  (JI:FnZ K mP hR)
  (JJ:FnZ K fg da)
  (JK:FnZ K mT kN)
  (JL:FnZ K fh ui)
  (JM:FnZ K mX jl)
  (JN:FnZ K fn fK)
  (JO:FnZ K fp hU)
  (JP:FnZ K n0 eE)
  (JQ:FnZ K fq fL)
  (JR:FnZ K fv cr)
  (JS:XN K "is_undo_fit" cM)
  (JT:K.lookup cM=some ⟨nL,nw,.func (fnOf "is_undo_fit" "is_undo_fit" (NG aH) (NF aH) (NE aH) .none nT nW o0 nx d3 o1),nF⟩)
  (JU:codeIn K d3 "is_undo_fit"=true)
  (t6:keepIn K (.ref cM)=true)
  (JV:FnZ K n1 cW)
  (JW:FnZ K fw eF)
  (JX:XN K "step_on" d0)
  (JY:K.lookup d0=some ⟨o2,ny,.func (fnOf "step_on" "step_on" (NG b9) (NF b9) (NE b9) .none o3 o4 o5 nz d4 ob),nH⟩)
  (JZ:codeIn K d4 "step_on"=true)
  (tc:keepIn K (.ref d0)=true)
  (K0:FnZ K n2 xW)
  (K1:FnZ K n3 iq)
  (K2:FnZ K n4 gw)
  (K3:FnZ K n5 cu)
  (K4:FnZ K n6 fM)
  (K5:FnZ K n7 ii)
  (K6:FnZ K n9 cN)
  (K7:FnZ K na bU)
  (K8:FnZ K nb im)
  (K9:FnZ K ne ik)
  (Kb:FnZ K nf hZ)
  (Kc:FnZ K nh db)
  (Ke:FnZ K nj eK)
  (Kg:FnZ K nk bf)
  (Kh:FnZ K nl cO)
  (Ki:FnZ K nn cm)
  (Kj:FnZ K no cB)
  (Kk:FnZ K np eI)
  (Kl:FnZ K nq gz)
  (Km:FnZ K nr ij)
  (Kn:FnZ K ns jm)
  (Ko:FnZ K nt gA)
  (Kq:FnZ K nu eJ)
  (aZ:XN K "law" fZ)
  (lZ:K.lookup fZ=some ⟨HQ,HN,.func (fnOf "law" "law" (NG hW) (NF hW) (NE hW) .none oc od oe nA fG ol),HP⟩)
  (cZ:codeIn K fG "law"=true)
  (eZ:keepIn K (.ref fZ)=true)
  (a2:Xn K "isinstance")
  (du:Xn K "int")
  (c0:Xn K "bool")
  (dx:Xn K "str")
  (dz:Xn K "len")
  (b1:Xn K "range")
  (dA:Xn K "tuple")
  (dT:Xn K "list")
  (hv:Xn K "any")
  (dB:Xn K "all")
  (hw:Xn K "max")
  (c5:Xn K "sorted")
  (hx:Xn K "min")
  (dC:Xn K "sum")
  (hy:Xn K "ord")
  (ah:Xn K "ValueError")
  (x:nsIn K mainGlobals "MOST_FIGURES_things"=some (some (.int 400 u)))
  (ax:nsIn K mainGlobals "MOST_DEEP"=some (some (.int 8 av)))
  (b4:nsIn K mainGlobals "LONGEST"=some (some (.int 100000 b2)))
  (dG:nsIn K mainGlobals "BLANK"=some (some (.int 32 d5)))
  (b5:nsIn K mainGlobals "PERCENT"=some (some (.int 37 b3)))
  (dI:nsIn K mainGlobals "TILDE"=some (some (.int 126 d6)))
  (J:nsIn K mainGlobals "MOST_FIGURES_steps"=some (some (.int 40 I)))
  (ak:nsIn K mainGlobals "MOST_STEPS"=some (some (.int 12 ad)))
  (Kr:XN K "SHAPES" fx)
  (Ks:K.lookup fx=some ⟨.type "dict",none,.dict op HR,#[]⟩)
  (Kt:(fx==sysModules)=false)
  (Ku:PyProof.Rows.KTD.rowsLook Bl op.toList mD=true)
  (td:XN K "MANNERS" fF)
  (Kv:K.lookup fF=some ⟨.type "tuple",HS,.seq #[.str "held" or,.str "walked" os] HT,HU⟩)
  (Kw:XN K "NoThing" nv)
  (Kx:excIn K nv bmV "ValueError.__new__"=true)
  (hcc1:d4=.ref d1)
  (MZ:K.lookup d1=some ⟨.type "code",ot,.fields ez,ov⟩)
  (hPt1:ez[11]?=some (.ref a7))
  (te:codeHdIn K d1 a7=true)
  (hT1:h.get? a7=some (tabObj #[]))
  (hcc2:d3=.ref d2)
  (N0:K.lookup d2=some ⟨.type "code",ox,.fields eD,oD⟩)
  (hPt2:eD[11]?=some (.ref ab))
  (tf:codeHdIn K d2 ab=true)
  (hT2:h.get? ab=some (tabObj #[]))
  (hNe:a7≠ab)
  (hN:noTabs K=true) :
  ∃(fd:õ) (cc cd P1 P2:ø),(∀(s:ú) (v:ó),BindsTo s fd ⟨[v],[]⟩ [("_law_script",v)])/\PySem.W.codeHdIn K cc P1=true/\PySem.W.codeHdIn K cd P2=true/\P1≠P2/\h.get? P1=some (PySem.W.tabObj #[])/\h.get? P2=some (PySem.W.tabObj #[])/\PySem.W.noTabs K=true/\∀base:ñ,K.In base->BB mg base->NH l.prog w K mg base Za 12 fa fd MO (nJ K P1 P2):=by
 have e:=HM.symm.trans (PySem.W.mg_of X G aZ)
 cases e
 obtain ⟨tk,KX,hA,tl⟩:=HZ
 obtain ⟨tn,KY,hC,to⟩:=I3
 obtain ⟨tt,KZ,hD,tv⟩:=I7
 obtain ⟨ji,di,Fi,bi⟩:=li
 obtain ⟨jt,dt,Ft,bt⟩:=lt
 have T:TxK K (kmk CR CM CC):=⟨λk=>match k with | .read=>fI.c | .mean=>fN.c | .change=>fP.c,λk=>match k with | .read=>HV | .mean=>I0 | .change=>I4,λk=>match k with | .read=>HX | .mean=>I1 | .change=>I5⟩
 have ca:∀k,mg (kdN k)=some (.ref (kmk CR CM CC k)):=λk=>match k with | .read=>ŭ X G nR | .mean=>ŭ X G nM | .change=>ŭ X G nC
 obtain ⟨tS,L1,u2,u3⟩:=Ii
 obtain ⟨ul,L3,hF,up⟩:=Ik
 obtain ⟨uy,L4,hG,v0⟩:=Im
 obtain ⟨v1,L5,hH,v2⟩:=Ip
 obtain ⟨v3,L6,hI,hK⟩:=Ir
 obtain ⟨c6,Ky,dV,b6⟩:=p4
 obtain ⟨bl,Kz,a6,bm⟩:=p5
 obtain ⟨hL,KA,e1,hM⟩:=p6
 obtain ⟨al,KB,y,an⟩:=p7
 obtain ⟨hP,e2,e3,hQ⟩:=pa
 obtain ⟨ar,D,F,as⟩:=pb
 obtain ⟨hS,KC,e4,hT⟩:=pu
 obtain ⟨hX,e5,e6,hY⟩:=pw
 obtain ⟨i0,KE,i1,i2⟩:=qc
 obtain ⟨i3,KF,e7,i7⟩:=qd
 obtain ⟨i8,KG,e9,i9⟩:=qe
 obtain ⟨ia,ea,eb,ib⟩:=qf
 obtain ⟨ic,KH,ec,ie⟩:=qr
 obtain ⟨ig,KI,ed,ih⟩:=qs
 obtain ⟨il,ee,ef,io⟩:=qx
 obtain ⟨ip,KJ,is,it⟩:=r5
 obtain ⟨iw,KK,ei,ix⟩:=r6
 obtain ⟨iy,ej,ek,j1⟩:=r7
 obtain ⟨j2,el,em,j3⟩:=r9
 obtain ⟨j4,KL,j5,j6⟩:=rj
 obtain ⟨eo,KM,bA,ep⟩:=rl
 obtain ⟨eq,KN,bB,er⟩:=rn
 obtain ⟨j7,es,et,j8⟩:=ro
 obtain ⟨js,KO,jF,k4⟩:=rx
 obtain ⟨k5,eu,ev,k6⟩:=ry
 have W:TxW K (wmk L O Q U Y Z r):=⟨λk=>match k with | .take=>d8.c | .mean=>d9.c | .sum=>dc.c | .give=>dd.c | .add=>dl.c | .plus=>dp.c | .need=>dr.c,λk=>match k with | .take=>oI | .mean=>pm | .sum=>px | .give=>qg | .add=>r0 | .plus=>ra | .need=>rr,λk=>match k with | .take=>oT | .mean=>pn | .sum=>py | .give=>qh | .add=>r1 | .plus=>rb | .need=>rs,λk=>match k with | .take=>p1 | .mean=>po | .sum=>pT | .give=>qi | .add=>r2 | .plus=>rc | .need=>rt,λk=>match k with | .take=>p2 | .mean=>pp | .sum=>qa | .give=>qn | .add=>r3 | .plus=>rd | .need=>ru,λk=>match k with | .take=>p3 | .mean=>pr | .sum=>qb | .give=>qq | .add=>r4 | .plus=>ri | .need=>rv⟩
 have TN:TxN K mg (wmk L O Q U Y Z r):=⟨ŭ X G rp,λk=>match k with | .take=>rz | .mean=>s2 | .sum=>s5 | .give=>s8 | .add=>sl | .plus=>sp | .need=>sy,hn,ds,λk=>match k with | .take=>s0 | .mean=>s3 | .sum=>s6 | .give=>s9 | .add=>sm | .plus=>ss | .need=>t0,λk=>match k with | .take=>s1 | .mean=>s4 | .sum=>s7 | .give=>sc | .add=>sn | .plus=>sv | .need=>t1⟩
 obtain ⟨v4,L7,va,vu⟩:=II
 have TP:TxP K CP:=⟨hs.c,IE,IF,IG⟩
 obtain ⟨vE,L8,w0,w1⟩:=IL
 have lx:XA.lF K g:=⟨IN,IO,IP,⟨IQ,IR,IS,hn,ds,IT,IU⟩⟩
 have ly:XA.MkX K g dN:=⟨IM,vE,IK,lx⟩
 obtain ⟨w2,L9,w3,w4⟩:=IW
 have lz:XA.lF K q:=⟨IY,IZ,J0,⟨J1,J2,J3,hn,ds,J4,J5⟩⟩
 have lX:XA.MkX K q dP:=⟨IX,w2,IV,lz⟩
 obtain ⟨w5,La,w6,w7⟩:=J7
 have ma:XA.lF K o:=⟨J9,Ja,Jb,⟨Jc,Jd,Je,hn,ds,Jf,Jg⟩⟩
 have mb:XA.MkX K o dS:=⟨J8,w5,J6,ma⟩
 obtain ⟨wa,Lb,wh,wi⟩:=Ji
 have mc:XA.lF K j:=⟨Jk,Jl,Jm,⟨Jn,Jo,Jp,hn,ds,Jq,Jr⟩⟩
 have ew:XA.MkX K j cF:=⟨Jj,wa,Jh,mc⟩
 obtain ⟨wl,Lc,Ld,k7,wp⟩:=JB
 have FR:mg "is_whole"=some (.ref mB):=ŭ X G wl
 obtain ⟨ws,Le,Lf,k8,wy⟩:=JC
 have FS:mg "read_thing"=some (.ref mE):=ŭ X G ws
 obtain ⟨x0,Lg,Lh,k9,x1⟩:=JD
 have FT:mg "is_sign"=some (.ref mF):=ŭ X G x0
 obtain ⟨x2,Li,Lj,ka,x3⟩:=JE
 have FU:mg "read_step"=some (.ref mG):=ŭ X G x2
 obtain ⟨x4,Ll,Lm,kb,x5⟩:=JF
 have FV:mg "read_number"=some (.ref mL):=ŭ X G x4
 obtain ⟨x6,Ln,Lo,kc,x7⟩:=JG
 have FX:mg "made_step"=some (.ref mM):=ŭ X G x6
 obtain ⟨x8,Lp,Lq,kd,x9⟩:=JH
 have FY:mg "made_sum"=some (.ref mN):=ŭ X G x8
 obtain ⟨xb,Lr,Ls,kk,xd⟩:=JI
 have G0:mg "read_part"=some (.ref mP):=ŭ X G xb
 obtain ⟨xe,Lt,Lu,kl,xl⟩:=JJ
 have G1:mg "read_pact"=some (.ref fg):=ŭ X G xe
 obtain ⟨xu,Lv,Lw,km,xv⟩:=JK
 have G2:mg "turning"=some (.ref mT):=ŭ X G xu
 obtain ⟨xA,Lx,Ly,ks,xB⟩:=JL
 have G3:mg "look"=some (.ref fh):=ŭ X G xA
 obtain ⟨xN,Lz,LA,ku,xT⟩:=JM
 have G4:mg "is_there"=some (.ref mX):=ŭ X G xN
 obtain ⟨ya,LB,LC,kv,ys⟩:=JN
 have G5:mg "look_behind"=some (.ref fn):=ŭ X G ya
 obtain ⟨yv,LD,LE,kw,z0⟩:=JO
 have G6:mg "played"=some (.ref fp):=ŭ X G yv
 obtain ⟨z1,LF,LG,ky,z2⟩:=JP
 have G7:mg "is_fit"=some (.ref n0):=ŭ X G z1
 obtain ⟨z3,LH,LI,kz,z4⟩:=JQ
 have G8:mg "is_pact_fit"=some (.ref fq):=ŭ X G z3
 obtain ⟨z5,LJ,LK,kA,z8⟩:=JR
 have G9:mg "is_step_fit"=some (.ref fv):=ŭ X G z5
 have me:=oS (st:=aH) JT JU t6
 have Ga:=me.binds (ps:=vn) λ_ _ _ _ _ _ us hl=>match us,hl with | [_,_,_,_],_=>rfl
 have Gb:mg "is_undo_fit"=some (.ref cM):=ŭ X G JS
 obtain ⟨zs,LL,LM,kG,zz⟩:=JV
 have Gc:mg "first_at_house"=some (.ref n1):=ŭ X G zs
 obtain ⟨A0,LN,LO,kP,At⟩:=JW
 have Gd:mg "hands_behind"=some (.ref fw):=ŭ X G A0
 have mi:=oS (st:=b9) JY JZ tc
 have Ge:=mi.binds (ps:=MF) λ_ _ _ _ _ _ us hl=>match us,hl with | [_,_,_],_=>rfl
 have Gf:mg "step_on"=some (.ref d0):=ŭ X G JX
 obtain ⟨B1,LP,LQ,l0,B2⟩:=K0
 have Gg:mg "put"=some (.ref n2):=ŭ X G B1
 obtain ⟨BT,LR,LS,l2,C1⟩:=K1
 have Gi:mg "_law_cell"=some (.ref n3):=ŭ X G BT
 obtain ⟨C2,LT,LU,l3,C4⟩:=K2
 have Gj:mg "_law_mixed"=some (.ref n4):=ŭ X G C2
 obtain ⟨CA,LV,LW,l4,CB⟩:=K3
 have Gk:mg "_law_stream"=some (.ref n5):=ŭ X G CA
 obtain ⟨CF,LX,LY,l5,CL⟩:=K4
 have Gm:mg "_law_amount"=some (.ref n6):=ŭ X G CF
 obtain ⟨CN,LZ,M0,l6,CS⟩:=K5
 have Gn:mg "_law_step"=some (.ref n7):=ŭ X G CN
 obtain ⟨CT,M3,M4,l7,CW⟩:=K6
 have Go:mg "_law_steps"=some (.ref n9):=ŭ X G CT
 obtain ⟨CX,M5,M6,l9,DE⟩:=K7
 have Gp:mg "_law_text"=some (.ref na):=ŭ X G CX
 obtain ⟨Eq,M7,M8,la,F0⟩:=K8
 have Gq:mg "_law_done"=some (.ref nb):=ŭ X G Eq
 obtain ⟨F1,M9,Ma,lb,F2⟩:=K9
 have Gr:mg "_law_held"=some (.ref ne):=ŭ X G F1
 obtain ⟨F3,Mb,Mc,lc,F4⟩:=Kb
 have Gs:mg "_law_walk"=some (.ref nf):=ŭ X G F3
 obtain ⟨F5,Md,Me,ld,F6⟩:=Kc
 have Gv:mg "_law_back"=some (.ref nh):=ŭ X G F5
 obtain ⟨F7,Mf,Mg,le,F8⟩:=Ke
 have Gw:mg "_law_new_way"=some (.ref nj):=ŭ X G F7
 obtain ⟨F9,Mh,Mi,lh,Fy⟩:=Kg
 have Gx:mg "_law_entries"=some (.ref nk):=ŭ X G F9
 obtain ⟨Fz,Mj,Ml,lk,FA⟩:=Kh
 have Gy:mg "_law_first"=some (.ref nl):=ŭ X G Fz
 obtain ⟨FB,Mm,Mn,ll,FC⟩:=Ki
 have Gz:mg "_law_other_change"=some (.ref nn):=ŭ X G FB
 obtain ⟨FD,Mo,Mp,lm,FE⟩:=Kj
 have GA:mg "_law_other_hands"=some (.ref no):=ŭ X G FD
 obtain ⟨FF,Mq,Mr,ln,FG⟩:=Kk
 have GB:mg "_law_spoiled"=some (.ref np):=ŭ X G FF
 obtain ⟨FH,Ms,Mt,lr,FI⟩:=Kl
 have GC:mg "_law_known"=some (.ref nq):=ŭ X G FH
 obtain ⟨FJ,Mu,Mv,ls,FK⟩:=Km
 have GD:mg "_law_more"=some (.ref nr):=ŭ X G FJ
 obtain ⟨FL,Mw,Mx,lu,FM⟩:=Kn
 have GE:mg "_law_bad"=some (.ref ns):=ŭ X G FL
 obtain ⟨FN,My,Mz,lv,FO⟩:=Ko
 have GG:mg "_law_found"=some (.ref nt):=ŭ X G FN
 obtain ⟨FP,MA,MB,lw,FQ⟩:=Kq
 have GH:mg "_law_refused"=some (.ref nu):=ŭ X G FP
 have FZ:=oS (st:=hW) lZ cZ eZ
 have B:TxB mg:=⟨ţ X G a2,ţ X G du,ţ X G c0,ţ X G dx,ţ X G dz,ţ X G b1,ţ X G dA,ţ X G dT,ţ X G hv,ţ X G dB,ţ X G hw,ţ X G c5⟩
 have TT:K82T.Tx K mg a3:=⟨d7.c,If,Ig,ŭ X G Ie,ţ X G a2,ţ X G du,ţ X G c0,ţ X G dx,ţ X G dz,ţ X G hy,ţ X G dB,ţ X G b1,⟨_,ŭ X G x⟩,⟨_,ŭ X G ax⟩,⟨_,ŭ X G b4⟩,⟨_,ŭ X G dG⟩,⟨_,ŭ X G b5⟩,⟨_,ŭ X G dI⟩⟩
 have tM:∀H,NN K H fF [.str "held",.str "walked"]:=λH=>.inr ⟨_,_,_,Kv,ϱ,ϱ,χ,.cons ⟨or,ϱ⟩ (.cons ⟨os,ϱ⟩ .nil)⟩
 have Y4:T4 K mg g q o a1:=⟨ŭ X G hu,ŭ X G t2,ŭ X G t3,ŭ X G ht,Js,Jt,Ju,Jv⟩
 have YF:TxF K mg j a1 g CE cF:=⟨ŭ X G t5,ŭ X G ht,ŭ X G hu,ŭ X G nE,ţ X G ah,ew,xE,Jw,Jx,Jy,Jz,JA⟩
 refine ⟨fnOf "law" "law" (NG hW) (NF hW) (NE hW) .none oc od oe nA fG ol,d1,d2,a7,ab,(λs v=>.of_eq rfl),te,tf,hNe,hT1,hT2,hN,λbase HJ hB=>?_⟩
 have GK:∀k,GM l.prog w K mg base Za 1 (kmk CR CM CC k) "kind" vi (kq k):=λk=>match k with | .read=>⟨eL,_,Eb hA,tl,⟨HY,tk,hA.kp⟩⟩ | .mean=>⟨eP,_,Eh hC,to,⟨I2,tn,hC.kp⟩⟩ | .change=>⟨f0,_,El hD,tv,⟨I6,tt,hD.kp⟩⟩
 have Mk:∀k,Mk K (kmk CR CM CC k) fi:=λk=>match k with | .read=>⟨fI.m,I8,ji,fI.k⟩ | .mean=>⟨fN.m,I9,ji,fN.k⟩ | .change=>⟨fP.m,Ia,ji,fP.k⟩
 have Gt:∀k,GM l.prog w K mg base Za 2 (kmk CR CM CC k) "told" vi (g9 (kmk CR CM CC)):=λk=>match k with | .read=>⟨ft,_,rG Ft T GK,bt,⟨Ib,jt,Ft.kp⟩⟩ | .mean=>⟨ft,_,rG Ft T GK,bt,⟨Ic,jt,Ft.kp⟩⟩ | .change=>⟨ft,_,rG Ft T GK,bt,⟨Id,jt,Ft.kp⟩⟩
 have GI:=yI (P:=l.prog) (w:=w) (mg:=mg) (base:=base) Fi T
 have dK:=yR (P:=l.prog) (w:=w) (mg:=mg) (base:=base) dV W
 have WI:∀wd,WI l.prog w K mg base (wmk L O Q U Y Z r) wd:=λwd=>match wd with | .take=>⟨a4,_,_,⟨d8.m,fS,c6,d8.k⟩,(dK.imp λ_ _ _ _ z=>rV rfl z).mono ζ,b6,ŭ X G Is⟩ | .mean=>⟨a4,_,_,⟨d9.m,gc,c6,d9.k⟩,(dK.imp λ_ _ _ _ z=>rV rfl z).mono ζ,b6,ŭ X G Iu⟩ | .sum=>⟨ch,_,_,⟨dc.m,go,i0,dc.k⟩,(yy i1 W).mono ζ,i2,ŭ X G Iv⟩ | .give=>⟨a4,_,_,⟨dd.m,h2,c6,dd.k⟩,(dK.imp λ_ _ _ _ z=>rV rfl z).mono ζ,b6,ŭ X G Iw⟩ | .add=>⟨ct,_,_,⟨dl.m,h8,ip,dl.k⟩,yT is W (ŭ X G Iz) ⟨IA,IB,IC,ID,dV.kp⟩ dK b6,it,ŭ X G Ix⟩ | .plus=>⟨cx,_,_,⟨dp.m,he,j4,dp.k⟩,(yC j5 W).mono ζ,j6,ŭ X G Iy⟩ | .need=>⟨cz,_,_,⟨dr.m,hk,js,dr.k⟩,(yD jF W).mono ζ,k4,ŭ X G rp⟩
 have GL:=jN (P:=l.prog) (w:=w) (mg:=mg) (base:=base) (C:=g) w0 nZ rfl rfl lx
 have GN:=jN (P:=l.prog) (w:=w) (mg:=mg) (base:=base) (C:=q) w3 lV rfl rfl lz
 have GO:=jN (P:=l.prog) (w:=w) (mg:=mg) (base:=base) (C:=o) w6 jB rfl rfl ma
 have GP:=jN (P:=l.prog) (w:=w) (mg:=mg) (base:=base) (C:=j) wh pA rfl rfl mc
 have Hi:=K82T.AV (P:=l.prog) (w:=w) (mg:=mg) (base:=base) u2 TT
 have Hp:=K82T.AN (P:=l.prog) (w:=w) (mg:=mg) (base:=base) hF TT
 have Hn:=K82T.CO (P:=l.prog) (w:=w) (mg:=mg) (base:=base) hI TT
 have mm:gX K a3 "read_number" ff:=⟨Iq,v3,hI.kp⟩
 have GQ:gX K a3 "passes" f5:=⟨Ij,ul,hF.kp⟩
 have GR:gX K a3 "read_below" fe:=⟨Io,v1,hH.kp⟩
 have GS:gX K a3 "read_any" fc:=⟨Il,uy,hG.kp⟩
 have Hb:=K82T.yS hH TT Hn hK mm
 have Ha:=K82T.C6 hG TT Hp up GQ Hb v2 GR Hn hK mm
 have GT:=K82T.AK (P:=l.prog) (w:=w) (mg:=mg) (base:=base) k9 TT
 have HW:=K82T.yw (P:=l.prog) (w:=w) (mg:=mg) (base:=base) k7 TT
 have gk:=@gmk l.prog w K mg base
 have gg:=@gfk l.prog w K mg base
 have GU:=gg k7.kp FR wp (HW)
 have GV:=gg k8.kp FS wy (K82T.AM k8 TT ⟨d7.m,Ih,tS,d7.k⟩ GT x1 k9.kp FT Hi u3 Ha v0 GS)
 have GW:=gg kd.kp FY x9 (AO kd (WI .sum))
 have GX:=gg kc.kp FX x7 (yE kc WI GW)
 have GY:=gg kb.kp FV x5 (AL kb B (ŭ X G Kw) Kx θ ⟨_,ŭ X G J⟩ GV GU)
 have GZ:=gg ka.kp FU x3 (yA ka B (ŭ X G Kr) (BU Ks Kt Ku) GY GX)
 have HG:∀Bh:ñ,K.In Bh->∀wd,GM l.prog w K mg Bh Za 1 ((wmk L O Q U Y Z r) wd) "house" vi (cK (wmk L O Q U Y Z r) wd):=λBh _ wd=>match wd with | .take=>⟨a5,_,jO (.inl rfl) a6 W,bm,⟨fT,bl,a6.kp⟩⟩ | .mean=>⟨a5,_,jO (.inl rfl) a6 W,bm,⟨gd,bl,a6.kp⟩⟩ | .sum=>⟨cl,_,AW e7 W,i7,⟨gq,i3,e7.kp⟩⟩ | .give=>⟨a5,_,jO (.inl rfl) a6 W,bm,⟨h3,bl,a6.kp⟩⟩ | .add=>⟨a5,_,jO (.inr rfl) a6 W,bm,⟨h9,bl,a6.kp⟩⟩ | .plus=>⟨aS,_,sJ (.inl rfl) bA,ep,⟨hf,eo,bA.kp⟩⟩ | .need=>⟨aS,_,sJ (.inr rfl) bA,ep,⟨hm,eo,bA.kp⟩⟩
 have Gh:=HG base HJ
 have Gl:∀wd,GM l.prog w K mg base Za 3 ((wmk L O Q U Y Z r) wd) "lock" vi (dX (wmk L O Q U Y Z r) K wd):=λwd=>match wd with | .take=>⟨cb,_,yG e1 W T ca Mk GI bi Gt,hM,⟨g4,hL,e1.kp⟩⟩ | .mean=>⟨cf,_,yH e4 W T ca Mk GI bi Gt,hT,⟨ge,hS,e4.kp⟩⟩ | .sum=>⟨co,_,AR e9 W T ca Mk GI bi Gt,i9,⟨gr,i8,e9.kp⟩⟩ | .give=>⟨cp,_,yJ ec W T ca Mk GI bi Gt,ie,⟨h4,ic,ec.kp⟩⟩ | .add=>⟨cv,_,AU ei W T ca Mk GI bi Gt,ix,⟨ha,iw,ei.kp⟩⟩ | .plus=>⟨b0,_,(sI (.inl rfl) bB).mono ζ,er,⟨hg,eq,bB.kp⟩⟩ | .need=>⟨b0,_,(sI (.inr rfl) bB).mono ζ,er,⟨ho,eq,bB.kp⟩⟩
 have Gu:∀wd,GM l.prog w K mg base Za 1 ((wmk L O Q U Y Z r) wd) "sure" vi (ko wd):=λwd=>match wd with | .take=>⟨t,_,f9 ζ y,an,⟨g5,al,y.kp⟩⟩ | .mean=>⟨t,_,f9 ζ y,an,⟨gh,al,y.kp⟩⟩ | .sum=>⟨t,_,f9 ζ y,an,⟨gt,al,y.kp⟩⟩ | .give=>⟨cs,_,yz ed,ih,⟨h5,ig,ed.kp⟩⟩ | .add=>⟨t,_,f9 ζ y,an,⟨hb,al,y.kp⟩⟩ | .plus=>⟨t,_,f9 ζ y,an,⟨hh,al,y.kp⟩⟩ | .need=>⟨t,_,f9 ζ y,an,⟨hp,al,y.kp⟩⟩
 have H3:=wE (P:=l.prog) (w:=w) (mg:=mg) (base:=base) va B TP
 have H4:=gg kk.kp G0 xd (yB kk GZ)
 have H5:GF l.prog w K mg base (Zn l.prog w) 8 "read_pact" Nf (toE (u8 CP (wmk L O Q U Y Z r) g)):=⟨fg,_,(wC ly GL w1 (ŭ X G hu) kl B (ŭ X G td) tM ⟨_,ŭ X G ak⟩ ⟨hs.m,IH,v4,hs.k⟩ (ŭ X G nP) H3 vu H4).toE,xl,kl.kp,G1⟩
 have H6:=gg km.kp G2 xv (uw km B TP W Gu)
 have H7:=gg ku.kp G4 xT (yx ku B W Gh Gl)
 have H8:GF l.prog w K mg base (XA.CXA l.prog w) 3 "look_behind" Nt (vc CP (wmk L O Q U Y Z r) o):=⟨fn,_,CV kv B TP W TN H6 mb GO w7 (ŭ X G t3),ys,kv.kp,G5⟩
 have H9:GF l.prog w K mg base (Zn l.prog w) 5 "look" Nr (toE (qN CP (wmk L O Q U Y Z r) q o)):=⟨fh,_,(AT ks B TP H7 H8 lX GN w4 (ŭ X G t2)).toE,xB,ks.kp,G3⟩
 have mn:=gg l0.kp Gg B2 (CK l0 W Gh)
 have Hc:∀(wd:Wd) (val:Int->Int) (n:Nat) (Bh:ñ),n<=1000->K.In Bh->NH l.prog w K mg Bh (Zn l.prog w) 5 ((wmk bC bG bI bL bN bS bT) wd) ((λwd:Wd=>match wd with | .take=>e2 | .mean=>e5 | .sum=>ea | .give=>ee | .add=>ej | .plus=>es | .need=>eu) wd) tz (iU l.prog w K mg (wmk L O Q U Y Z r) a1 val n wd Bh):=λwd val n Bh hn _=>match wd with | .take=>lg ζ (yO (.inl rfl) e3 gQ rfl rfl W) | .mean=>lg ζ (yO (.inr rfl) e6 gT rfl rfl W) | .sum=>lg ζ (A2 eb W B (ţ X G dC) hn) | .give=>lg ζ (yQ ef W) | .add=>lg ζ (A3 ek W) | .plus=>lg ζ (yP et W) | .need=>wF ev W (ŭ X G ht) IJ
 have Hd:∀wd,gX K ((wmk L O Q U Y Z r) wd) "step_done" ((wmk bC bG bI bL bN bS bT) wd):=λwd=>match wd with | .take=>⟨g7,hP,e3.kp⟩ | .mean=>⟨gl,hX,e6.kp⟩ | .sum=>⟨gx,ia,eb.kp⟩ | .give=>⟨h6,il,ef.kp⟩ | .add=>⟨hc,iy,ek.kp⟩ | .plus=>⟨hi,j7,et.kp⟩ | .need=>⟨hq,k5,ev.kp⟩
 have He:∀wd,NT K ((λwd:Wd=>match wd with | .take=>e2 | .mean=>e5 | .sum=>ea | .give=>ee | .add=>ej | .plus=>es | .need=>eu) wd) tz []:=λwd=>match wd with | .take=>hQ | .mean=>hY | .sum=>ib | .give=>io | .add=>j1 | .plus=>j8 | .need=>k6
 have Hf:∀(wd:Wd) (val:Int->Int) (n:Nat) (Bh:ñ),n<=1000->K.In Bh->NH l.prog w K mg Bh Za 5 ((wmk d d d d bP d d) wd) ((λwd:Wd=>match wd with | .take=>D | .mean=>D | .sum=>D | .give=>D | .add=>el | .plus=>D | .need=>D) wd) HI (kr l.prog w K mg (wmk L O Q U Y Z r) val n wd Bh):=λwd val n Bh hn _=>match wd with | .take=>kW ζ F | .mean=>kW ζ F | .sum=>kW ζ F | .give=>kW ζ F | .add=>A5 em W | .plus=>kW ζ F | .need=>kW ζ F
 have Hg:∀wd,gX K ((wmk L O Q U Y Z r) wd) "back" ((wmk d d d d bP d d) wd):=λwd=>match wd with | .take=>⟨ga,ar,F.kp⟩ | .mean=>⟨gm,ar,F.kp⟩ | .sum=>⟨gy,ar,F.kp⟩ | .give=>⟨h7,ar,F.kp⟩ | .add=>⟨hd,j2,em.kp⟩ | .plus=>⟨hj,ar,F.kp⟩ | .need=>⟨hr,ar,F.kp⟩
 have Hh:∀wd,NT K ((λwd:Wd=>match wd with | .take=>D | .mean=>D | .sum=>D | .give=>D | .add=>el | .plus=>D | .need=>D) wd) HI []:=λwd=>match wd with | .take=>as | .mean=>as | .sum=>as | .give=>as | .add=>j3 | .plus=>as | .need=>as
 have mo:GF l.prog w K mg base (Zn l.prog w) 6 "step_on" MF (xK a7 ab (wmk L O Q U Y Z r) a1):=⟨d0,_,Ed (cc:=d1) mi W hB hcc1 te HG Hc Hd He mn,Ge,tc,Gf⟩
 have mp:GF l.prog w K mg base (Zn l.prog w) 7 "hands_behind" ML (xM a7 ab (wmk L O Q U Y Z r) a1):=⟨fw,_,Ej kP B mo,At,kP.kp,Gd⟩
 have Hj:=gg kG.kp Gc zz (Ek kG B W Gh)
 have Hk:GF l.prog w K mg base (Zn l.prog w) 8 "is_pact_fit" vn (Au a7 ab CP (wmk L O Q U Y Z r) a1):=⟨fq,_,Ec kz TP mp,z4,kz.kp,G8⟩
 have Hl:GF l.prog w K mg base (Zn l.prog w) 8 "is_step_fit" vn (As a7 ab CP (wmk L O Q U Y Z r) a1):=⟨fv,_,Ea kA B TP Hj mp mo,z8,kA.kp,G9⟩
 have Hm:GF l.prog w K mg base (Zn l.prog w) 8 "is_undo_fit" vn (Aq a7 ab CP (wmk L O Q U Y Z r) a1):=⟨cM,_,D9 (cc:=d2) me B TP W hB hcc2 tf HG Gu Hf Hg Hh mn,Ga,t6,Gb⟩
 have Ho:=gg ky.kp G7 z2 (Ei ky B TP Y4 H5 H9 Hk Hl Hm)
 have aM:GF l.prog w K mg base (XA.CXA l.prog w) 10 "played" MG (bK a7 ab j):=⟨fp,_,wD ew GP wi (ŭ X G t5) kw B Ho,z0,kw.kp,G6⟩
 have Hq:GF l.prog w K mg base Za 10 "played" MG (to0 (bK a7 ab j)):=⟨aM.f,aM.fd,NH.to0 aM.ok,aM.bd,aM.kp,aM.mgx⟩
 have eG:=gg l2.kp Gi C1 (A4 l2 B)
 have mr:=gg l3.kp Gj C4 (yF l3)
 have ms:=gg l4.kp Gk CB (wB l4 B mr)
 have mt:=gg l5.kp Gm CL (wG l5)
 have Hr:=gg l6.kp Gn CS (CU l6 B (ţ X G hx) mt)
 have mu:=gg l7.kp Go CW (AS l7 B ms Hr)
 have eH:=gg l9.kp Gp DE (CQ l9 B)
 have mv:=gg la.kp Gq F0 (yK la B (ţ X G dC))
 have Hs:=gg lb.kp Gr F2 (AX lb B mv eH)
 have Ht:=gg lc.kp Gs F4 (AJ lc B mv eH)
 have Hu:=gg ld.kp Gv F6 (Em ld B eH)
 have Hv:=gg le.kp Gw F8 (Eg le B mu)
 have Hw:=gg lh.kp Gx Fy (C0 lh B eG Hv mu Hs Ht Hu)
 have Hx:=gg lk.kp Gy FA (yN lk B eG ms mt)
 have Hy:=gg ll.kp Gz FC (Ef ll B)
 have Hz:=gg lm.kp GA FE (Ee lm B)
 have HA:=gg ln.kp GB FG (CJ ln B Hz Hy)
 have HB:=gg lr.kp GC FI (yL lr)
 have HC:=gg ls.kp GD FK (AQ ls HB)
 have HD:=gg lu.kp GE FM (C5 lu B HC HA)
 have HE:=gg lv.kp GG FO (yM lv B YF aM)
 have HF:=gg lw.kp GH FQ (ux lw B YF aM)
 exact CZ FZ B Hx Hw Hq eG mr HD HE HF
def walk{l:PySem.W.OpenLaw}{q:ù}{loose:Ĉ}{XP:(ď)->ñ->Prop}{YP:ö->ñ->Prop}{d:DefRec}{K:Params->ò}(hn:l.most=some 63)(hdf:d.params.defaults=[])
  (hY:∀(w:ö) (h:ñ),YP w h->(K w.params).In h)
  (F:∀(w:ö) (mg:ď) (fa:ø) (h:ñ),YP w h->(K w.params).In h->h.Ns mainGlobals mg->mg d.name=some (.ref fa) ->
   ∃(fd:õ) (cc cd P1 P2:ø),(∀(s:ú) (u:ó),BindsTo s fd ⟨[u],[]⟩ [("_law_script",u)])/\PySem.W.codeHdIn (K w.params) cc P1=true/\PySem.W.codeHdIn (K w.params) cd P2=true/\P1≠P2/\h.get? P1=some (PySem.W.tabObj #[])/\h.get? P2=some (PySem.W.tabObj #[])/\PySem.W.noTabs (K w.params)=true /\
    ∀base:ñ,(K w.params).In base->BB mg base->NH l.prog w (K w.params) mg base Za 12 fa fd MO (nJ (K w.params) P1 P2)) :
  PySem.W.WalkO q loose XP YP l.row.toRowW d [] (λf vs=>PySem.call f vs) :=
 L2.we (n:=63) (k:=12) (x:="_law_script") (sp:=λw P1 P2=>nJ (K w.params) P1 P2) hn ζ hdf ⟨ϱ,ζ,ζ⟩ hY F λw P1 P2 H a ns hl hS hne h1 h2=>⟨a,ns,ϱ,hS,hl,hne,h1,h2,λ_=>rfl⟩
end K82
open PySem PySem.W PyProof.Rows
set_option maxRecDepth 100000 in
set_option maxHeartbeats 0 in
theorem PySem.Challenge.cw_pactroom_k82_papers_that_lie_holds : PySem.Challenge.rw_pactroom_k82_papers_that_lie.Holds := by
 w_on;o_law
 refine holds_open (q:=Q.qv) (loose:=Q.lo) (Xt:=Q.Xt) (XP:=XL Q.qv Q.lvv) (Yf:=Hook.obs (kmHook Q.Kf Q.Ka Q.ke [788,807])) (Ya:=Hook.val (kmHook Q.Kf Q.Ka Q.ke [788,807])) (YP:=Hook.says (kmHook Q.Kf Q.Ka Q.ke [788,807])) (N:=16186) Q.left (Hook.of (kmHook Q.Kf Q.Ka Q.ke [788,807])) (Hook.keeps (kmHook Q.Kf Q.Ka Q.ke [788,807])) (λs e=>xl_of s (Bool.and_eq_true_iff.mp e).1) XL.keeps (by rfl) (by rfl) (by rfl) (λs e=>recFacts_of (Bool.and_eq_true_iff.mp e).2) (by rfl) (by first | assumption | decide +kernel) (by decide +kernel) ⟨rfl,rfl,rfl,rfl,rfl,by decide +kernel⟩ ?hw ?hc
 (case hw=>w_witness2)
 k_fill
 refine K82.walk (l:=PySem.Challenge.rw_pactroom_k82_papers_that_lie) rfl rfl (λw h Y=>PySem.W.km_in_of Y) ?F
 case F =>
  intro w g j h Y f G d
  apply K82.all_mk f G d
  all_goals first | (delta K82.XF;k_is) | (delta K82.X0;k_is) | (delta K82.XN;k_is) | (delta K82.Xn;k_is) | exact ⟨⟨by k_is,by k_is,by k_is,by k_is⟩,by k_is,by k_is⟩ | (case hcc1=>exact rfl) | (case hPt1=>exact rfl) | (case hT1=>exact PySem.W.km_tabs_of Y _ (by k_mem)) | (case hcc2=>exact rfl) | (case hPt2=>exact rfl) | (case hT2=>exact PySem.W.km_tabs_of Y _ (by k_mem)) | (case hNe=>decide) | k_is | exact K82.fnx (by (apply K82.fb;first | exact λ_ _ _ _ _ _=>rfl | exact λ_ _ _ _ _ _ _=>rfl | exact λ_ _ _ _ _ _ _ _=>rfl | exact λ_ _ _ _ _ _ _ _ _=>rfl | exact λ_ _ _ _ _ _ _ _ _ _=>rfl | exact λ_ _ _ _ _ _ _ _ _ _ _=>rfl | exact λ_ _ _ _ _ _ _ _ _ _ _ _=>rfl)) (by k_is) (by k_is) (by k_is) (by k_is) | exact ⟨by k_is,K82.fnx (by (apply K82.fb;first | exact λ_ _ _ _ _ _=>rfl | exact λ_ _ _ _ _ _ _=>rfl | exact λ_ _ _ _ _ _ _ _=>rfl | exact λ_ _ _ _ _ _ _ _ _=>rfl | exact λ_ _ _ _ _ _ _ _ _ _=>rfl | exact λ_ _ _ _ _ _ _ _ _ _ _=>rfl | exact λ_ _ _ _ _ _ _ _ _ _ _ _=>rfl)) (by k_is) (by k_is) (by k_is) (by k_is)⟩ | kit_is | k_exc | kernel_rfl | skip
