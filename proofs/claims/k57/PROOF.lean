import PyProof.Rows.All
import Wide.All
import OpenK.AllK
import Wide.FinOn
import Lean
import PyProof.EqAt
import PyProof.EqKinds
import PyProof.TupleCall
import KE.KNestM
import KE.KLam
import PyProof.DictRoadsH
import PyProof.MeetsDict
import KE.KDictOf
import PyProof.DictUpdate
import PyProof.AttrMissHeap
import PySem.Challenge.RW_pactroom_k57_whole_one_house
set_option Elab.async false
set_option linter.all false
set_option genSizeOf false
set_option maxHeartbeats 4000000
set_option maxRecDepth 100000
noncomputable section
abbrev ν:=@List.length_map
abbrev ϕ:=@List.mem_cons
abbrev ϵ:=@List.mem_singleton
abbrev ϑ:=@List.mem_map
abbrev ϖ:=@Nat.zero_le
abbrev ϰ:=@True.intro
abbrev Ś:=@PySem.W.Fast.te14364793385576792824
abbrev ō:=@PySem.F.slot_dict_itemiterator_next
abbrev ĭ:=@PySem.W.Fast.te10110043849684766642
abbrev Ř:=@PySem.F.slot_dict_keyiterator_next
abbrev Ĺ:=@PySem.wpAny_typeNameOfWhole_itemiter
abbrev ĵ:=@PySem.wpAny_typeNameOfWhole_keyiter
abbrev Ď:=@List.mem_zipIdx_iff_getElem?
abbrev Ŭ:=@List.getD_eq_getElem?_getD
abbrev ť:=@List.getElem?_append_right
abbrev ž:=@List.getElem?_eq_some_iff
abbrev Ő:=@List.drop_eq_getElem_cons
abbrev ŀ:=@PySem.F.plain_extend_loop
abbrev Ŀ:=@List.getElem?_zip_eq_some
abbrev ĥ:=@PySem.wpAny_typeNameOf_itemiter
abbrev Ĥ:=@List.getElem?_append_left
abbrev Ů:=@Option.isSome_iff_exists
abbrev ě:=@PySem.wpAny_typeNameOf_keyiter
abbrev ų:=@Option.bind_eq_some_iff
abbrev Ŕ:=@PySem.F.plainAttrs_dict
abbrev Ę:=@PySem.wpAny_getItem_str_slice
abbrev Ė:=@PySem.wpAny_callSpecial?_slot
abbrev ſ:=@Option.map_eq_some_iff
abbrev Ń:=@PySem.Heap.get?_update_other
abbrev İ:=@List.getElem?_set_self
abbrev ē:=@PySem.F.entry_dict_get
abbrev Ē:=@PySem.F.plainAttrs_str
abbrev đ:=@PySem.Calls.callWith_builtin
abbrev ŧ:=@List.length_filter_le
abbrev Ŏ:=@PySem.Heap.get?_update_self
abbrev ľ:=@PySem.F.slot_dict_get
abbrev Ľ:=@PySem.wpAny_notOrdered_dict
abbrev Ħ:=@List.getElem?_eq_none
abbrev č:=@PySem.W.methodCall_KW
abbrev Č:=@Array.getElem?_toList
abbrev ċ:=@Bool.beq_eq_decide_eq
abbrev Ċ:=@PySem.F.slot_dict_pop
abbrev ż:=@Bool.and_eq_true_iff
abbrev Ÿ:=@List.mem_of_getElem?
abbrev ũ:=@List.mem_append_left
abbrev Ŧ:=@List.mem_iff_getElem
abbrev Ň:=@List.getElem?_set_ne
abbrev ķ:=@List.getElem?_of_mem
abbrev Ķ:=@PySem.Around.under_plainId
abbrev ą:=@PySem.Obj.data_mapDictKeys
abbrev ū:=@beq_eq_false_iff_ne
abbrev Ū:=@PySem.mem_of_lookup
abbrev Ť:=@List.filter_eq_self
abbrev ţ:=@PySem.Heap.SameBut.update
abbrev ŕ:=@Int.toNat_of_nonneg
abbrev ł:=@List.mem_map_of_mem
abbrev ı:=@List.filter_sublist
abbrev ź:=@Nat.lt_of_le_of_lt
abbrev ŷ:=@List.length_append
abbrev Ŷ:=@Nat.lt_of_lt_of_le
abbrev Ų:=@Bool.false_ne_true
abbrev ş:=@List.zip_cons_cons
abbrev œ:=@PySem.tupleKind_room_in1
abbrev Ŋ:=@List.mem_singleton
abbrev ň:=@Int.emod_lt_of_pos
abbrev ļ:=@PySem.wpAny_Call_Name_kw
abbrev ĸ:=@List.Sublist.nodup
abbrev Ĩ:=@List.getElem_range
abbrev ħ:=@List.length_zipIdx
abbrev Ĕ:=@PySem.W.callWith_K
abbrev Ź:=@List.getElem?_map
abbrev š:=@List.size_toArray
abbrev ś:=@PySem.wpAny_truthy_bool
abbrev ř:=@PySem.wpAny_dictEntries
abbrev ŏ:=@List.take_add_one
abbrev ń:=@Int.toNat_natCast
abbrev Ĵ:=@decide_eq_true_eq
abbrev Ġ:=@List.any_eq_false
abbrev Ğ:=@List.length_range
abbrev ĉ:=@Option.isSome_map
abbrev Ĉ:=@Nat.le_of_lt_succ
abbrev ű:=@List.length_take
abbrev Ũ:=@List.length_cons
abbrev Ţ:=@List.any_eq_true
abbrev ŗ:=@List.all_eq_true
abbrev ő:=@List.take_length
abbrev ņ:=@List.not_mem_nil
abbrev Ļ:=@List.getElem_map
abbrev ĺ:=@PySem.wpAny_call_entry
abbrev ī:=@Nat.lt_succ_self
abbrev Ī:=@List.getElem_mem
abbrev ĩ:=@List.Sublist.map
abbrev Ě:=@List.getElem_inj
abbrev ė:=@List.lookup_cons
abbrev ă:=@List.drop_length
abbrev Ă:=@Array.toList_inj
abbrev Ā:=@Bool.and_eq_true
abbrev ŵ:=@List.mem_filter
abbrev Ű:=@List.mem_append
abbrev ů:=@List.map_append
abbrev ŝ:=@List.nodup_cons
abbrev Œ:=@PySem.W.kia_one
abbrev ŋ:=@List.nil_append
abbrev Ł:=@List.length_zip
abbrev ĳ:=@List.append_nil
abbrev Ĳ:=@List.length_set
abbrev ģ:=@PySem.wpAny_passesOwn
abbrev Ģ:=@Bool.eq_iff_iff
abbrev ġ:=@Int.emod_nonneg
abbrev Đ:=@PySem.codeAny_builtin
abbrev ď:=@PySem.wpAny_dictEpoch
abbrev ÿ:=@PySem.size_of_entries
abbrev ŭ:=@List.nodup_nil
abbrev Ŝ:=@Bool.false_xor
abbrev ę:=@List.mem_range
abbrev Ć:=@PySem.Heap.size_push
abbrev Ŵ:=@List.map_cons
abbrev Ņ:=@Nat.lt_irrefl
abbrev Ĭ:=@PySem.wpAny_holding
abbrev ĝ:=@PySem.Paired.length
abbrev Ĝ:=@Bool.true_xor
abbrev Ş:=@Nat.lt_trans
abbrev Ō:=@List.map_map
abbrev į:=@Nat.ne_of_gt
abbrev Į:=@PySem.call_meetsIn
abbrev ĕ:=@Nat.le_of_lt
abbrev Ą:=@PySem.codeAny_mono
abbrev ā:=@Nat.sub_self
abbrev Ŗ:=@Int.le_refl
abbrev ğ:=@Nat.le_succ
abbrev þ:=@PySem.sizeLine_eq
abbrev Š:=@PySem.wpAny_mono
abbrev ć:=@beq_iff_eq
abbrev Ž:=@if_neg
abbrev Ż:=@if_pos
abbrev Ú:=@List
abbrev Û:=PySem.Expr
abbrev Ü:=PySem.Stmt
abbrev Ý:=PySem.Heap
abbrev Þ:=PySem.W.Frag
abbrev ß:=PySem.Value
abbrev à:=PySem.Around
abbrev á:=PySem.FuncData
abbrev â:=PySem.World
abbrev ã:=PySem.Addr
abbrev ä:=PySem.Program
abbrev å:=PySem.Shared
abbrev æ:=Array PySem.Value
abbrev è:=Option PySem.Value
abbrev ï:=List PySem.Expr
abbrev ð:=List PySem.Env
abbrev ñ:=List Nat
abbrev ò:=List Int
abbrev ó:=List PySem.Str
abbrev ô:=List PySem.Addr
abbrev õ:=List PySem.Value
abbrev ö:=List (PySem.Str×PySem.Addr)
abbrev û:=PySem.Str->Option PySem.Value
abbrev ü:=PySem.Value->PySem.Shared->Prop
abbrev ý:=List (PySem.Addr×PySem.Obj)
def ϱ.{u}{α:Sort u}{a:α}:a=a:=rfl
def θ{p:Prop}(h:p:=by decide +kernel):p:=h
def ζ{p:Prop}(h:p:=by decide):p:=h
def ω{p:Prop}(h:p:=by omega):p:=h
def χ{a b:Nat}(h:a.ble b=true:=by rfl):a<=b:=Nat.le_of_ble_eq_true h
abbrev ε:=@PySem.wpAny_bind
abbrev π:=@PySem.wpAny_pure
abbrev ϸ:=@PySem.Heap.get?_push_of_some
abbrev ξ:=@List.getElem?_eq_getElem
abbrev τ:=@decide_eq_true
abbrev υ:=@Nat.le_succ_of_le
abbrev ι:=@Nat.le_refl
abbrev η:=@PySem.Heap.lt_size
abbrev ϻ:=@PySem.Heap.get?_push_size
abbrev Γ:=@decide_eq_false
abbrev Δ:=@Option.some.inj
abbrev Θ:=@List.mem_cons_of_mem
abbrev Λ:=@Nat.le_trans
abbrev Ξ:=@of_decide_eq_true
abbrev Φ:=@Nat.ne_of_lt
abbrev Ψ:=@List.mem_append_right
abbrev Ω:=@List.mem_cons_self
open PySem.W (Frag)
namespace L2
open PySem PySem.Spec PyProof.Rows
abbrev Key:=Sum Int Str
noncomputable def iP:Key->ß->Bool
 | .inl k,v=>Value.isInt k v
 | .inr x,v=>Value.isStrOf x v
noncomputable def Hl(w:â):Key->Int
 | .inl k=>hashInt k
 | .inr x=>hashStr w x
theorem aJ:∀{k:Key} {v:ß},iP k v=true->(∃i t,k=Sum.inl i/\v=Value.int i t)\/(∃x t,k=Sum.inr x/\v=Value.str x t)
 | .inl i,v,h=>by
  obtain ⟨t,e⟩:=Value.isInt_shape (k:=i) (v:=v) h
  exact .inl ⟨i,t,ϱ,e⟩
 | .inr x,v,h=>by
  obtain ⟨t,e⟩:=Value.isStrOf_shape (x:=x) (v:=v) h
  exact .inr ⟨x,t,ϱ,e⟩
def tz(i:Int)(t:Tok):iP (.inl i) (.int i t)=true:=by simp [iP,Value.isInt]
def tw(x:Str)(t:Tok):iP (.inr x) (.str x t)=true:=by simp [iP,Value.isStrOf]
def Dm(a b:Int):decide ((Sum.inl a:Key)=Sum.inl b)=(a==b):=by
 by_cases e:a=b
 .subst e;simp
 .have h:¬(Sum.inl a:Key)=Sum.inl b:=λq=>e (Sum.inl.inj q)
  rw [Γ h]
  exact (ū.mpr e).symm
def Dj(a b:Str):decide ((Sum.inr a:Key)=Sum.inr b)=decide (a=b):=by
 by_cases e:a=b
 .subst e;simp
 .have h:¬(Sum.inr a:Key)=Sum.inr b:=λq=>e (Sum.inr.inj q)
  rw [Γ h,Γ e]
def Dl(a:Int)(b:Str):decide ((Sum.inl a:Key)=Sum.inr b)=false:=Γ (λq=>nomatch q)
def Dk(a:Str)(b:Int):decide ((Sum.inr a:Key)=Sum.inl b)=false:=Γ (λq=>nomatch q)
noncomputable def ay(prog:ä)(w:â):PySem.KeyKind prog w Key where
 is:=iP
 hash:=Hl w
 inj:=λv a b ha hb=>by
  rcases aJ ha with ⟨i,t,rfl,rfl⟩ | ⟨x,t,rfl,rfl⟩
  .rcases aJ hb with ⟨j,u,rfl,e⟩ | ⟨y,u,rfl,e⟩
   .injection e with e1 _;rw [e1]
   .exact nomatch e
  .rcases aJ hb with ⟨j,u,rfl,e⟩ | ⟨y,u,rfl,e⟩
   .exact nomatch e
   .injection e with e1 _;rw [e1]
 byValue:=λk v h=>by
  rcases aJ h with ⟨i,t,rfl,rfl⟩ | ⟨x,t,rfl,rfl⟩<;>rfl
 pyHash:=λhv h=>by
  rcases aJ hv with ⟨i,t,rfl,rfl⟩ | ⟨x,t,rfl,rfl⟩
  .exact wpAny_pyHash_int h
  .exact wpAny_pyHash_str h
 eqBool:=λhu hv h=>by
  rcases aJ hu with ⟨i,t,rfl,rfl⟩ | ⟨x,t,rfl,rfl⟩
  .rcases aJ hv with ⟨j,u,rfl,rfl⟩ | ⟨y,u,rfl,rfl⟩
   .rw [Dm] at h;exact wpAny_eqBool_int h
   .rw [Dl] at h;exact SeqAt.EqAt.int_str i t y u _ _ _ _ h
  .rcases aJ hv with ⟨j,u,rfl,rfl⟩ | ⟨y,u,rfl,rfl⟩
   .rw [Dk] at h;exact SeqAt.EqAt.str_int x t j u _ _ _ _ h
   .rw [Dj] at h;exact wpAny_eqBool_str h
 «strs» := fun k x t v h => by
  rcases aJ h with ⟨i,u,rfl,e⟩ | ⟨y,u,rfl,e⟩
  .exact nomatch e
  .injection e with e1 _
   subst e1
   cases v<;>rfl
def mL(prog:ä)(w:â)(i:Int)(t:Tok):(ay prog w).is (.inl i) (.int i t)=true:=tz i t
def mK(prog:ä)(w:â)(x:Str)(t:Tok):(ay prog w).is (.inr x) (.str x t)=true:=tw x t
inductive V where
 | non | bl (b:Bool) | int (i:Int) | str (x:Str) | byt (b:Array UInt8) | flt (b:UInt64) | ref (a:ã) | ty (n:String)
 deriving DecidableEq
def RelV:V->ß->Prop
 | .non,u=>u=Value.none
 | .bl b,u=>u=Value.bool b
 | .int i,u=>∃t,u=Value.int i t
 | .str x,u=>∃t,u=Value.str x t
 | .byt b,u=>∃t,u=Value.bytes b t
 | .flt b,u=>∃t,u=Value.float b t
 | .ref a,u=>u=Value.ref a
 | .ty n,u=>u=Value.type n
abbrev Vals:Ú V->õ->Prop:=Paired RelV
def Vals.length(r:Vals xs us):xs.length=us.length:=ĝ r
theorem Vals.get:∀{xs:Ú V} {us:õ} {i:Nat} {x:V},Vals xs us->xs[i]?=some x->∃u,us[i]?=some u/\RelV x u
 | _,_,_,_,.nil,e=>by simp at e
 | _,_,0,_,.cons r _,e=>by simp at e;subst e;exact ⟨_,rfl,r⟩
 | _,_,i+1,x,.cons _ t,e=>by
  obtain ⟨u,h1,h2⟩:=Vals.get (i:=i) (x:=x) t (by simpa using e)
  exact ⟨u,by simpa using h1,h2⟩
theorem Vals.set(r:RelV x u):∀{xs:Ú V} {us:õ} (i:Nat),Vals xs us->Vals (xs.set i x) (us.set i u)
 | _,_,_,.nil=>.nil
 | _,_,0,.cons _ t=>.cons r t
 | _,_,i+1,.cons q t=>.cons q (Vals.set r i t)
theorem Vals.append:∀{xs ys:Ú V} {us ws:õ},Vals xs us->Vals ys ws->Vals (xs++ys) (us++ws)
 | _,_,_,_,.nil,s=>s
 | _,_,_,_,.cons r t,s=>.cons r (Vals.append t s)
theorem Vals.take:∀{xs:Ú V} {us:õ} (n:Nat),Vals xs us->Vals (xs.take n) (us.take n)
 | _,_,0,_=>.nil
 | _,_,_+1,.nil=>.nil
 | _,_,n+1,.cons r t=>.cons r (Vals.take n t)
theorem Vals.drop:∀{xs:Ú V} {us:õ} (n:Nat),Vals xs us->Vals (xs.drop n) (us.drop n)
 | _,_,0,r=>r
 | _,_,_+1,.nil=>.nil
 | _,_,n+1,.cons _ t=>Vals.drop n t
def RelO:Option V->è->Prop
 | some v,some u=>RelV v u
 | none,none=>True
 | _,_=>False
def KV{κ:Type}:Ú (κ×V)->Ú (κ×ß)->Prop:=Paired λ(p:κ×V) (q:κ×ß)=>p.1=q.1/\RelV p.2 q.2
noncomputable def kV:Key->V
 | .inl i=>.int i
 | .inr x=>.str x
def IsTupN(h:Ý)(a:ã)(xs:æ):Prop:=∃o,h.get? a=some o/\(o.cls=.type "tuple"/\o.dict=none/\∃n,o.data=.seq xs n)
def IsTupN.tup(t:IsTupN h a xs):IsTup h a xs:=let ⟨o,e,c,_,n,d⟩:=t;⟨o,e,c,n,d⟩
def IsTupN.new(h:Ý)(items:æ):IsTupN (h.push {cls:=.type "tuple",data:=.seq items}) h.objs.size items:=⟨_,ϻ _ rfl,ϱ,ϱ,_,ϱ⟩
def IsTupN.lt(t:IsTupN h a xs):a<h.objs.size:=t.tup.lt
inductive HO where
 | lst (xs:Ú V)
 | tup (xs:Ú V)
 | dK (kvs:List (Key×V)) | dT (kvs:List (List Key×V))
 | set (S:Int->Bool) (n:Nat)
 | ins (C dx:ã) (fs:List (Str×V))
 | own (x:ã)
 | xd (fs:List (Str×V))
 | met (f x:ã)
 | rng (lo hi:Int)
 | frz (o:Obj) (u:HO)
 | tbl (ps:æ)
 | ext (φ:Ý->Prop)
abbrev Hp:=ã->Option HO
noncomputable def upd(H:Hp)(a:ã)(o:HO):Hp:=λb=>if b=a then some o else H b
def ai:upd H a o a=some o:=by unfold upd;rw [if_pos rfl]
def ah(h:b≠a):upd H a o b=H b:=by unfold upd;rw [if_neg h]
def qC{H:Hp}{a b:ã}{o u:HO}(h:H a=some o)(h':H b=some u)(d:o≠u):a≠b:=by
 intro e;subst e;rw [h] at h';exact d (Δ h')
def aj{H:Hp}{a b:ã}{o:HO}(h:H a=some o)(h':H b=none):a≠b:=by
 intro e;subst e;rw [h] at h';cases h'
section
variable (P:ä)(w:â)
def ObjOk(H:Hp)(h:Ý)(a:ã):HO->Prop
 | .lst xs=>xs.length<=sizeLine/\∃(its:õ) (n:Nat),Vals xs its/\h.get? a=some {cls:=.type "list",data:=.seq its.toArray n}
 | .tup xs=>xs.length<=sizeLine/\∃its:õ,Vals xs its/\IsTupN h a its.toArray
 | .dK kvs=>kvs.length<=sizeLine/\(a==sysModules)=false/\∃vs,KV kvs vs/\h.DictOf (ay P w) a vs
 | .dT kvs=>kvs.length<=sizeLine/\(a==sysModules)=false/\∃xs:Ú (Ú Key×Addr×ß),
   Paired (λ(p:Ú Key×V) (q:Ú Key×Addr×ß)=>p.1=q.1/\H q.2.1=some (.tup (p.1.map kV))/\RelV p.2 q.2.2) kvs xs /\
   ∃o es ep,h.get? a=some o/\o.ExactDict/\o.data=.dict es ep/\es.toList=xs.map (entryOfKey (tupleKind (ay P w)))/\(xs.map (·.1)).Nodup
 | .set S n=>h.SetOf (intKind P w) a S n
 | .ins C dx fs=>H dx=some (.own a)/\fs.length<=1000/\dx≠a/\h.get? a=some (PySem.W.instObj C dx) /\
   ∃mA,h.Ns1 dx mA/\(∀f,RelO (fs.lookup f) (mA f))/\PySem.Within mA (fs.map (·.1))
 | .own _=>∃o,h.get? a=some o
 | .xd fs=>∃mA,h.Ns1 a mA/\∀f,RelO (fs.lookup f) (mA f)
 | .rng lo hi=>∃t u v,h.get? a=some {cls:=.type "range",data:=.fields #[.int lo t,.int hi u,.int 1 v]}
 | .frz o u=>h.get? a=some o/\ObjOk H h a u
 | .tbl ps=>h.get? a=some {cls:=.none,data:=.fields ps}
 | .met f x=>h.get? a=some (PySem.W.methodObj (.ref f) (.ref x))
 | .ext φ=>φ h/\(∃o,h.get? a=some o)/\∀h1 h2:Ý,φ h1->(∀o,h1.get? a=some o->h2.get? a=some o)->φ h2
def HOk(H:Hp)(h:Ý):Prop:=∀a o,H a=some o->ObjOk P w H h a o
end
section
variable {P:ä}{w:â}{H H':Hp}{h h':Ý}{a:ã}{o:HO}
def ObjOk.lt(x:ObjOk P w H h a o):a<h.objs.size:=by
 cases o with
 | lst xs=>obtain ⟨_,_,_,_,e⟩:=x;exact η e
 | tup xs=>obtain ⟨_,_,_,p⟩:=x;exact p.lt
 | dK kvs=>obtain ⟨_,_,_,_,o,_,_,e,_⟩:=x;exact η e
 | dT kvs=>obtain ⟨_,_,_,_,o,_,_,e,_⟩:=x;exact η e
 | set S n=>obtain ⟨o,_,_,_,e,_⟩:=x;exact η e
 | ins C dx fs=>obtain ⟨_,_,_,e,_⟩:=x;exact η e
 | own y=>obtain ⟨_,e⟩:=x;exact η e
 | xd fs=>obtain ⟨_,⟨_,_,_,e,_⟩,_⟩:=x;exact η e
 | rng lo hi=>obtain ⟨_,_,_,e⟩:=x;exact η e
 | frz ob u=>obtain ⟨e,_⟩:=x;exact η e
 | tbl ps=>exact η (show h.get? a=some _ from x)
 | met f y=>exact η (show h.get? a=some _ from x)
 | ext φ=>obtain ⟨_,⟨_,e⟩,_⟩:=x;exact η e
theorem Paired.mapP{α β:Type}{F G:α->β->Prop}:∀{l₁:Ú α} {l₂:Ú β},Paired F l₁ l₂->(∀a b,F a b->G a b)->Paired G l₁ l₂
 | _,_,.nil,_=>.nil
 | _,_,.cons r t,f=>.cons (f _ _ r) (Paired.mapP t f)
def ObjOk.stay(x:ObjOk P w H h a o)(k:∀b u,(b=a\/H b=some (.own a))->h.get? b=some u->h'.get? b=some u)
  (L:∀b,H b=some (.own a)->H' b=some (.own a))(N:∀b xs,H b=some (.tup xs)->H' b=some (.tup xs)):ObjOk P w H' h' a o:=by
 induction o with
 | lst xs=>obtain ⟨z,m,n,r,e⟩:=x;exact ⟨z,m,n,r,k _ _ (.inl rfl) e⟩
 | tup xs=>obtain ⟨z,m,r,i,e,c⟩:=x;exact ⟨z,m,r,i,k _ _ (.inl rfl) e,c⟩
 | dK kvs=>obtain ⟨z,y,G,r,i,j,l,e,c⟩:=x;exact ⟨z,y,G,r,i,j,l,k _ _ (.inl rfl) e,c⟩
 | dT kvs =>
  obtain ⟨z,y,xs,r,i,j,l,e,c⟩:=x
  exact ⟨z,y,xs,Paired.mapP r λp q z=>⟨z.1,N _ _ z.2.1,z.2.2⟩,i,j,l,k _ _ (.inl rfl) e,c⟩
 | set S n=>obtain ⟨i,j,l,t,e,c⟩:=x;exact ⟨i,j,l,t,k _ _ (.inl rfl) e,c⟩
 | ins C dx fs =>
  obtain ⟨d,z,I,e,D,⟨F,j,l,K,c⟩,r⟩:=x
  exact ⟨L _ d,z,I,k _ _ (.inl rfl) e,D,⟨F,j,l,k _ _ (.inr d) K,c⟩,r⟩
 | own y=>obtain ⟨i,e⟩:=x;exact ⟨i,k _ _ (.inl rfl) e⟩
 | xd fs=>obtain ⟨D,⟨F,j,l,e,c⟩,r⟩:=x;exact ⟨D,⟨F,j,l,k _ _ (.inl rfl) e,c⟩,r⟩
 | rng lo hi=>obtain ⟨t,u,v,e⟩:=x;exact ⟨t,u,v,k _ _ (.inl rfl) e⟩
 | frz i u ih=>obtain ⟨e,q⟩:=x;exact ⟨k _ _ (.inl rfl) e,ih q⟩
 | tbl ps =>
  have e:h.get? a=some {cls:=.none,data:=.fields ps}:=x
  show h'.get? a=some {cls:=.none,data:=.fields ps}
  exact k a _ (.inl rfl) e
 | met f y =>
  have e:h.get? a=some (PySem.W.methodObj (.ref f) (.ref y)):=x
  show h'.get? a=some (PySem.W.methodObj (.ref f) (.ref y))
  exact k a _ (.inl rfl) e
 | ext φ=>obtain ⟨p,⟨o,e⟩,st⟩:=x;exact ⟨st _ _ p λo q=>k _ _ (.inl rfl) q,⟨o,k _ _ (.inl rfl) e⟩,st⟩
def HOk.lt(x:HOk P w H h)(e:H a=some o):a<h.objs.size:=(x a o e).lt
def HOk.fresh(x:HOk P w H h)(e:h.objs.size<=a):H a=none:=by
 cases q:H a with
 | none=>rfl
 | some u=>exact absurd (Ŷ (x.lt q) e) (Ņ _)
def HOk.kept(x:HOk P w H h)(k:∀b u,h.get? b=some u->h'.get? b=some u):HOk P w H h':=λa o e =>
 (x a o e).stay (λb u _ q=>k b u q) (λ_ q=>q) λ_ _ q=>q
def HOk.laid(x:HOk P w H h)(k:∀b u,h.get? b=some u->h'.get? b=some u)(hp:h.objs.size<=a)(new:ObjOk P w (upd H a o) h' a o):HOk P w (upd H a o) h':=λb u e=>by
 have hn:=x.fresh hp
 by_cases hb:b=a
 .subst hb;rw [ai] at e;cases e;exact new
 .rw [ah hb] at e
  exact (x b u e).stay (λc v _ q=>k c v q) (λc q=>by rw [ah (aj q hn)];exact q) λc xs q=>by rw [ah (aj q hn)];exact q
end
def Rd(H:Hp)(a:ã)(u:HO):Prop:=H a=some u\/∃o,H a=some (.frz o u)
def Rd.ok(r:Rd H a u)(x:HOk P w H h):ObjOk P w H h a u:=by
 rcases r with r | ⟨o,r⟩
 .exact x a u r
 .obtain ⟨_,q⟩:=x a _ r
  exact q
def Mut:Option HO->Prop
 | some (.lst _)=>True
 | some (.dK _)=>True
 | some (.dT _)=>True
 | some (.set _ _)=>True
 | some (.ins _ _ _)=>True
 | some (.ext _)=>True
 | _=>False
section
variable {P:ä}{w:â}{H:Hp}{h h':Ý}{x e:ã}{o':HO}
def HOk.write(ok:HOk P w H h)(a:Mut (H x))(i:e=x\/H e=some (.own x))(k:∀b u,b≠e->h.get? b=some u->h'.get? b=some u)(d:∃u,h'.get? e=some u)
  (new:ObjOk P w (upd H x o') h' x o'):HOk P w (upd H x o') h':=λb u q=>by
 have nown:∀c y,H c=some (.own y)->c≠x:=λc y r z=>by subst z;rw [r] at a;exact a
 have ntup:∀c xs,H c=some (.tup xs)->c≠x:=λc xs r z=>by subst z;rw [r] at a;exact a
 by_cases hb:b=x
 .subst hb;rw [ai] at q;cases q;exact new
 .rw [ah hb] at q
  by_cases hbe:b=e
  .have q':H b=some (.own x):=by
    rcases i with z | z
    .exact absurd (hbe.trans z) hb
    .rw [hbe];exact z
   rw [q] at q';cases q'
   obtain ⟨v,j⟩:=d
   exact ⟨v,by rw [hbe];exact j⟩
  .refine (ok b u q).stay (λc v hc r=>k c v ?_ r) (λc r=>by rw [ah (nown c b r)];exact r) λc xs r=>by rw [ah (ntup c xs r)];exact r
   rcases hc with rfl | hc
   .exact hbe
   .rintro rfl
    rcases i with z | z
    .exact nown c b hc z
    .rw [hc] at z;cases z;exact hb rfl
end
structure Un(fs ex:ô)(H H':Hp)(h h':Ý):Prop where
 keep:∀b o,h.get? b=some o->H b=none->b∉fs->b∉ex->h'.get? b=some o
 slot:∀b o,h.get? b=some o->H b=none->b∈fs->b∉ex->∃sl,h'.get? b=some {o with slots:=sl}
 free:∀b o,h.get? b=some o->H b=none->b∉ex->H' b=none
 there:∀b o,h.get? b=some o->b∉ex->∃o',h'.get? b=some o'
 tups:∀b xs,H b=some (.tup xs)->H' b=some (.tup xs)
 frzs:∀b o u,H b=some (.frz o u)->H' b=some (.frz o u)
 tbls:∀b ps,H b=some (.tbl ps)->∃more,H' b=some (.tbl (ps++more))
section
variable {fs fs' ex ex':ô}{H H1 H2:Hp}{h h1 h2 h':Ý}{a x e:ã}{o:HO}
def Un.any(u:Un fs ex H H1 h h1){b:ã}{a:Obj}(q:h.get? b=some a)(n:H b=none)(c:b∉ex):∃sl,h1.get? b=some {a with slots:=sl}:=by
 by_cases hb:b∈fs
 .exact u.slot b a q n hb c
 .exact ⟨a.slots,u.keep b a q n hb c⟩
def Un.kept(k:∀b u,h.get? b=some u->h'.get? b=some u):Un fs ex H H h h' :=
 ⟨λb ob q _ _ _=>k b ob q,λb ob q _ _ _=>⟨ob.slots,k b ob q⟩,λ_ _ _ n _=>n,λb ob q _=>⟨ob,k b ob q⟩,λ_ _ q=>q,λ_ _ _ q=>q,λ_ ps q=>⟨#[],by rw [q];simp⟩⟩
def Un.refl:Un fs ex H H h h:=Un.kept λ_ _ q=>q
def Un.laid(k:∀b u,h.get? b=some u->h'.get? b=some u)(hp:h.objs.size<=a)(hn:H a=none):Un fs ex H (upd H a o) h h' where
 keep:=λb u q _ _ _=>k b u q
 slot:=λb u q _ _ _=>⟨u.slots,k b u q⟩
 free:=λb u q n _=>by rw [ah (Φ (Ŷ (η q) hp))];exact n
 there:=λb u q _=>⟨u,k b u q⟩
 tups:=λb xs q=>by rw [ah (aj q hn)];exact q
 frzs:=λb u xs q=>by rw [ah (aj q hn)];exact q
 tbls:=λb ps q=>⟨#[],by rw [ah (aj q hn),q];simp⟩
def Un.write(a:Mut (H x))(m:e=x\/H e=some (.own x))(k:∀b u,b≠e->h.get? b=some u->h'.get? b=some u)(d:∃u,h'.get? e=some u):Un fs ex H (upd H x o) h h':=by
 have i:∀b,H b=none->b≠x:=λb n z=>by subst z;rw [n] at a;exact a
 have j:∀b,H b=none->b≠e:=λb n z=>by
  subst z
  rcases m with r | r
  .exact i b n r
  .rw [n] at r;cases r
 have c:∀b u,H b=some u->¬Mut (some u)->b≠x:=λb u q nm z=>by subst z;rw [q] at a;exact nm a
 refine ⟨λb u q n _ _=>k b u (j b n) q,λb u q n _ _=>⟨u.slots,k b u (j b n) q⟩,λb u q n _=>by rw [ah (i b n)];exact n,λb u q _=>?_,
  λb l q=>by rw [ah (c b _ q λz=>z)];exact q,λb u l q=>by rw [ah (c b _ q λz=>z)];exact q,λb p q=>⟨#[],by rw [ah (c b _ q λz=>z),q];simp⟩⟩
 by_cases hbe:b=e
 .subst hbe;exact d
 .exact ⟨u,k b u hbe q⟩
end
noncomputable def trk(h:Ý)(H:Hp):ô:=(List.range h.objs.size).filter λa=>(H a).isSome
noncomputable def iT(h:Ý)(H:Hp):Ý:=PySem.W.hideAll h (trk h H)
def tJ(h:Ý)(H:Hp):(iT h H).objs.size=h.objs.size:=PySem.W.hideAll_size _ _
def wb(e:h.get? b=some o)(n:H b=none):(iT h H).get? b=some o :=
 PySem.W.hideAll_get _ e λhm=>by
  have q:(H b).isSome=true:=(ŵ.mp hm).2
  rw [n] at q;simp at q
def ze(e:(iT h H).get? b=some o):h.get? b=some o/\H b=none:=by
 have a:h.get? b=some o:=PySem.W.of_hideAll (trk h H) e
 refine ⟨a,?_⟩
 cases q:H b with
 | none=>rfl
 | some x =>
  have c:b∈trk h H:=List.mem_filter.mpr ⟨List.mem_range.mpr (Heap.lt_size a),by simp [q]⟩
  have z:(iT h H).get? b=none:=PySem.W.hideAll_none (trk h H) c
  rw [z] at e;cases e
structure Mod(K:Þ)(mg:û)(base:Ý):Prop where
 kin:K.In base
 glob:base.Ns mainGlobals mg
 blt:∃mb,base.Ns builtinsNs mb/\∀x:Str,x≠"__name__"->mb x=bootBuiltins x
 nolimit:base.NoLimit
structure Cx where
 prog:ä
 w:â
 K:Þ
 mg:û
 base:Ý
 A:à
 N:ó
 s₀:å
 H₀:Hp
 env:Env
 outer:ð
 stack:ð
 ex:ô
 fn:Str->Bool
 calm:Bool
 pn:ý
 xe:ü
noncomputable def frs(l:ð):ô:=l.filterMap (·.frame)
abbrev Cx.fs(X:Cx):ô:=frs X.outer
def Vis(sc:Scope)(x:Str):Prop:=sc.names.lookup x=some .local\/sc.names.lookup x=some .cell\/sc.names.lookup x=some .free
def Loc(sc:Scope)(x:Str):Prop:=sc.names.lookup x=some .local\/sc.names.lookup x=some .cell
def HS(env:Env)(h:Ý)(m:û)(x:Str)(u:ß):Prop :=
 (env.kindOf x=some .local/\m x=some u)\/((env.kindOf x=some .cell\/env.kindOf x=some .free)/\∃c,env.cells.lookup x=some c/\h.IsCell c (some u))
structure Cx.Ok(X:Cx):Prop where
 mod:Mod X.K X.mg X.base
 kind:X.env.scope.kind=.function
 glob:X.env.globals=mainGlobals
 blt:X.env.builtins=builtinsNs
 above:X.s₀.heap.objs.size<=X.env.locals
 inj:∀x y c,X.env.cells.lookup x=some c->X.env.cells.lookup y=some c->x=y
 has:∀x,(X.env.kindOf x=some .cell\/X.env.kindOf x=some .free)->∃c,X.env.cells.lookup x=some c
 cab:∀x c,X.fn x=true->X.env.cells.lookup x=some c->X.s₀.heap.objs.size<=c
 hd:X.calm=true->X.A.handled=none
 frames:X.A.frames=some X.stack
 stk:X.stack=X.outer\/(X.stack=X.env::X.outer/\X.env.frame=some X.env.locals)
 exf:∀b∈X.ex,b≠X.env.locals/\∀x c,X.env.cells.lookup x=some c->c≠b
 bs:∀b o,X.base.get? b=some o->X.s₀.heap.get? b=some o/\X.H₀ b=none
 bsz:X.base.objs.size<=X.s₀.heap.objs.size
 noex:∀b o,X.base.get? b=some o->b∉X.ex
 exfs:∀b∈X.ex,b∉X.fs
 funs:X.s₀.heap.FunFrames X.base X.outer
 frf:∀b∈X.fs,X.H₀ b=none
structure Inv(X:Cx)(pins:ý)(σ:Ú (Option V))(H:Hp)(s:å):Prop where
 ok:X.Ok
 os:s.os=X.s₀.os
 bare:AllBare s.gens
 base:Un X.fs X.ex X.H₀ H X.s₀.heap s.heap
 loc:∃m,s.heap.Ns X.env.locals m/\∀(i:Nat) (x:Str) (v:V),X.N[i]?=some x->σ[i]?=some (some v)->Vis X.env.scope x->∃u,RelV v u/\HS X.env s.heap m x u
 cell:∀x c,X.env.cells.lookup x=some c->∃v,s.heap.IsCell c v
 free:H X.env.locals=none
 freeC:∀x c,X.env.cells.lookup x=some c->H c=none
 pin:∀p∈X.pn++pins,s.heap.get? p.1=some p.2/\H p.1=none/\p.1≠X.env.locals/\p.1∉X.fs/\∀v,p.2.data≠.cell v
 hok:HOk X.prog X.w H s.heap
 len:σ.length=X.N.length
section
variable {X:Cx}{pins:ý}{σ:Ú (Option V)}{H H':Hp}{s:å}{h':Ý}
def Cx.Ok.nofr(ok:X.Ok)(e:X.base.get? b=some o):b∉X.fs:=λhb=>by
 have:=(ok.funs.mem hb).1
 rw [e] at this;cases this
def Inv.bs(I:Inv X pins σ H s):∀b o,X.base.get? b=some o->s.heap.get? b=some o/\H b=none:=λb o e =>
 ⟨I.base.keep b o (I.ok.bs b o e).1 (I.ok.bs b o e).2 (I.ok.nofr e) (I.ok.noex b o e),I.base.free b o (I.ok.bs b o e).1 (I.ok.bs b o e).2 (I.ok.noex b o e)⟩
def Inv.bk(I:Inv X pins σ H s):∀b o,X.base.get? b=some o->s.heap.get? b=some o:=λb o e=>(I.bs b o e).1
def Inv.mod(I:Inv X pins σ H s):Mod X.K X.mg X.base:=I.ok.mod
def Inv.kIn(I:Inv X pins σ H s):X.K.In s.heap:=I.ok.mod.kin.keeps I.bk
def Inv.lt(I:Inv X pins σ H s):X.env.locals<s.heap.objs.size:=let ⟨_,hn,_⟩:=I.loc;hn.lt
def Inv.sz(I:Inv X pins σ H s):X.s₀.heap.objs.size<=s.heap.objs.size:=Λ I.ok.above (ĕ I.lt)
def Inv.nofs(I:Inv X pins σ H s)(h:s.heap.objs.size<=a):a∉X.fs:=λhb=>by
 obtain ⟨_,o,ho,_⟩:=I.ok.funs.mem hb
 exact absurd (Ŷ (η ho) (Λ I.sz h)) (Ņ _)
def Inv.cne(I:Inv X pins σ H s):∀x c,X.env.cells.lookup x=some c->c≠X.env.locals:=λx c e z=>by
 obtain ⟨v,o,ho,hd⟩:=I.cell x c e
 obtain ⟨m,⟨o',es,ep,ho',hd',_⟩,_⟩:=I.loc
 rw [z,ho'] at ho;cases ho;rw [hd'] at hd;cases hd
def Inv.funs(I:Inv X pins σ H s):s.heap.FunFrames X.base X.outer:=by
 have all:∀(l:ð),(∀b∈frs l,b∈X.fs)->X.s₀.heap.FunFrames X.base l->s.heap.FunFrames X.base l:=by
  intro l
  induction l with
  | nil=>intro _ _;trivial
  | cons env r ih =>
   intro h q
   obtain ⟨i,⟨L,o,a,j,m,n⟩,p⟩:=q
   have c:L∈X.fs:=h L (by unfold frs;rw [List.filterMap_cons,a];exact List.mem_cons_self)
   obtain ⟨u,e⟩:=I.base.slot L o m (I.ok.frf L c) c λz=>I.ok.exfs L z c
   exact ⟨i,⟨L,_,a,j,e,n⟩,ih (λb d=>h b (by unfold frs;rw [List.filterMap_cons,a];exact List.mem_cons_of_mem _ d)) p⟩
 exact all X.outer (λ_ d=>d) I.ok.funs
def Inv.stack(I:Inv X pins σ H s):s.heap.FunFrames X.base X.stack:=by
 rcases I.ok.stk with e | ⟨e,hf⟩
 .rw [e];exact I.funs
 .rw [e]
  obtain ⟨m,a,_⟩:=I.loc
  refine .cons (by rw [I.ok.kind];decide) hf a ?_ I.funs
  exact Heap.get?_none_of_le (Λ I.ok.bsz I.ok.above)
def Inv.stkSub(I:Inv X pins σ H s):∀b∈frs X.stack,b∈X.env.locals::X.fs:=λb hb=>by
 rcases I.ok.stk with e | ⟨e,hf⟩
 .rw [e] at hb;exact Θ _ hb
 .rw [e] at hb
  unfold frs at hb
  rw [List.filterMap_cons,hf] at hb
  exact hb
def Inv.stkFree(I:Inv X pins σ H s):∀b∈frs X.stack,H b=none:=λb hb=>by
 rcases ϕ.mp (I.stkSub b hb) with e | hb
 .rw [e];exact I.free
 .obtain ⟨_,o,ho,_⟩:=I.ok.funs.mem hb
  exact I.base.free b o ho (I.ok.frf b hb) λz=>I.ok.exfs b z hb
def Inv.step{g':Array GenState}{t':Nat}{d':Drawn}{ch:ô}(I:Inv X pins σ H s)
  (C:∀b∈ch,(b∈X.ex\/X.s₀.heap.objs.size<=b)/\b≠X.env.locals/\(∀x c,X.env.cells.lookup x=some c->c≠b)/\∀p∈X.pn++pins,p.1≠b)
  (keep:∀b o,b≠X.env.locals->b∉X.fs->b∉ch->s.heap.get? b=some o->H b=none->h'.get? b=some o)
  (slot:∀b o,b≠X.env.locals->b∈X.fs->b∉ch->s.heap.get? b=some o->H b=none->∃sl,h'.get? b=some {o with slots:=sl})(h:∀b o,b∉ch->s.heap.get? b=some o->H b=none->H' b=none)
  (there:∀b o,b∉ch->s.heap.get? b=some o->∃o',h'.get? b=some o')
  (O:∀b xs,H b=some (.tup xs)->H' b=some (.tup xs))(Q:∀b o u,H b=some (.frz o u)->H' b=some (.frz o u))(S:∀b ps,H b=some (.tbl ps)->∃more,H' b=some (.tbl (ps++more)))
  (ns:∀m,s.heap.Ns X.env.locals m->h'.Ns X.env.locals m)(Z:HOk X.prog X.w H' h')(hg:AllBare g') :
  Inv X pins σ H' {s with heap:=h',gens:=g',drawn:=d',toks:=t'}:=by
 have N:∀b o,X.s₀.heap.get? b=some o->b≠X.env.locals:=λb o e=>Φ (Ŷ (η e) I.ok.above)
 have F:∀b o,X.s₀.heap.get? b=some o->b∉X.ex->b∉ch:=λb o e a G=>by
  rcases (C b G).1 with z | z
  .exact a z
  .exact absurd (Ŷ (η e) z) (Ņ _)
 have j:∀x c,X.env.cells.lookup x=some c->∀v,s.heap.IsCell c v->h'.IsCell c v:=λx c e v ⟨o,K,Y⟩=>by
  have y:c∉ch:=λz=>(C c z).2.2.1 x c e rfl
  by_cases hc:c∈X.fs
  .obtain ⟨sl,q⟩:=slot c o (I.cne x c e) hc y K (I.freeC x c e)
   exact ⟨_,q,Y⟩
  .exact ⟨o,keep c o (I.cne x c e) hc y K (I.freeC x c e),Y⟩
 refine ⟨I.ok,I.os,hg,⟨λb o e n G a=>?_,λb o e n G a=>?_,λb o e n a=>?_,λb o e a=>?_,λb xs e=>O b xs (I.base.tups b xs e),λb o xs e=>Q b o xs (I.base.frzs b o xs e),λb ps e=>?_⟩,?_,λx c e=>?_,?_,λx c e=>?_,λp hp=>?_,Z,I.len⟩
 .exact keep b o (N b o e) G (F b o e a) (I.base.keep b o e n G a) (I.base.free b o e n a)
 .obtain ⟨sl,D⟩:=I.base.slot b o e n G a
  obtain ⟨U,L⟩:=slot b _ (N b o e) G (F b o e a) D (I.base.free b o e n a)
  exact ⟨U,L⟩
 .obtain ⟨o',D⟩:=I.base.there b o e a
  exact h b o' (F b o e a) D (I.base.free b o e n a)
 .obtain ⟨o',D⟩:=I.base.there b o e a
  exact there b o' (F b o e a) D
 .obtain ⟨m1,D⟩:=I.base.tbls b ps e
  obtain ⟨m2,L⟩:=S b _ D
  exact ⟨m1++m2,by rw [L,Array.append_assoc]⟩
 .obtain ⟨m,hn,hl⟩:=I.loc
  refine ⟨m,ns m hn,λi x v D L e3=>?_⟩
  obtain ⟨u,r,l⟩:=hl i x v D L e3
  refine ⟨u,r,?_⟩
  rcases l with l | ⟨k,c,e,z⟩
  .exact .inl l
  .exact .inr ⟨k,c,e,j x c e _ z⟩
 .obtain ⟨v,z⟩:=I.cell x c e
  exact ⟨v,j x c e v z⟩
 .obtain ⟨m,⟨o,_,_,K,_⟩,_⟩:=I.loc
  exact h _ o (λz=>(C _ z).2.1 rfl) K I.free
 .obtain ⟨v,o,K,Y⟩:=I.cell x c e
  exact h c o (λz=>(C c z).2.2.1 x c e rfl) K (I.freeC x c e)
 .obtain ⟨e,n,ne,nf,d⟩:=I.pin p hp
  have y:p.1∉ch:=λz=>(C p.1 z).2.2.2 p hp rfl
  exact ⟨keep p.1 p.2 ne nf y e n,h p.1 p.2 y e n,ne,nf,d⟩
def Inv.un{t':Nat}(I:Inv X pins σ H s)(u:Un X.fs [] H H' s.heap h')(i:HOk X.prog X.w H' h'):Inv X pins σ H' {s with heap:=h',toks:=t'}:=by
 obtain ⟨m,⟨o,v,x,j,r⟩,_⟩:=id I.loc
 obtain ⟨y,l⟩:=u.any j I.free (by simp)
 exact I.step (g':=s.gens) (d':=s.drawn) (ch:=[]) (λ_ z=>nomatch z) (λb o _ h _ e n=>u.keep b o e n h (by simp)) (λb o _ h _ e n=>u.slot b o e n h (by simp)) (λb o _ e n=>u.free b o e n (by simp)) (λb o _ e=>u.there b o e (by simp)) u.tups u.frzs u.tbls (λD q=>by
  obtain ⟨C,c,d,a,p⟩:=q
  rw [j] at a;cases a
  exact ⟨_,c,d,l,p⟩) i I.bare
def Inv.call{g':Array GenState}{t':Nat}{d':Drawn}{ch:ô}(I:Inv X pins σ H s)(u:Un (frs X.stack) ch H H' s.heap h')(q:HOk X.prog X.w H' h')(F:AllBare g')
  (h:∀b∈ch,(b∈X.ex\/X.s₀.heap.objs.size<=b)/\b≠X.env.locals/\(∀x c,X.env.cells.lookup x=some c->c≠b)/\∀p∈X.pn++pins,p.1≠b) :
  Inv X pins σ H' {s with heap:=h',gens:=g',drawn:=d',toks:=t'}:=by
 obtain ⟨m,⟨o,G,K,v,r⟩,_⟩:=id I.loc
 obtain ⟨L,i⟩:=u.any v I.free λz=>(h _ z).2.1 rfl
 exact I.step (ch:=ch) h (λb o i C a e n=>u.keep b o e n (λz=>(ϕ.mp (I.stkSub b z)).elim i C) a) (λb o _ _ a e n=>u.any e n a) (λb o a e n=>u.free b o e n a) (λb o a e=>u.there b o e a) u.tups u.frzs u.tbls (λO D=>by
  obtain ⟨N,j,l,d,y⟩:=D
  rw [v] at d;cases d
  exact ⟨_,j,l,i,y⟩) q F
def Inv.turned{t':Nat}{it:ã}(I:Inv X pins σ H s)(k:∀b o,b≠it->s.heap.get? b=some o->h'.get? b=some o)(C:H it=none)(h:it≠X.env.locals)
  (h1:it∈X.ex\/X.s₀.heap.objs.size<=it)(D:∀x c,X.env.cells.lookup x=some c->c≠it)(F:∀p∈X.pn++pins,p.1≠it):Inv X pins σ H {s with heap:=h',toks:=t'}:=by
 have d:∀b u,H b=some u->b≠it:=λb u e z=>by rw [z,C] at e;cases e
 refine I.step (g':=s.gens) (d':=s.drawn) (ch:=[it]) (λb w=>?_) (λb o _ _ a e _=>k b o (λz=>a (by simp [z])) e) (λb o _ _ a e _=>⟨o.slots,k b o (λz=>a (by simp [z])) e⟩) (λ_ _ _ _ n=>n)
  (λb o a e=>⟨o,k b o (λz=>a (by simp [z])) e⟩) (λ_ _ e=>e) (λ_ _ _ e=>e) (λb G e=>⟨#[],by rw [e];simp⟩) (λm y=>?_) (λb u e=>?_) I.bare
 .have e:b=it:=by simpa using w
  subst e
  exact ⟨h1,h,D,F⟩
 .obtain ⟨o,i,j,l,r⟩:=y
  exact ⟨o,i,j,k _ o (Ne.symm h) l,r⟩
 .refine (I.hok b u e).stay (λc v a q=>k c v ?_ q) (λ_ q=>q) λ_ _ q=>q
  rcases a with z | z
  .rw [z];exact d b u e
  .exact d c _ z
def Inv.tok(I:Inv X pins σ H s)(t:Nat):Inv X pins σ H {s with toks:=t}:=I.un (h':=s.heap) (t':=t) Un.refl I.hok
def Inv.kept(I:Inv X pins σ H s)(k:∀b u,s.heap.get? b=some u->h'.get? b=some u):Inv X pins σ H {s with heap:=h',toks:=t'}:=I.un (Un.kept k) (I.hok.kept k)
def Inv.laid(I:Inv X pins σ H s)(k:∀b u,s.heap.get? b=some u->h'.get? b=some u)(hp:s.heap.objs.size<=a)(new:ObjOk X.prog X.w (upd H a o) h' a o) :
  Inv X pins σ (upd H a o) {s with heap:=h',toks:=t'}:=I.un (Un.laid k hp (I.hok.fresh hp)) (I.hok.laid k hp new)
def Inv.write(I:Inv X pins σ H s)(mu:Mut (H x))(he:e=x\/H e=some (.own x))(k:∀b u,b≠e->s.heap.get? b=some u->h'.get? b=some u)(heo:∃u,h'.get? e=some u)
  (new:ObjOk X.prog X.w (upd H x o) h' x o):Inv X pins σ (upd H x o) {s with heap:=h',toks:=t'}:=I.un (Un.write mu he k heo) (I.hok.write mu he k heo new)
def Inv.weak(I:Inv X pins σ H s)(hl:σ'.length=σ.length)(w:∀(i:Nat) v,σ'[i]?=some (some v)->σ[i]?=some (some v)):Inv X pins σ' H s :=
 ⟨I.ok,I.os,I.bare,I.base,let ⟨m,hn,hl'⟩:=I.loc;⟨m,hn,λi x v e1 e2 e3=>hl' i x v e1 (w i v e2) e3⟩,I.cell,I.free,I.freeC,I.pin,I.hok,hl.trans I.len⟩
def Inv.pins_of(I:Inv X pins σ H s)(h:∀p∈pins',s.heap.get? p.1=some p.2/\H p.1=none/\p.1≠X.env.locals/\p.1∉X.fs/\∀v,p.2.data≠.cell v):Inv X pins' σ H s :=
 ⟨I.ok,I.os,I.bare,I.base,I.loc,I.cell,I.free,I.freeC,λp hp=>(Ű.mp hp).elim (λz=>I.pin p (ũ _ z)) (h p),I.hok,I.len⟩
def mJ{N:ó}(e:N.Nodup){i j:Nat}{x:Str}(a:N[i]?=some x)(b:N[j]?=some x):i=j:=by
 obtain ⟨h1,c⟩:=ž.mp a
 obtain ⟨h,d⟩:=ž.mp b
 exact (Ě e).mp (c.trans d.symm)
def jF{M:Model}{A:à}{E:ü}{i:Nat}{x:Str}{v:V}{u:ß}{Q:Unit->å->Prop}(I:Inv X pins σ H s)(hN:X.N.Nodup)(hi:X.N[i]?=some x)(F:Loc X.env.scope x)(r:RelV v u)
  (h:∀s',Inv X pins (σ.set i (some v)) H s'->(∃a,Heap.SameBut a s.heap s'.heap/\(a=X.env.locals\/X.env.cells.lookup x=some a))->Q () s')(hf:X.fn x=true\/X.env.scope.names.lookup x=some .local:=by first | exact .inl rfl | exact .inr rfl | assumption):wpAny M A (storeName X.env x u) Q E s:=by
 obtain ⟨m,hn,hl⟩:=id I.loc
 have Y:(X.env.scope.kind==.class||(X.env.scope.kind==.module&&X.env.locals != X.env.globals))=false:=by rw [I.ok.kind];rfl
 have Z:i<σ.length:=by rw [I.len];exact (ž.mp hi).1
 have cne:=I.cne
 have D:∀{a:ã} {h':Ý},(∃o,s.heap.get? a=some o/\H a=none)->Heap.SameBut a s.heap h'->HOk X.prog X.w H h':=λ{a h'} ha l b ob e=>by
  obtain ⟨_,_,G⟩:=ha
  refine (I.hok b ob e).stay (λc w' hc q=>(l.2 c ?_).trans q) (λ_ q=>q) λ_ _ q=>q
  rintro rfl
  rcases hc with rfl | hc
  .rw [G] at e;cases e
  .rw [G] at hc;cases hc
 rcases F with hk | hk
 .refine wpAny_storeName_local hk hn (λh' an l=>?_) Y
  obtain ⟨oL,_,_,a8,_⟩:=id hn
  refine h _ ⟨I.ok,I.os,I.bare,⟨λb o e n O F=>?_,λb o e n O F=>?_,I.base.free,λb o e F=>?_,I.base.tups,I.base.frzs,I.base.tbls⟩,⟨_,an,λj y v' C K e3=>?_⟩,λy c e=>?_,I.free,I.freeC,λp hp=>?_,D ⟨oL,a8,I.free⟩ l,by simpa using I.len⟩ ⟨_,l,.inl rfl⟩
  .exact (l.2 b (Φ (Ŷ (η e) I.ok.above))).trans (I.base.keep b o e n O F)
  .obtain ⟨sl,C⟩:=I.base.slot b o e n O F
   exact ⟨sl,(l.2 b (Φ (Ŷ (η e) I.ok.above))).trans C⟩
  .obtain ⟨o',C⟩:=I.base.there b o e F
   exact ⟨o',(l.2 b (Φ (Ŷ (η e) I.ok.above))).trans C⟩
  .by_cases hj:j=i
   .subst hj
    rw [hi] at C;cases C
    rw [İ Z] at K
    cases K
    exact ⟨u,r,.inl ⟨hk,by simp⟩⟩
   .rw [Ň (Ne.symm hj)] at K
    obtain ⟨u',r',q⟩:=hl j y v' C K e3
    refine ⟨u',r',?_⟩
    rcases q with ⟨k,e⟩ | ⟨k,c,e,z⟩
    .refine .inl ⟨k,?_⟩
     have:y≠x:=λe=>hj (mJ hN C (e▸hi))
     simp [this,e]
    .exact .inr ⟨k,c,e,z.sameBut l (cne y c e)⟩
  .obtain ⟨w',z⟩:=I.cell y c e
   exact ⟨w',z.sameBut l (cne y c e)⟩
  .obtain ⟨e,n,ne,nf,d⟩:=I.pin p hp
   exact ⟨(l.2 p.1 ne).trans e,n,ne,nf,d⟩
 .have L:X.fn x=true:=by
   rcases hf with z | z
   .exact z
   .rw [z] at hk;cases hk
  obtain ⟨c,hc⟩:=I.ok.has x (.inl hk)
  obtain ⟨w',z⟩:=I.cell x c hc
  refine wpAny_storeName_cell I.ok.kind hk hc z (λh' a0 l=>?_)
  obtain ⟨oc,S,U⟩:=id z
  refine h {s with heap:=h'} ⟨I.ok,I.os,I.bare,⟨λb o e n O F=>?_,λb o e n O F=>?_,I.base.free,λb o e F=>?_,I.base.tups,I.base.frzs,I.base.tbls⟩,⟨m,hn.sameBut l (Ne.symm (cne x c hc)),λj y v' C K e3=>?_⟩,λy c' e=>?_,I.free,I.freeC,λp hp=>?_,D ⟨oc,S,I.freeC x c hc⟩ l,by simpa using I.len⟩ ⟨c,l,.inr hc⟩
  .exact (l.2 b (Φ (Ŷ (η e) (I.ok.cab x c L hc)))).trans (I.base.keep b o e n O F)
  .obtain ⟨sl,C⟩:=I.base.slot b o e n O F
   exact ⟨sl,(l.2 b (Φ (Ŷ (η e) (I.ok.cab x c L hc)))).trans C⟩
  .obtain ⟨o',C⟩:=I.base.there b o e F
   exact ⟨o',(l.2 b (Φ (Ŷ (η e) (I.ok.cab x c L hc)))).trans C⟩
  .by_cases hj:j=i
   .subst hj
    rw [hi] at C;cases C
    rw [İ Z] at K
    cases K
    exact ⟨u,r,.inr ⟨.inl hk,c,hc,a0⟩⟩
   .rw [Ň (Ne.symm hj)] at K
    obtain ⟨u',r',q⟩:=hl j y v' C K e3
    refine ⟨u',r',?_⟩
    rcases q with q | ⟨k,c',e,z'⟩
    .exact .inl q
    .refine .inr ⟨k,c',e,z'.sameBut l ?_⟩
     rintro rfl
     exact hj (mJ hN C (I.ok.inj _ _ _ e hc▸hi))
  .by_cases hcc:c'=c
   .subst hcc;exact ⟨_,a0⟩
   .obtain ⟨w2,z2⟩:=I.cell y c' e
    exact ⟨w2,z2.sameBut l hcc⟩
  .obtain ⟨e,n,ne,nf,d⟩:=I.pin p hp
   refine ⟨(l.2 p.1 ?_).trans e,n,ne,nf,d⟩
   intro q
   rw [q,S] at e
   have q':oc=p.2:=Δ e
   exact d w' (by rw [← q'];exact U)
def mh{E:ü}{Q:Unit->å->Prop}(I:Inv X pins σ H s)(hN:X.N.Nodup)(hi:X.N[i]?=some x)(hx:Loc X.env.scope x)(r:RelV v u)
  (h:∀s',Inv X pins (σ.set i (some v)) H s'->Q () s')(hf:X.fn x=true\/X.env.scope.names.lookup x=some .local:=by first | exact .inl rfl | exact .inr rfl | assumption):wpAny M A (storeName X.env x u) Q E s :=
 jF I hN hi hx r (λs' I' _=>h s' I') hf
def Inv.call'(I:Inv X pins σ H s)(i:s'.os=s.os)(u:Un (frs X.stack) ch H H' s.heap s'.heap)(a:HOk X.prog X.w H' s'.heap)(j:AllBare s'.gens)
  (d:∀b∈ch,(b∈X.ex\/X.s₀.heap.objs.size<=b)/\b≠X.env.locals/\(∀x c,X.env.cells.lookup x=some c->c≠b)/\∀p∈X.pn++pins,p.1≠b):Inv X pins σ H' s':=by
 obtain ⟨h',g',d',t',h⟩:=s'
 have e:h=s.os:=i
 subst e
 exact I.call (g':=g') (t':=t') (d':=d') u a j d
end
abbrev XK:=ß->Option ã->Hp->Prop
abbrev St:=Ú (Option V)
abbrev VK:=V->Hp->Prop
abbrev TE:=St->Hp->VK->Prop
abbrev TT:=St->Hp->(Bool->Hp->Prop)->Prop
abbrev TA:=St->Hp->(Ú V->Hp->Prop)->Prop
structure uf where
 nx:St->Hp->Prop
 rt:VK
 bk:St->Hp->Prop:=λ_ _=>False
 ct:St->Hp->Prop:=λ_ _=>False
abbrev TS:=uf->St->Hp->Prop
def EP(X:Cx)(pins:ý)(σ:St)(Q:VK)(u:ß)(s':å):Prop:=∃v H',Inv X pins σ H' s'/\RelV v u/\Q v H'
def TP(X:Cx)(pins:ý)(σ:St)(Q:Bool->Hp->Prop)(b:Bool)(s':å):Prop:=∃H',Inv X pins σ H' s'/\Q b H'
def AP(X:Cx)(pins:ý)(σ:St)(Q:Ú V->Hp->Prop)(us:õ)(s':å):Prop:=∃vs H',Inv X pins σ H' s'/\Vals vs us/\Q vs H'
def SP(X:Cx)(pins:ý)(D:uf)(f:Flow)(s':å):Prop :=
 match f with
 | .next=>∃σ' H',Inv X pins σ' H' s'/\D.nx σ' H'
 | .brk=>∃σ' H',Inv X pins σ' H' s'/\D.bk σ' H'
 | .cont=>∃σ' H',Inv X pins σ' H' s'/\D.ct σ' H'
 | .ret u=>∃v σ' H',Inv X pins σ' H' s'/\RelV v u/\D.rt v H'
def PE(X:Cx)(e:Û)(t:TE):Prop :=
 ∀(pins:ý) (s:å) (σ:St) (H:Hp) (Q:VK),Inv X pins σ H s->t σ H Q->wpAny (model X.prog X.w) X.A (eval e X.env) (EP X pins σ Q) X.xe s
def PT(X:Cx)(e:Û)(t:TT):Prop :=
 ∀(pins:ý) (s:å) (σ:St) (H:Hp) (Q:Bool->Hp->Prop),Inv X pins σ H s->t σ H Q->wpAny (model X.prog X.w) X.A (isTrue e X.env (eval e X.env)) (TP X pins σ Q) X.xe s
def PW(X:Cx)(e:Û)(t:TT):Prop :=
 ∀(whole:Sem ß) (pins:ý) (s:å) (σ:St) (H:Hp) (Q:Bool->Hp->Prop),Inv X pins σ H s->t σ H Q->wpAny (model X.prog X.w) X.A (isTrue e X.env whole) (TP X pins σ Q) X.xe s
def PW.pt(h:PW X e t):PT X e t:=h _
def PA(X:Cx)(es:ï)(t:TA):Prop :=
 ∀(pos:Pos) (pins:ý) (s:å) (σ:St) (H:Hp) (Q:Ú V->Hp->Prop),Inv X pins σ H s->t σ H Q->wpAny (model X.prog X.w) X.A (spliced (backTo pos (starEach es X.env))) (AP X pins σ Q) X.xe s
def PS(X:Cx)(st:Ü)(t:TS):Prop :=
 ∀(pins:ý) (s:å) (σ:St) (H:Hp) (D:uf),Inv X pins σ H s->t D σ H->wpAny (model X.prog X.w) X.A (exec st X.env) (SP X pins D) X.xe s
def PSs(X:Cx)(st:Ú Ü)(t:TS):Prop :=
 ∀(pins:ý) (s:å) (σ:St) (H:Hp) (D:uf),Inv X pins σ H s->t D σ H->wpAny (model X.prog X.w) X.A (execs st X.env) (SP X pins D) X.xe s
def thn{α:Type}{t:Sem α}{Q Q':α->å->Prop}{M:Model}{A:à}{E:ü}{s:å}(h:wpAny M A t Q E s)(hQ:∀a s,Q a s->Q' a s):wpAny M A t Q' E s:=Š h hQ λ_ _ x=>x
section
variable {X:Cx}
def kq(i:Nat):TE:=fun σ H Q=>∃v,σ[i]?=some (some v)/\Q v H
def tC(v:V):TE:=λ_ H Q=>Q v H
def oH(p:X.N[i]?=some x)(q:Vis X.env.scope x)(d:(x==("__debug__":Str))=false:=by decide)(j:(x==("__classdict__":Str))=false:=by decide):PE X (.Name x pos) (kq i):=by
 intro b s σ H Q I h
 obtain ⟨v,e,h⟩:=h
 obtain ⟨m,n,o⟩:=I.loc
 obtain ⟨u,r,l⟩:=o i x v p e q
 have a:EP X b σ Q u s:=⟨v,H,I,r,h⟩
 rcases l with ⟨hk,hm⟩ | ⟨hk,c,hc,hcell⟩
 .exact wpAny_Name (wpAny_loadName_local I.ok.kind hk n hm a) d
 .rcases hk with hk | hk
  .exact wpAny_Name (wpAny_loadName_cell I.ok.kind hk hc hcell a) d
  .exact wpAny_Name (wpAny_loadName_free I.ok.kind hk hc hcell a j) d
def vA{i j pos}:PE X (.Constant (.int i) j pos) (tC (.int i)):=λ_ _ _ H _ I h=>wpAny_Constant_int ⟨.int i,H,I.tok _,⟨_,ϱ⟩,h⟩
def Fn{b j pos}:PE X (.Constant (.bool b) j pos) (tC (.bl b)):=λ_ _ _ H _ I h=>Constant_bool ⟨.bl b,H,I,ϱ,h⟩
def CW{j pos}:PE X (.Constant .none j pos) (tC .non):=λ_ _ _ H _ I h=>Constant_none ⟨.non,H,I,ϱ,h⟩
def CU{x j pos}:PE X (.Constant (.str x) j pos) (tC (.str x)):=λ_ _ _ H _ I h=>Calls.Constant_str ⟨.str x,H,I.tok _,⟨_,ϱ⟩,h⟩
def Gl(X:Cx)(x:Str):Prop:=X.env.kindOf x=some .globalImplicit
def eY{E:ü}{Q:ü}(I:Inv X pins σ H s)(hg:Gl X x)(hm:X.mg x=some u)(h:Q u s)
  (hd:(x==("__debug__":Str))=false:=by decide):wpAny (model X.prog X.w) X.A (eval (.Name x pos) X.env) Q E s :=
 Calls.Name_function_global I.ok.kind hg (Calls.loadGlobal_global (by rw [I.ok.glob];exact I.mod.glob.keeps I.bk) hm h) hd
def iO{E:ü}{Q:ü}(I:Inv X pins σ H s)(b:Gl X x)(c:X.mg x=none)(d:bootBuiltins x=some u)(h:Q u s)
  (e:x≠"__name__":=by decide)(i:(x==("__debug__":Str))=false:=by decide):wpAny (model X.prog X.w) X.A (eval (.Name x pos) X.env) Q E s:=by
 obtain ⟨j,h1,a⟩:=I.mod.blt
 exact Calls.Name_function_global I.ok.kind b (Calls.loadGlobal_builtin (by rw [I.ok.glob];exact I.mod.glob.keeps I.bk) c (by rw [I.ok.blt];exact h1.keeps I.bk) ((a x e).trans d) h) i
def c8(hg:Gl X x)(hm:X.mg x=some u)(r:RelV v u)(hd:(x==("__debug__":Str))=false:=by decide):PE X (.Name x pos) (tC v) :=
 λ_ _ _ H _ I h=>eY I hg hm ⟨v,H,I,r,h⟩ hd
def yZ(hg:Gl X x)(hm:X.mg x=none)(hv:bootBuiltins x=some u)(r:RelV v u)(hn:x≠"__name__":=by decide)(hd:(x==("__debug__":Str))=false:=by decide):PE X (.Name x pos) (tC v) :=
 λ_ _ _ H _ I h=>iO I hg hm hv ⟨v,H,I,r,h⟩ hn hd
variable {a b:Û}{ta tb:TE}{pos:Pos}
def PC(X:Cx)(op:CmpOp)(a b:Û)(t:TE):Prop :=
 ∀(pins:ý) (s:å) (σ:St) (H:Hp) (Q:VK),Inv X pins σ H s->t σ H Q ->
  wpAny (model X.prog X.w) X.A (eval a X.env) (λv s₁=>wpAny (model X.prog X.w) X.A (eval b X.env) (λu s₂=>wpAny (model X.prog X.w) X.A (compareOp op v u) (EP X pins σ Q) X.xe s₂) X.xe s₁) X.xe s
def tB(t:TE):TT:=fun σ H Q=>t σ H λx H1=>∃c,x=.bl c/\Q c H1
def CJ{op:CmpOp}{t:TE}(h:PC X op a b t)(h1:behindInMarks op b=false:=by first | exact nobehind _ ζ ζ | rfl):PT X (.Compare a [op] [b] pos) (tB t):=by
 intro e s σ H Q I n
 refine wpAny_isTrue_Compare1 (thn (h e s σ H _ I n) λv o h1=>thn h1 λu p i=>thn i λc r ⟨x,H1,j,l,m⟩=>?_) h1
 obtain ⟨d,rfl,q⟩:=m
 cases l
 exact ś ⟨H1,j,q⟩
def CH{e:Û}{t:TE}(h:PE X e t)(l:∀whole,isTrue e X.env whole=(do let v ← whole;standAt e.pos;holding [v] (truthy v)):=by intro _;rfl):PT X e (tB t):=by
 intro a s σ H Q I j
 refine isTrue_plain (thn (h a s σ H _ I j) λv m ⟨x,H1,b,c,i⟩=>?_) (l _)
 obtain ⟨d,rfl,q⟩:=i
 cases c
 exact ś ⟨H1,b,q⟩
variable {tA tB':TT}{rest:ï}
def Hc(t u:TT):TT:=fun σ H Q=>t σ H λc H1=>if c=true then u σ H1 Q else Q false H1
def tOr(t u:TT):TT:=fun σ H Q=>t σ H λc H1=>if c=true then Q true H1 else u σ H1 Q
def G8(t:TT):TT:=fun σ H Q=>t σ H λc H1=>Q (!c) H1
def yI(d:PT X a tA):PW X (.BoolOp .And [a] pos) tA:=by
 intro j b s σ H Q I h
 refine isTrue_and (thn (d b s σ H Q I h) λc i e=>?_)
 cases c with
 | true=>exact isTrue_and_nil e
 | false=>exact e
def CD(d:PT X a tA):PW X (.BoolOp .Or [a] pos) tA:=by
 intro j b s σ H Q I h
 refine isTrue_or (thn (d b s σ H Q I h) λc i e=>?_)
 cases c with
 | false=>exact isTrue_or_nil e
 | true=>exact e
def CG(m:PT X a tA)(n:PW X (.BoolOp .And (b::rest) pos) tB'):PW X (.BoolOp .And (a::b::rest) pos) (Hc tA tB'):=by
 intro l d s σ H Q I h
 refine isTrue_and (thn (m d s σ H _ I h) λc j ⟨H1,e,i⟩=>?_)
 cases c with
 | true=>exact n l d j σ H1 Q e i
 | false=>exact ⟨H1,e,i⟩
def Ff(m:PT X a tA)(n:PW X (.BoolOp .Or (b::rest) pos) tB'):PW X (.BoolOp .Or (a::b::rest) pos) (tOr tA tB'):=by
 intro l d s σ H Q I h
 refine isTrue_or (thn (m d s σ H _ I h) λc j ⟨H1,e,i⟩=>?_)
 cases c with
 | true=>exact ⟨H1,e,i⟩
 | false=>exact n l d j σ H1 Q e i
def CI(d:PT X a tA):PT X (.UnaryOp .Not a pos) (G8 tA):=by
 intro b s σ H Q I h
 exact isTrue_not (d b s σ H (λc H1=>Q (!c) H1) I h)
def EX(ta tb:TE):TE:=fun σ H Q=>ta σ H λx H1=>∃c,x=.bl c/\if c=true then tb σ H1 Q else Q (.bl false) H1
def G7(ta tb:TE):TE:=fun σ H Q=>ta σ H λx H1=>∃c,x=.bl c/\if c=true then Q (.bl true) H1 else tb σ H1 Q
def EU(ta:TE):TE:=fun σ H Q=>ta σ H λx H1=>∃c,x=.bl c/\Q (.bl (!c)) H1
def vt{op}{t:TE}(h:PE X a t):PE X (.BoolOp op [a] pos) t:=λpins s σ H Q I hw=>BoolOp_one (h pins s σ H Q I hw)
def CZ(m:PE X a ta)(n:PE X (.BoolOp .And (b::rest) pos) tb):PE X (.BoolOp .And (a::b::rest) pos) (EX ta tb):=by
 intro d s σ H Q I h
 refine BoolOp_and (thn (m d s σ H _ I h) λv j ⟨x,H1,i,l,e⟩=>?_)
 obtain ⟨c,rfl,e⟩:=e
 cases l
 refine ś ?_
 cases c with
 | true=>exact n d j σ H1 Q i e
 | false=>exact ⟨.bl false,H1,i,rfl,e⟩
def Fk(m:PE X a ta)(n:PE X (.BoolOp .Or (b::rest) pos) tb):PE X (.BoolOp .Or (a::b::rest) pos) (G7 ta tb):=by
 intro d s σ H Q I h
 refine BoolOp_or (thn (m d s σ H _ I h) λv j ⟨x,H1,i,l,e⟩=>?_)
 obtain ⟨c,rfl,e⟩:=e
 cases l
 refine ś ?_
 cases c with
 | false=>exact n d j σ H1 Q i e
 | true=>exact ⟨.bl true,H1,i,rfl,e⟩
def CV(j:PE X a ta):PE X (.UnaryOp .Not a pos) (EU ta):=by
 intro b s σ H Q I h
 refine UnaryOp_ (thn (j b s σ H _ I h) λv l ⟨x,H1,e,i,d⟩=>?_)
 obtain ⟨c,rfl,d⟩:=d
 cases i
 exact not_of (ś ⟨.bl (!c),H1,e,ϱ,d⟩)
def tIf(t:TT)(ta tb:TE):TE:=fun σ H Q=>t σ H λc H1=>if c=true then ta σ H1 Q else tb σ H1 Q
def vB{c:Û}(m:PT X c tA)(n:PE X a ta)(o:PE X b tb):PE X (.IfExp c a b pos) (tIf tA ta tb):=by
 intro e s σ H Q I h
 refine wpAny_IfExp (thn (m e s σ H _ I h) λd i ⟨H1,j,l⟩=>?_)
 cases d with
 | true=>exact n e i σ H1 Q j l
 | false=>exact o e i σ H1 Q j l
end
def SqL(K:Þ)(H:Hp)(a:ã)(xs:Ú V):Prop :=
 Rd H a (.lst xs) \/
  ∃(o:Obj) (its:æ) (n:Nat),K.lookup a=some o/\o.cls=.type "list"/\o.dict=none/\o.data=.seq its n/\its.size<=sizeLine/\Vals xs its.toList
def SqT(K:Þ)(H:Hp)(a:ã)(xs:Ú V):Prop :=
 Rd H a (.tup xs) \/
  ∃(o:Obj) (its:æ) (n:Nat),K.lookup a=some o/\o.cls=.type "tuple"/\o.data=.seq its n/\its.size<=sizeLine/\Vals xs its.toList
noncomputable def HQ:ß->Option V
 | .none=>some .non
 | .bool b=>some (.bl b)
 | .int i _=>some (.int i)
 | .str x _=>some (.str x)
 | .bytes b _=>some (.byt b)
 | .float b _=>some (.flt b)
 | .ref a=>some (.ref a)
 | .type n=>some (.ty n)
 | _=>none
def RelV.abs(r:RelV x u):HQ u=some x:=by
 cases x with
 | non=>cases r;rfl
 | bl _=>cases r;rfl
 | int _=>obtain ⟨t,rfl⟩:=r;rfl
 | str _=>obtain ⟨t,rfl⟩:=r;rfl
 | byt _=>obtain ⟨t,rfl⟩:=r;rfl
 | flt _=>obtain ⟨t,rfl⟩:=r;rfl
 | ref _=>cases r;rfl
 | ty _=>cases r;rfl
def RelV.inj(r:RelV x u)(q:RelV y u):x=y:=Δ (r.abs.symm.trans q.abs)
theorem Vals.inj:∀{xs ys:Ú V} {us:õ},Vals xs us->Vals ys us->xs=ys
 | _,_,_,.nil,.nil=>rfl
 | _,_,_,.cons r t,.cons r' t'=>by rw [r.inj r',Vals.inj t t']
section
variable {X:Cx}{pins:ý}{σ:St}{H:Hp}{s:å}{a:ã}{xs ys:Ú V}
def SqL.of{K:Þ}(h:H a=some (.lst xs)):SqL K H a xs:=.inl (.inl h)
def SqT.of{K:Þ}(h:H a=some (.tup xs)):SqT K H a xs:=.inl (.inl h)
theorem Inv.list(I:Inv X pins σ H s)(h:SqL X.K H a xs):∃its:õ,Vals xs its/\PlainL s.heap a its.toArray/\xs.length<=sizeLine:=by
 rcases h with h | ⟨o,its,n,hk,hc,hd,hs,hz,r⟩
 .obtain ⟨z,its,n,r,e⟩:=h.ok I.hok
  exact ⟨its,r,⟨_,n,e,ϱ,ϱ,ϱ⟩,z⟩
 .refine ⟨its.toList,r,⟨o,n,I.kIn a o hk,hc,hd,by simpa using hs⟩,?_⟩
  have e:=r.length
  simp only [Array.length_toList] at e
  lia
theorem Inv.tuple(I:Inv X pins σ H s)(h:SqT X.K H a xs):∃its:õ,Vals xs its/\IsTup s.heap a its.toArray/\xs.length<=sizeLine:=by
 rcases h with h | ⟨o,its,n,hk,hc,hs,hz,r⟩
 .obtain ⟨z,its,r,p⟩:=h.ok I.hok
  exact ⟨its,r,p.tup,z⟩
 .refine ⟨its.toList,r,⟨o,I.kIn a o hk,hc,n,by simpa using hs⟩,?_⟩
  have e:=r.length
  simp only [Array.length_toList] at e
  lia
def Inv.list_inj(I:Inv X pins σ H s)(h:SqL X.K H a xs)(h':SqL X.K H a ys):xs=ys:=by
 obtain ⟨c,r,⟨o,n,e,_,_,d⟩,_⟩:=I.list h
 obtain ⟨b,l,⟨m,p,i,_,_,j⟩,_⟩:=I.list h'
 rw [e] at i;cases i
 rw [d] at j
 injection j with d1 _
 have:c=b:=by simpa using congrArg Array.toList d1
 subst this
 exact r.inj l
def Inv.tuple_inj(I:Inv X pins σ H s)(h:SqT X.K H a xs)(h':SqT X.K H a ys):xs=ys:=by
 obtain ⟨c,r,⟨o,e,_,n,d⟩,_⟩:=I.tuple h
 obtain ⟨b,l,⟨m,i,_,p,j⟩,_⟩:=I.tuple h'
 rw [e] at i;cases i
 rw [d] at j
 injection j with d1 _
 have:c=b:=by simpa using congrArg Array.toList d1
 subst this
 exact r.inj l
end
abbrev Cx.wish(X:Cx)(E:ü):Cx:={X with xe:=E}
abbrev Cx.nox(X:Cx):Cx:=X.wish λ_ _=>False
def Cx.Ok.wish{X:Cx}(ok:X.Ok)(E:ü):(X.wish E).Ok :=
 ⟨ok.mod,ok.kind,ok.glob,ok.blt,ok.above,ok.inj,ok.has,ok.cab,ok.hd,ok.frames,ok.stk,ok.exf,ok.bs,ok.bsz,ok.noex,ok.exfs,ok.funs,ok.frf⟩
def Cx.Ok.unwish{X:Cx}{E:ü}(ok:(X.wish E).Ok):X.Ok :=
 ⟨ok.mod,ok.kind,ok.glob,ok.blt,ok.above,ok.inj,ok.has,ok.cab,ok.hd,ok.frames,ok.stk,ok.exf,ok.bs,ok.bsz,ok.noex,ok.exfs,ok.funs,ok.frf⟩
section
variable {X:Cx}{pins:ý}{σ:St}{H:Hp}{s:å}{E:ü}
def Inv.wish(I:Inv X pins σ H s)(E:ü):Inv (X.wish E) pins σ H s:=⟨I.ok.wish E,I.os,I.bare,I.base,I.loc,I.cell,I.free,I.freeC,I.pin,I.hok,I.len⟩
def Inv.unwish(I:Inv (X.wish E) pins σ H s):Inv X pins σ H s:=⟨I.ok.unwish,I.os,I.bare,I.base,I.loc,I.cell,I.free,I.freeC,I.pin,I.hok,I.len⟩
def SP.unwish(h:SP (X.wish E) pins D f s'):SP X pins D f s':=by
 cases f with
 | next=>obtain ⟨a,b,I,q⟩:=h;exact ⟨a,b,I.unwish,q⟩
 | brk=>obtain ⟨a,b,I,q⟩:=h;exact ⟨a,b,I.unwish,q⟩
 | cont=>obtain ⟨a,b,I,q⟩:=h;exact ⟨a,b,I.unwish,q⟩
 | ret u=>obtain ⟨v,a,b,I,r,q⟩:=h;exact ⟨v,a,b,I.unwish,r,q⟩
def PSs.nox{st:Ú Ü}{t:TS}(h:PSs X.nox st t):PSs X st t:=λpins s σ H D I hw =>
 Š (h pins s σ H D (I.wish _) hw) (λ_ _ q=>q.unwish) λ_ _ z=>False.elim z
end
section
variable {X:Cx}{st:Ü}{rest:Ú Ü}{t u:TS}{e:Û}{te:TE}{pos:Pos}
def A8:TS:=λD σ H=>D.nx σ H
def G5(t u:TS):TS:=λD σ H=>t {D with nx:=u D} σ H
def pss_nil:PSs X [] A8:=λ_ _ σ H _ I h=>wpAny_execs_nil ⟨σ,H,I,h⟩
def vg(h1:PS X st t)(i:PSs X rest u):PSs X (st::rest) (G5 t u):=by
 intro a s σ H D I h
 refine wpAny_execs_cons (thn (h1 a s σ H {D with nx:=u D} I h) λf e q=>?_)
 cases f with
 | next =>
  obtain ⟨b,c,d,q⟩:=q
  exact i a e b c D d q
 | ret v=>exact q
 | brk=>exact q
 | cont=>exact q
def Cf:TS:=λD σ H=>D.bk σ H
def ps_pass:PS X (.Pass pos) A8:=λ_ _ σ H _ I h=>wpAny_Pass ⟨σ,H,I,h⟩
def ps_break:PS X (.Break pos) Cf:=λ_ _ σ H _ I h=>wpAny_Break ⟨σ,H,I,h⟩
def Inv.quiet{pins:ý}{σ:St}{H:Hp}{s:å}(I:Inv X pins σ H s):interactive X.env=false:=by simp [interactive,I.ok.kind]
def EV(te:TE):TS:=λD σ H=>te σ H λ_ H1=>D.nx σ H1
def yL(d:PE X e te)(i:swapsWith e none pos.line X.env=pure false:=by rfl):PS X (.Expr e pos) (EV te):=by
 intro a s σ H D I h
 exact wpAny_Expr_any (thn (d a s σ H _ I h) λv j ⟨x,H1,b,l,c⟩=>⟨σ,H1,b,c⟩) I.quiet i
def G6(te:TE):TS:=λD σ H=>te σ H D.rt
def CL(i:PE X e te):PS X (.Return (some e) pos) (G6 te):=by
 intro a s σ H D I h
 exact wpAny_Return_some (thn (i a s σ H _ I h) λv j ⟨x,H1,b,c,d⟩=>⟨x,σ,H1,b,c,d⟩)
def ES:TS:=λD _ H=>D.rt .non H
def ps_retN:PS X (.Return none pos) ES:=λ_ _ σ H _ I h=>wpAny_Return_none ⟨.non,σ,H,I,ϱ,h⟩
def Ha(c:TT)(t u:TS):TS:=λD σ H=>c σ H λb H1=>if b=true then t D σ H1 else u D σ H1
def Fg{c:Û}{a b:Ú Ü}{tc:TT}(m:PT X c tc)(n:PSs X a t)(o:PSs X b u):PS X (.If c a b pos) (Ha tc t u):=by
 intro e s σ H D I h
 refine wpAny_If (thn (m e s σ H _ I h) λd i ⟨H1,j,l⟩=>?_)
 cases d with
 | true=>exact n e i σ H1 D j l
 | false=>exact o e i σ H1 D j l
end
abbrev TG:=V->St->Hp->(St->Hp->Prop)->Prop
abbrev TGs:=Ú V->St->Hp->(St->Hp->Prop)->Prop
def PG(X:Cx)(target:Û)(t:TG):Prop :=
 ∀(pins:ý) (s:å) (σ:St) (H:Hp) (v:V) (u:ß) (Q:St->Hp->Prop),Inv X pins σ H s->RelV v u->t v σ H Q ->
  wpAny (model X.prog X.w) X.A (assign target X.env u) (λ_ s'=>∃σ' H',Inv X pins σ' H' s'/\Q σ' H') X.xe s
def PGs(X:Cx)(ts:ï)(t:TGs):Prop :=
 ∀(pins:ý) (s:å) (σ:St) (H:Hp) (vs:Ú V) (us:õ) (Q:St->Hp->Prop),Inv X pins σ H s->Vals vs us->t vs σ H Q ->
  wpAny (model X.prog X.w) X.A (assignInOrder ((assignEach ts X.env).map (·.2)) us) (λ_ s'=>∃σ' H',Inv X pins σ' H' s'/\Q σ' H') X.xe s
abbrev HR:=V->V->V->Hp->(Hp->Prop)->Prop
def GW(X:Cx)(t:HR):Prop :=
 ∀(pins:ý) (s:å) (σ:St) (H:Hp) (o i v:V) (ov iv u:ß) (Q:Hp->Prop),Inv X pins σ H s->RelV o ov->RelV i iv->RelV v u->t o i v H Q ->
  wpAny (model X.prog X.w) X.A (setItem ov iv u) (λ_ s'=>∃H',Inv X pins σ H' s'/\Q H') X.xe s
section
variable {X:Cx}{pos:Pos}
def m6(i:Nat):TG:=λv σ H Q=>Q (σ.set i (some v)) H
def kG(c:X.N.Nodup)(d:X.N[i]?=some x)(e:Loc X.env.scope x)(hf:X.fn x=true\/X.env.scope.names.lookup x=some .local:=by first | exact .inl rfl | exact .inr rfl | assumption):PG X (.Name x pos) (m6 i):=by
 intro a s σ H v u Q I r h
 exact wpAny_assign_Name (mh I c d e r (λj b=>⟨_,H,b,h⟩) hf)
def HI(K:Þ)(n:Nat)(t:TGs):TG:=λv σ H Q=>∃a xs,v=.ref a/\SqT K H a xs/\xs.length=n/\t xs σ H Q
def CS(D:X.calm=true)(h:PGs X es t)
  (F:(assignEach es X.env).length=n:=by rfl)(i:(assignEach es X.env).findIdx? (·.1)=none:=by rfl):PG X (.Tuple es k pos) (HI X.K n t):=by
 intro c s σ H v u Q I r d
 obtain ⟨a,l,m,p,q,d⟩:=d
 subst m
 cases r
 obtain ⟨w,j,x,G⟩:=I.tuple p
 refine assign_Tuple_tuple (I.ok.hd D) x (by simp [F,← q,j.length]) i λz C=>?_
 have y:Inv X c σ H {s with heap:=z}:=I.kept (t':=s.toks) λb o e=>C b o (Φ (η e)) e
 exact h c _ σ H l _ Q y (by simpa using j) d
def Cg(te:TE)(g:TG):TS:=λD σ H=>te σ H λx H1=>g x σ H1 D.nx
def CP{tg e:Û}{te:TE}{g:TG}(j:PE X e te)(l:PG X tg g)(m:swapsWithSole [tg] e pos.line X.env=pure false:=by rfl)(hw:swappedStores [tg] e X.env=pure none:=by rfl)
  (h1:(assignEach [tg] X.env).map (·.2)=[assign tg X.env]:=by rfl):PS X (.Assign [tg] e pos) (Cg te g):=by
 intro a s σ H D I h
 refine wpAny_Assign_stores (thn (j a s σ H _ I h) λv b ⟨x,H1,c,d,i⟩=>?_) m hw
 rw [h1]
 exact thn (l a b σ H1 x v _ c d i) λ_ n q=>q
def CK{i:Nat}{x:Str}{e:Û}{te:TE}{a:Pos}(m:X.N.Nodup)(n:X.N[i]?=some x)(o:Loc X.env.scope x)(p:PE X e te)(q:swapsWith e (some (.Name x a)) pos.line X.env=pure false:=by rfl)(hf:X.fn x=true\/X.env.scope.names.lookup x=some .local:=by first | exact .inl rfl | exact .inr rfl | assumption) :
  PS X (.Assign [.Name x a] e pos) (Cg te (m6 i)):=by
 intro b s σ H D I h
 refine wpAny_Assign_Name (thn (p b s σ H _ I h) λv r ⟨y,H1,c,d,j⟩=>?_) q
 exact mh c m n o d (λu l=>⟨_,H1,l,j⟩) hf
end
section
variable {X:Cx}{pos:Pos}
def Ca(c:TT)(tb:TS):TS:=λD σ H=>∃W:Nat->St->Hp->Prop,(∃m,W m σ H)/\∀m σ H,W m σ H ->
 c σ H λb H1=>if b=true then ∃N:St->Hp->Prop,(∀σ' H',N σ' H'->∃m',m'<m/\W m' σ' H')/\tb {D with nx:=N,ct:=N,bk:=D.nx} σ H1 else D.nx σ H1
def vh{c:Û}{body:Ú Ü}{tc:TT}{tb:TS}(hp:PassesOwn (model X.prog X.w) X.A X.env X.xe)(S:PT X c tc)(U:PSs X body tb):PS X (.While c body [] pos) (Ca tc tb):=by
 intro a s σ H D I h
 obtain ⟨W,⟨C,F⟩,d⟩:=h
 refine wpAny_While (codeAny_whileLoop (λn G=>∃σ' H',Inv X a σ' H' G/\W n σ' H') ?_ C ⟨σ,H,I,F⟩)
 rintro n L ⟨m,H1,O,Q⟩
 refine ģ hp (thn (S a L m H1 _ O (d n m H1 Q)) λb K ⟨y,z,j⟩=>?_)
 cases b with
 | true =>
  obtain ⟨N,x,j⟩:=j
  rw [Ż rfl]
  refine ģ hp (thn (U a K m y _ z j) λf Y l=>?_)
  cases f with
  | next =>
   obtain ⟨e,i,o,p⟩:=l
   obtain ⟨q,r,u⟩:=x e i p
   exact ⟨q,r,e,i,o,u⟩
  | cont =>
   obtain ⟨e,i,o,p⟩:=l
   obtain ⟨q,r,u⟩:=x e i p
   exact ⟨q,r,e,i,o,u⟩
  | brk=>exact l
  | ret v=>exact l
 | false =>
  rw [Ž Ų]
  exact wpAny_execs_nil ⟨m,y,z,j⟩
end
structure It where
 go:Nat->Hp->Prop
 yld:Nat->Hp->V->Hp->Prop
 stop:Nat->Hp->Prop
def oe(X:Cx)(pins:ý)(H:Hp)(b:ã):Prop :=
 H b=none/\b≠X.env.locals/\b∉X.fs/\(b∈X.ex\/X.s₀.heap.objs.size<=b)/\(∀x c,X.env.cells.lookup x=some c->c≠b)/\∀p∈X.pn++pins,p.1≠b
def Inv.fpOk(I:Inv X pins σ H s)(a:s.heap.objs.size<=b)(d:H' b=none):oe X pins H' b:=by
 refine ⟨d,į (Ŷ I.lt a),I.nofs a,.inr (Λ I.sz a),λx c e z=>?_,λp hp z=>?_⟩
 .obtain ⟨v,q⟩:=I.cell x c e
  exact absurd (Ŷ q.lt (by rw [z];exact a)) (Ņ _)
 .exact absurd (Ŷ (η (I.pin p hp).1) (by rw [z];exact a)) (Ņ _)
structure uc(P:ä)(w:â)(K:Þ)(tg:Û)(J:It)(fp:ô)(it:ã)(tn:Nat->Ý->Prop):Prop where
 mem:it∈fp
 obj:∀i h,tn i h->∀b∈fp,∃o,h.get? b=some o/\∀v,o.data≠.cell v
 keep:∀i h h',tn i h->(∀b∈fp,∀o,h.get? b=some o->h'.get? b=some o)->tn i h'
 item:∀(X:Cx),X.prog=P->X.w=w->X.K=K->X.calm=true->∀(i:Nat) (pins:ý) (s:å) (σ:St) (H:Hp) (E:ü),Inv X pins σ H s->(∀b∈fp,oe X pins H b)->tn i s.heap->J.go i H ->
  wpAny (model P w) X.A (pyNext (.ref it)) (λr s1=>∃u,r=some u /\
   wpAny (model P w) X.A (letOwnedTupleGo tg (.ref it) u) (λ_ s2=>∃x H',Inv X pins σ H' s2/\RelV x u/\J.yld i H x H'/\tn (i+1) s2.heap/\∀b∈fp,H' b=none) E s1) E s
 done:∀(X:Cx),X.prog=P->X.w=w->X.K=K->X.calm=true->∀(i:Nat) (pins:ý) (s:å) (σ:St) (H:Hp) (E:ü),Inv X pins σ H s->(∀b∈fp,oe X pins H b)->tn i s.heap->J.stop i H ->
  wpAny (model P w) X.A (pyNext (.ref it)) (λr s1=>r=none/\Inv X pins σ H s1) E s
 self:∀(A:à) (i:Nat) (s:å) (Q:ü) (E:ü),tn i s.heap->Q (.ref it) s->wpAny (model P w) A (pyIter (.ref it)) Q E s
abbrev TI:=St->Hp->(It->Hp->Prop)->Prop
def PIE(X:Cx)(pins:ý)(σ:St)(tg:Û)(R:It->Hp->Prop)(itv:ß)(s2:å):Prop :=
 ∃(it:ã) (fp:ô) (tn:Nat->Ý->Prop) (J:It) (H':Hp),itv=.ref it/\Inv X pins σ H' s2/\uc X.prog X.w X.K tg J fp it tn/\tn 0 s2.heap/\(∀b∈fp,oe X pins H' b)/\R J H'
def PI(X:Cx)(tg iter:Û)(wi:TI):Prop :=
 ∀(pins:ý) (s:å) (σ:St) (H:Hp) (R:It->Hp->Prop),Inv X pins σ H s->wi σ H R ->
  wpAny (model X.prog X.w) X.A (eval iter X.env) (λv s1=>wpAny (model X.prog X.w) X.A (pyIter v) (PIE X pins σ tg R) X.xe s1) X.xe s
def mY{E:ü}{Q:Unit->å->Prop}(b:s.heap.get? it=some o)(c:o.cls=.type n)(d:o.data=.fields vs)
  (e:["enumerate","zip","dict_itemiterator","dict_reverseitemiterator","odict_iterator","itertools.zip_longest","itertools.pairwise"].contains n=false)(a:Q () s):wpAny M A (letOwnedTupleGo tg (.ref it) u) Q E s:=by
 unfold letOwnedTupleGo
 cases tg<;>first
  | exact π a
  | (cases u<;>first
    | exact π a
    | (refine ε (wpAny_load b ?_)
       rw [c,d]
       show wpAny M A (if (["enumerate","zip","dict_itemiterator","dict_reverseitemiterator","odict_iterator","itertools.zip_longest","itertools.pairwise"].contains n&&vs[0]?==some (rawInt _))=true then _ else _) Q E s
       rw [Ž (by intro h;rw [e,Bool.false_and] at h;cases h)]
       exact π a))
def Itl(K:Þ)(a:ã):It :=
 ⟨λi H=>∃xs x,SqL K H a xs/\xs[i]?=some x,λi H x H'=>H'=H/\∀xs,SqL K H a xs->xs[i]?=some x,λi H=>∃xs,SqL K H a xs/\xs.length<=i⟩
noncomputable def Itt(K:Þ)(a:ã):It :=
 ⟨λi H=>∃xs x,SqT K H a xs/\xs[i]?=some x,λi H x H'=>H'=H/\∀xs,SqT K H a xs->xs[i]?=some x,λi H=>∃xs,SqT K H a xs/\xs.length<=i⟩
def Itr(lo:Int)(n:Nat):It:=⟨λi _=>i<n,λi H x H'=>H'=H/\x=.int (lo+i),λi _=>n<=i⟩
theorem rV{P:ä}{w:â}{K:Þ}{tg:Û}(a it:ã):uc P w K tg (Itl K a) [it] it (λi h=>h.IsListIter it a i) where
 mem:=by simp
 obj:=λi h st b hb=>by
  have e:b=it:=by simpa using hb
  subst e
  obtain ⟨o,e,c,d⟩:=st
  exact ⟨o,e,λv z=>by rw [d] at z;cases z⟩
 keep:=λi h h' st k=>st.at λo e=>k it (by simp) o e
 item:=by
  intro X N O Q U i j s σ H E I n st S
  subst N O Q
  obtain ⟨Y,x,m,q⟩:=S
  obtain ⟨r,y,p,Z⟩:=I.list m
  obtain ⟨u,hu,ru⟩:=y.get q
  obtain ⟨C,D,f2,F,G,L⟩:=n it (by simp)
  refine wpAny_pyNext_list_item st p.isList (x:=u) (by simpa using hu) λh' l sb=>?_
  have I1:Inv X j σ H {s with heap:=h'}:=I.turned (t':=s.toks) (λb o hb e=>(sb.2 b hb).trans e) C D F G L
  obtain ⟨o,e,c,d⟩:=id l
  exact ⟨u,ϱ,mY (s:={s with heap:=h'}) e c d ζ ⟨x,H,I1,ru,⟨ϱ,λys hy=>by rw [I.list_inj hy m];exact q⟩,l,λb hb=>(n b hb).1⟩⟩
 done:=by
  intro X N O Q U i j s σ H E I n st S
  subst N O Q
  obtain ⟨Y,m,q⟩:=S
  obtain ⟨r,y,p,Z⟩:=I.list m
  obtain ⟨C,D,f2,F,G,L⟩:=n it (by simp)
  have hl:=y.length
  exact wpAny_pyNext_list_end (I.ok.hd U) st p.isList (by simp;lia) λh' eb=>⟨ϱ,I.turned (t':=s.toks) (λb o hb e=>eb b o hb e) C D F G L⟩
 self:=λ_ _ _ _ _ st h=>wpAny_pyIter_listiter st h
theorem oq{P:ä}{w:â}{K:Þ}{tg:Û}(a it:ã):uc P w K tg (Itt K a) [it] it (λi h=>h.IsTupleIter it a i) where
 mem:=by simp
 obj:=λi h st b hb=>by
  have e:b=it:=by simpa using hb
  subst e
  obtain ⟨o,e,c,d⟩:=st
  exact ⟨o,e,λv z=>by rw [d] at z;cases z⟩
 keep:=λi h h' st k=>st.at λo e=>k it (by simp) o e
 item:=by
  intro X N O Q U i j s σ H E I q st S
  subst N O Q
  obtain ⟨Y,x,n,r⟩:=S
  obtain ⟨l,y,p,Z⟩:=I.tuple n
  obtain ⟨u,hu,ru⟩:=y.get r
  obtain ⟨C,D,f2,F,G,L⟩:=q it (by simp)
  refine wpAny_pyNext_tuple_item st (show s.heap.IsTuple a l.toArray from p) (x:=u) (by simpa using hu) λh' m sb=>?_
  have I1:Inv X j σ H {s with heap:=h'}:=I.turned (t':=s.toks) (λb o hb e=>(sb.2 b hb).trans e) C D F G L
  obtain ⟨o,e,c,d⟩:=id m
  exact ⟨u,ϱ,mY (s:={s with heap:=h'}) e c d ζ ⟨x,H,I1,ru,⟨ϱ,λys hy=>by rw [I.tuple_inj hy n];exact r⟩,m,λb hb=>(q b hb).1⟩⟩
 done:=by
  intro X N O Q U i j s σ H E I q st S
  subst N O Q
  obtain ⟨Y,n,r⟩:=S
  obtain ⟨l,y,p,Z⟩:=I.tuple n
  obtain ⟨C,D,f2,F,G,L⟩:=q it (by simp)
  have hl:=y.length
  exact wpAny_pyNext_tuple_end (I.ok.hd U) st (show s.heap.IsTuple a l.toArray from p) (by simp;lia) λh' eb=>⟨ϱ,I.turned (t':=s.toks) (λb o hb e=>eb b o hb e) C D F G L⟩
 self:=λ_ _ _ _ _ st h=>wpAny_pyIter_tupleiter st h
theorem ot{P:ä}{w:â}{K:Þ}{tg:Û}(it:ã)(lo:Int)(n:Nat):uc P w K tg (Itr lo n) [it] it (λi h=>IsRangeIter h it (lo+(i:Nat)*1) ((n:Int)-(i:Nat)) 1) where
 mem:=by simp
 obj:=λi h st b hb=>by
  have e:b=it:=by simpa using hb
  subst e
  exact ⟨_,st,λv z=>by
   have z':Data.fields _=Data.cell v:=z
   cases z'⟩
 keep:=λi h h' st k=>k it (by simp) _ st
 item:=by
  intro X r u x y i a s σ H E I d st C
  subst r u x
  obtain ⟨j,l,F,m,p,q⟩:=d it (by simp)
  have W:=Walks.range (prog:=X.prog) (w:=X.w) (I.ok.hd y) it lo 1 n
  refine W.item i s _ _ C st λv h' D L c N=>?_
  obtain ⟨t,rfl⟩:=L
  have G:Inv X a σ H {s with heap:=h',toks:=D}:=I.turned (λb o hb e=>N b o (by simpa using hb) e) j l m p q
  refine ⟨_,ϱ,mY (s:={s with heap:=h',toks:=D}) (n:="range_iterator") c rfl rfl ζ ⟨.int (lo+i),H,G,⟨t,?_⟩,⟨ϱ,ϱ⟩,c,λb hb=>(d b hb).1⟩⟩
  rw [Int.mul_one]
 done:=by
  intro X r u x y i a s σ H E I d st C
  subst r u x
  obtain ⟨j,l,F,m,p,q⟩:=d it (by simp)
  exact wpAny_pyNext_range_end (I.ok.hd y) st (by have:n<=i:=C;lia) λh' O=>⟨ϱ,I.turned (t':=s.toks) (λb o hb e=>O b o hb e) j l m p q⟩
 self:=λ_ _ _ _ _ st h=>wpAny_pyIter_rangeiter st h
section
variable {X:Cx}{tg:Û}
theorem my{c:ý}{σ:St}{H:Hp}{s:å}{R:It->Hp->Prop}{E:ü}{lo a:Int}{t u v:Tok}{h:Nat}(I:Inv X c σ H s)(h1:-(2 ^ 62)<=lo)(m:lo<2 ^ 62)(n:-(2 ^ 62)<=a)(p:a<2 ^ 62)
  (q:R (Itr lo (a-lo).toNat) H):wpAny (model X.prog X.w) X.A (pyIter (.ref s.heap.objs.size)) (PIE X c σ tg R) E {s with heap:=s.heap.push {cls:=.type "range",data:=.fields #[.int lo t,.int a u,.int 1 v]},toks:=h}:=by
 refine wpAny_pyIter_range (IsRange.new ..) (small_one h1 m n p) ?_
 have d:Inv X c σ H {s with heap:=s.heap.push {cls:=.type "range",data:=.fields #[.int lo t,.int a u,.int 1 v]},toks:=h}:=I.kept λb o e=>ϸ _ e
 refine ⟨(s.heap.push {cls:=.type "range",data:=.fields #[.int lo t,.int a u,.int 1 v]}).objs.size,[(s.heap.push {cls:=.type "range",data:=.fields #[.int lo t,.int a u,.int 1 v]}).objs.size],_,_,H,ϱ,
  d.kept (t':=h) λb o e=>ϸ _ e,ot _ lo (a-lo).toNat,?_,λb l=>?_,q⟩
 .have i:lo+((0:Nat):Int)*1=lo:=by simp
  have j:(((a-lo).toNat:Nat):Int)-((0:Nat):Int)=Builtin.Range.rangeSize lo a 1:=by rw [rangeSize_one];split<;>lia
  show IsRangeIter _ _ (lo+((0:Nat):Int)*1) ((((a-lo).toNat:Nat):Int)-((0:Nat):Int)) 1
  rw [i,j]
  exact ϻ _ rfl
 .have e:b=(s.heap.push {cls:=.type "range",data:=.fields #[.int lo t,.int a u,.int 1 v]}).objs.size:=by simpa using l
  subst e
  exact d.fpOk (ι _) (d.hok.fresh (ι _))
def FY(ta:TA):TI:=fun σ H R=>ta σ H λvs H1=>∃j:Int,vs=[.int j]/\-(2 ^ 62)<=j/\j<2 ^ 62/\R (Itr 0 j.toNat) H1
def FX(ta:TA):TI:=fun σ H R=>ta σ H λvs H1=>∃i j:Int,vs=[.int i,.int j]/\(-(2 ^ 62)<=i/\i<2 ^ 62/\-(2 ^ 62)<=j/\j<2 ^ 62)/\R (Itr i (j-i).toNat) H1
theorem sK{a:Û}{d:TA}{p pos:Pos}(n:Gl X "range")(o:X.mg "range"=none)(u:PA X [a] d)(v:starEach [a] X.env=[(false,eval a X.env)]:=by rfl):PI X tg (.Call (.Name "range" p) [a] [] pos) (FY d):=by
 intro b s σ H R I h
 refine Call_ (iO I n o boot_range (PyProof.Rows.callWith_type1 (thn (u pos b s σ H _ I h) λus w ⟨x,H1,l,m,c⟩=>?_) v rfl))
 obtain ⟨j,e,c,i,q⟩:=c
 subst e
 cases m with
 | cons r rr =>
  cases rr
  obtain ⟨t,rfl⟩:=r
  exact call_range_1 (my l (by lia) (by lia) c i (by simpa using q))
def sJ(w:Gl X "range")(x:X.mg "range"=none)(y:PA X [a,b] ta)(z:starEach [a,b] X.env=[(false,eval a X.env),(false,eval b X.env)]:=by rfl)(d:starEach [b] X.env=[(false,eval b X.env)]:=by rfl) :
  PI X tg (.Call (.Name "range" p) [a,b] [] pos) (FX ta):=by
 intro c s σ H R I h
 refine Call_ (iO I w x boot_range (PyProof.Rows.callWith_type1 (thn (y pos c s σ H _ I h) λus D ⟨F,H1,u,v,l⟩=>?_) (by rw [z,d]) (by rw [d];rfl)))
 obtain ⟨i,j,e,⟨l,m,n,o⟩,q⟩:=l
 subst e
 cases v with
 | cons r rr =>
  cases rr with
  | cons r' rr =>
   cases rr
   obtain ⟨t,rfl⟩:=r
   obtain ⟨C,rfl⟩:=r'
   exact call_range_2 (my u l m n o q)
def Hb(wi:TI)(g:TG)(tb:TS):TS:=λD σ H=>wi σ H λJ H1=>∃W:Nat->Nat->St->Hp->Prop,(∃m,W 0 m σ H1)/\∀i m σ H,W i m σ H ->
 (J.stop i H/\D.nx σ H)\/(J.go i H/\∃N:St->Hp->Prop,(∀σ' H',N σ' H'->∃m',m'<m/\W (i+1) m' σ' H')/\∀x H',J.yld i H x H'->g x σ H' fun σ2 H2=>tb {D with nx:=N,ct:=N,bk:=D.nx} σ2 H2)
noncomputable def iA(fp:ô)(h:Ý):ý:=fp.filterMap λb=>(h.get? b).map λo=>(b,o)
def cw(hb:b∈fp)(e:h.get? b=some o):(b,o)∈iA fp h:=List.mem_filterMap.mpr ⟨b,hb,by rw [e];rfl⟩
def sQ(hp:p∈iA fp h):p.1∈fp/\h.get? p.1=some p.2:=by
 obtain ⟨b,a,e⟩:=List.mem_filterMap.mp hp
 cases q:h.get? b with
 | none=>rw [q] at e;cases e
 | some o =>
  rw [q] at e
  have c:(b,o)=p:=Δ e
  subst c
  exact ⟨a,q⟩
def Inv.pinned(I:Inv X pins σ H s)(hf:∀b∈fp,oe X pins H b)(ho:∀b∈fp,∃o,s.heap.get? b=some o/\∀v,o.data≠.cell v):Inv X (pins++iA fp s.heap) σ H s :=
 I.pins_of λp hp=>(Ű.mp hp).elim (λz=>I.pin p (Ψ _ z)) λz=>by
  obtain ⟨hb,e⟩:=sQ z
  obtain ⟨f0,f1,f2,_⟩:=hf p.1 hb
  obtain ⟨o,e',d⟩:=ho p.1 hb
  rw [e] at e';cases e'
  exact ⟨e,f0,f1,f2,d⟩
def Inv.unpinned(I:Inv X (pins++pl) σ H s):Inv X pins σ H s:=I.pins_of λp hp=>I.pin p (Ψ _ (ũ _ hp))
def CN(hp:PassesOwn (model X.prog X.w) X.A X.env X.xe)(hc:X.calm=true)(hi:PI X tg iter wi)(hg:PG X tg g)(y:PSs X body tb)
  (hs:∀x,foldedSetIterable iter X.env x=pure x:=by intro _;rfl):PS X (.For tg iter body [] pos) (Hb wi g tb):=by
 intro a s σ H D I h
 refine wpAny_For (thn (hi a s σ H _ I h) λv s1 h1=>thn h1 λb2 s2 h2=>?_) hs
 obtain ⟨it,F,tn,J,H2,e,I2,T,U,f2,W,⟨m0,w0⟩,G⟩:=h2
 subst e
 have p:∀{H':Hp},(∀b∈F,H' b=none)->∀b∈F,oe X a H' b:=λhn b y=>⟨hn b y,(f2 b y).2⟩
 refine codeAny_forLoop_any (λn s'=>∃i σ' H',Inv X a σ' H' s'/\tn i s'.heap/\(∀b∈F,H' b=none)/\W i n σ' H') ?_ m0 ⟨0,σ,H2,I2,U,λb y=>(f2 b y).1,w0⟩
 rintro n s3 ⟨i,L,S,I3,O,Q,w3⟩
 rcases G i n L S w3 with ⟨stop,qn⟩ | ⟨go,N,hN,step⟩
 .refine ģ hp (thn (T.done X rfl rfl rfl hc i a s3 L S X.xe I3 (p Q) O stop) λr s4 ⟨Z,I4⟩=>?_)
  subst Z
  exact wpAny_execs_nil ⟨L,S,I4,qn⟩
 .refine ģ hp (thn (T.item X rfl rfl rfl hc i a s3 L S X.xe I3 (p Q) O go) λr s4 ⟨u,Z,h4⟩=>?_)
  subst Z
  refine ģ hp (thn h4 λ_ s5 ⟨x,H5,I5,r5,y5,C,a0⟩=>?_)
  have Y:=I5.pinned (p a0) (T.obj _ _ C)
  refine ģ hp (thn (hg _ s5 L H5 x u _ Y r5 (step x H5 y5)) λ_ s6 ⟨σ6,H6,I6,q6⟩=>?_)
  refine ģ hp (thn (y _ s6 σ6 H6 _ I6 q6) λf s7 z=>?_)
  have q:∀{c:St} {j:Hp},Inv X (a++iA F s5.heap) c j s7->N c j->∃m,m<n/\∃i σ' H',Inv X a σ' H' s7/\tn i s7.heap/\(∀b∈F,H' b=none)/\W i m σ' H':=λ{c j} l K=>by
   obtain ⟨m',hm,w7⟩:=hN c j K
   refine ⟨m',hm,i+1,c,j,l.unpinned,T.keep _ _ _ C λb y o e=>(l.pin (b,o) (Ψ _ (Ψ _ (cw y e)))).1,λb y=>?_,w7⟩
   obtain ⟨o,e,d⟩:=T.obj _ _ C b y
   exact (l.pin (b,o) (Ψ _ (Ψ _ (cw y e)))).2.1
  cases f with
  | next=>obtain ⟨c,j,l,K⟩:=z;exact q l K
  | cont=>obtain ⟨c,j,l,K⟩:=z;exact q l K
  | brk=>obtain ⟨c,j,l,z⟩:=z;exact ⟨c,j,l.unpinned,z⟩
  | ret v=>obtain ⟨x7,c,j,l,r7,z⟩:=z;exact ⟨x7,c,j,l.unpinned,r7,z⟩
end
abbrev R2:=V->V->Hp->VK->Prop
def OpR(X:Cx)(f:ß->ß->Sem ß)(r:R2):Prop :=
 ∀(pins:ý) (s:å) (σ:St) (H:Hp) (x y:V) (v u:ß) (Q:VK),Inv X pins σ H s->RelV x v->RelV y u->r x y H Q ->
  wpAny (model X.prog X.w) X.A (f v u) (EP X pins σ Q) X.xe s
def UnR(X:Cx)(f:ß->Sem ß)(r:V->Hp->VK->Prop):Prop :=
 ∀(pins:ý) (s:å) (σ:St) (H:Hp) (x:V) (v:ß) (Q:VK),Inv X pins σ H s->RelV x v->r x H Q ->
  wpAny (model X.prog X.w) X.A (f v) (EP X pins σ Q) X.xe s
def CallR(X:Cx)(f:ß)(r:Ú V->Hp->VK->Prop):Prop :=
 ∀(pins:ý) (s:å) (σ:St) (H:Hp) (xs:Ú V) (us:õ) (Q:VK),Inv X pins σ H s->Vals xs us->r xs H Q ->
  wpAny (model X.prog X.w) X.A (call f us) (EP X pins σ Q) X.xe s
def tOp(r:R2)(ta tb:TE):TE:=fun σ H Q=>ta σ H λx H1=>tb σ H1 λy H2=>r x y H2 Q
def tUn(r:V->Hp->VK->Prop)(ta:TE):TE:=fun σ H Q=>ta σ H λx H1=>r x H1 Q
def rI(C:Int->Int->Prop)(g:Int->Int->V):R2:=λx y H Q=>∃i j,x=.int i/\y=.int j/\C i j/\Q (g i j) H
def rI0(g:Int->Int->V):R2:=λx y H Q=>∃i j,x=.int i/\y=.int j/\Q (g i j) H
def rU(g:Int->V):V->Hp->VK->Prop:=λx H Q=>∃i,x=.int i/\Q (g i) H
section
variable {X:Cx}{a b c:Û}{ta tb tc:TE}{pos:Pos}
def DV(o:PE X a ta)(p:PE X b tb){c:ý}{s:å}{σ:St}{H:Hp}{R:V->V->Hp->Prop}(I:Inv X c σ H s)
  (h:ta σ H λx H1=>tb σ H1 λy H2=>R x y H2){Q:ü}{f:ß->ß->Sem ß}
  (hf:∀v u s2 x y H2,Inv X c σ H2 s2->RelV x v->RelV y u->R x y H2->wpAny (model X.prog X.w) X.A (f v u) Q X.xe s2) :
  wpAny (model X.prog X.w) X.A (eval a X.env) (λv s₁=>wpAny (model X.prog X.w) X.A (eval b X.env) (λu s₂=>wpAny (model X.prog X.w) X.A (f v u) Q X.xe s₂) X.xe s₁) X.xe s:=by
 refine thn (o c s σ H _ I h) λv d ⟨x,H1,e,i,j⟩=>?_
 refine thn (p c d σ H1 _ e j) λu s2 ⟨y,H2,l,m,n⟩=>?_
 exact hf v u s2 x y H2 l i m n
def Fl(m:OpR X (binaryOp op) r)(n:PE X a ta)(o:PE X b tb):PE X (.BinOp a op b pos) (tOp r ta tb):=by
 intro c s σ H Q I h
 exact wpAny_BinOp (DV n o I h λv u d x y e i j l q=>m c d σ e x y v u Q i j l q)
def Fj{r:V->Hp->VK->Prop}(j:UnR X (unaryOp op) r)(l:PE X a ta):PE X (.UnaryOp op a pos) (tUn r ta):=by
 intro b s σ H Q I h
 exact UnaryOp_ (thn (l b s σ H _ I h) λv c ⟨x,H1,d,e,i⟩=>j b c σ H1 x v Q d e i)
def opI{f:ß->ß->Sem ß}{C:Int->Int->Prop}{g:Int->Int->Int}
  (a:∀(i j:Int) (t u:Tok) (s:å) (Q:ü) (E:ü),C i j->Q (.int (g i j) s.toks) {s with toks:=s.toks+1}->wpAny (model X.prog X.w) X.A (f (.int i t) (.int j u)) Q E s) :
  OpR X f (rI C λi j=>.int (g i j)):=by
 intro b s σ H x y v u Q I e l h
 obtain ⟨i,j,rfl,rfl,c,q⟩:=h
 obtain ⟨t,rfl⟩:=e
 obtain ⟨d,rfl⟩:=l
 exact a i j t d s _ _ c ⟨.int (g i j),H,I.tok _,⟨_,ϱ⟩,q⟩
def FE{f:ß->ß->Sem ß}{g:Int->Int->Int}
  (a:∀(i j:Int) (t u:Tok) (s:å) (Q:ü) (E:ü),Q (.int (g i j) s.toks) {s with toks:=s.toks+1}->wpAny (model X.prog X.w) X.A (f (.int i t) (.int j u)) Q E s) :
  OpR X f (rI0 λi j=>.int (g i j)):=by
 intro b s σ H x y v u Q I d e h
 obtain ⟨i,j,rfl,rfl,q⟩:=h
 obtain ⟨t,rfl⟩:=d
 obtain ⟨c,rfl⟩:=e
 exact a i j t c s _ _ ⟨.int (g i j),H,I.tok _,⟨_,ϱ⟩,q⟩
def zb{f:ß->ß->Sem ß}{g:Int->Int->Bool}
  (a:∀(i j:Int) (t u:Tok) (s:å) (Q:ü) (E:ü),Q (.bool (g i j)) s->wpAny (model X.prog X.w) X.A (f (.int i t) (.int j u)) Q E s) :
  OpR X f (rI0 λi j=>.bl (g i j)):=by
 intro b s σ H x y v u Q I d e h
 obtain ⟨i,j,rfl,rfl,q⟩:=h
 obtain ⟨t,rfl⟩:=d
 obtain ⟨c,rfl⟩:=e
 exact a i j t c s _ _ ⟨.bl (g i j),H,I,ϱ,q⟩
def xS(i j:Int):Prop:=0<=j/\j<=1000000/\i.natAbs<2 ^ 64
def CMul(i j:Int):Prop:=(-(2 ^ 64)<i/\i<2 ^ 64)\/(-(2 ^ 64)<j/\j<2 ^ 64)
def CMul.ok(h:CMul i j):IntMulOk i j:=by
 rcases h with ⟨h1,h2⟩ | ⟨h1,h2⟩
 .exact .of_left (intBits_le_64 h1 h2)
 .exact .of_right (intBits_le_64 h1 h2)
def C6:OpR X (binaryOp .Add) (rI0 λi j=>.int (i+j)):=FE λ_ _ _ _ _ _ _ q=>add_int q
def C1:OpR X (binaryOp .Sub) (rI0 λi j=>.int (i-j)):=FE λ_ _ _ _ _ _ _ q=>sub_int q
def C3:OpR X (binaryOp .Mult) (rI CMul λi j=>.int (i*j)):=opI λ_ _ _ _ _ _ _ hc q=>mul_int q hc.ok
theorem C4:OpR X (binaryOp .Mod) (rI (λ_ j=>0<j) λi j=>.int (i%j)):=opI λi j _ _ _ _ _ hc q=>by
 have h1:(0:Int)<j:=hc
 exact mod_int' (by lia) (by rw [Int.fmod_eq_emod_of_nonneg i (by lia)];exact q)
def C2:OpR X (binaryOp .Pow) (rI xS λi j=>.int (i ^ j.toNat)):=opI λ_ _ _ _ _ _ _ hc q=>pow_int_small hc.1 hc.2.1 hc.2.2 q
def unI{f:ß->Sem ß}{g:Int->Int}
  (a:∀(i:Int) (t:Tok) (s:å) (Q:ü) (E:ü),Q (.int (g i) s.toks) {s with toks:=s.toks+1}->wpAny (model X.prog X.w) X.A (f (.int i t)) Q E s) :
  UnR X f (rU λi=>.int (g i)):=by
 intro b s σ H x v Q I c h
 obtain ⟨i,rfl,q⟩:=h
 obtain ⟨t,rfl⟩:=c
 exact a i t s _ _ ⟨.int (g i),H,I.tok _,⟨_,ϱ⟩,q⟩
def B6:UnR X (unaryOp .USub) (rU λi=>.int (-i)):=unI λ_ _ _ _ _ q=>neg_int q
end
section
variable {X:Cx}{a b c:Û}{ta tb tc:TE}{pos:Pos}
def wt(I:Inv X pins σ H s)(q:Q (.bl k) H)(e:k=k'):EP X pins σ Q (.bool k') s:=by
 subst e
 exact ⟨.bl k,H,I,ϱ,q⟩
def FA:OpR X (compareOp .Lt) (rI0 λi j=>.bl (decide (i<j))):=zb λ_ _ _ _ _ _ _ q=>lt_int q
def FB:OpR X (compareOp .LtE) (rI0 λi j=>.bl (decide (i<=j))):=zb λ_ _ _ _ _ _ _ q=>le_int q
def FC:OpR X (compareOp .Gt) (rI0 λi j=>.bl (decide (j<i))):=zb λ_ _ _ _ _ _ _ q=>gt_int q
def FD:OpR X (compareOp .GtE) (rI0 λi j=>.bl (decide (j<=i))):=zb λ_ _ _ _ _ _ _ q=>ge_int q
def C5:OpR X (compareOp .Is) (λx y H Q=>y=.non/\Q (.bl (decide (x=.non))) H):=by
 intro a s σ H x y v u Q I b c h
 obtain ⟨rfl,q⟩:=h
 cases c
 refine is_none_gen (wt I q ?_)
 cases x<;>first
  | (cases b;rfl)
  | (obtain ⟨t,rfl⟩:=b;rfl)
def y8:OpR X (compareOp .IsNot) (λx y H Q=>y=.non/\Q (.bl (!decide (x=.non))) H):=by
 intro a s σ H x y v u Q I b c h
 obtain ⟨rfl,q⟩:=h
 cases c
 refine isnot_none_gen (wt I q ?_)
 cases x<;>first
  | (cases b;rfl)
  | (obtain ⟨t,rfl⟩:=b;rfl)
def qt(m:OpR X (compareOp op) r)(n:PE X a ta)(o:PE X b tb)(p:behindInMarks op b=false):PE X (.Compare a [op] [b] pos) (tOp r ta tb):=by
 intro c s σ H Q I h
 exact wpAny_Compare1 (DV n o I h λv u d x y e i j l q=>m c d σ e x y v u Q i j l q) p
def A7(t:TE):TT:=fun σ H Q=>t σ H λx H'=>∃k,x=.bl k/\Q k H'
def qo(K:OpR X (compareOp op) r)(L:PE X a ta)(N:PE X b tb)(O:behindInMarks op b=false):PT X (.Compare a [op] [b] pos) (A7 (tOp r ta tb)):=by
 intro d s σ H Q I h
 refine wpAny_isTrue_Compare1 (thn (L d s σ H _ I h) λv i ⟨x,H1,j,l,m⟩=>thn (N d i σ H1 _ j m) λu n ⟨y,o,p,q,w⟩ =>
  thn (K d n σ o x y v u _ p l q w) λc S ⟨z,C,D,F,k,e,G⟩=>?_) O
 subst e
 cases F
 exact ś ⟨C,D,G⟩
def ox(r r':R2)(ta tb tc:TE):TE:=fun σ H Q=>ta σ H λx H1=>tb σ H1 λy H2=>r x y H2 λz H3=>∃k,z=.bl k /\
 (if k=true then tc σ H3 λw' H4=>r' y w' H4 Q else Q (.bl false) H3)
def vH(ho:OpR X (compareOp op) r)(j:OpR X (compareOp op') r')(ha:PE X a ta)(hb:PE X b tb)(hc:PE X c tc)
  (hm:lastMarks [op,op'] [b,c]=false:=by with_unfolding_all rfl):PE X (.Compare a [op,op'] [b,c] pos) (ox r r' ta tb tc):=by
 intro i s σ H Q I h
 refine Compare_chain (thn (ha i s σ H _ I h) λv p ⟨x,H1,q,w,C⟩=>chain_link (thn (hb i p σ H1 _ q C) λu D ⟨y,F,G,l,K⟩ =>
  thn (ho i D σ F x y v u _ G w l K) λd L ⟨z,m,n,N,k,e,o⟩=>?_)) hm
 subst e
 cases N
 refine ś ?_
 cases k with
 | false=>exact ite_ff ⟨.bl false,m,n,rfl,o⟩
 | true=>exact ite_tt (chain_last (thn (hc i L σ m _ n o) λO S ⟨U,Y,Z,r4,q4⟩=>j i S σ Y y U u O Q Z l r4 q4))
def vf(ho:OpR X (compareOp op) r)(j:OpR X (compareOp op') r')(ha:PE X a ta)(hb:PE X b tb)(hc:PE X c tc)
  (hm:lastMarks [op,op'] [b,c]=false:=by with_unfolding_all rfl):PT X (.Compare a [op,op'] [b,c] pos) (A7 (ox r r' ta tb tc)):=by
 intro i s σ H Q I h
 refine isTrue_chain (thn (ha i s σ H _ I h) λv w ⟨x,H1,C,D,F⟩=>test_link (thn (hb i w σ H1 _ C F) λu G ⟨y,K,L,l,N⟩ =>
  thn (ho i G σ K x y v u _ L D l N) λd O ⟨z,m,n,S,k,e,o⟩=>?_)) hm
 subst e
 cases S
 refine ś ?_
 cases k with
 | false =>
  obtain ⟨k',p,q⟩:=o
  cases p
  exact ite_ff ⟨m,n,q⟩
 | true =>
  refine ite_tt (test_last (thn (hc i O σ m _ n o) λU Y ⟨Z,H4,I4,r4,q4⟩=>thn (j i Y σ H4 y Z u U _ I4 l r4 q4) λd' s5 ⟨z2,H5,I5,r5,k2,e2,q5⟩=>?_))
  subst e2
  cases r5
  exact ś ⟨H5,I5,q5⟩
def fO:(sizeLine:Nat)<2 ^ 63:=by rw [þ];decide
def oM:OpR X (binaryOp .Add) (λx y H Q=>∃i j,x=.str i/\y=.str j/\i.length+j.length<=sizeLine/\Q (.str (i++j)) H):=by
 intro a s σ H x y v u Q I d e h
 obtain ⟨i,j,rfl,rfl,b,q⟩:=h
 obtain ⟨t,rfl⟩:=d
 obtain ⟨c,rfl⟩:=e
 exact add_str (λc l=>⟨.str (i++j),H,I.tok _,⟨_,ϱ⟩,q⟩) b
def bz(r:Vals [x] us):∃u,us=[u]/\RelV x u:=by
 cases r with
 | cons r1 r2=>cases r2;exact ⟨_,rfl,r1⟩
def pW(r:Vals [x,y] us):∃u w',us=[u,w']/\RelV x u/\RelV y w':=by
 cases r with
 | cons r1 r2 =>
  cases r2 with
  | cons r3 r4=>cases r4;exact ⟨_,_,rfl,r1,r3⟩
def tZ:CallR X (.type "int") (λxs H Q=>(∃i,xs=[.int i]/\Q (.int i) H)\/∃k,xs=[.bl k]/\Q (.int (if k then 1 else 0)) H):=by
 intro a s σ H xs us Q I r h
 rcases h with ⟨i,rfl,q⟩ | ⟨k,rfl,q⟩
 .obtain ⟨u,rfl,t,rfl⟩:=bz r
  exact call_int_int ⟨.int i,H,I,⟨_,ϱ⟩,q⟩
 .obtain ⟨u,rfl,b⟩:=bz r
  cases b
  exact call_int_bool ⟨.int (if k then 1 else 0),H,I.tok _,⟨_,ϱ⟩,q⟩
def lN:CallR X (.type "str") (λxs H Q=>∃i,xs=[.int i]/\i.natAbs.log2<1920/\Q (.str (toString i)) H):=by
 intro a s σ H xs us Q I r h
 obtain ⟨i,rfl,b,q⟩:=h
 obtain ⟨u,rfl,t,rfl⟩:=bz r
 exact PySem.P.str_of_int b ⟨.str _,H,I.tok _,⟨_,ϱ⟩,q⟩
def wS:CallR X (.builtin "ord") (λxs H Q=>∃x,xs=[.str x]/\x.length=1/\Q (.int (x.cps.getD 0 0:Nat)) H):=by
 intro a s σ H xs us Q I r h
 obtain ⟨x,rfl,b,q⟩:=h
 obtain ⟨u,rfl,t,rfl⟩:=bz r
 exact ord_of_one b ⟨.int _,H,I.tok _,⟨_,ϱ⟩,q⟩
end
structure ObjM(h:Ý)(x dx C:ã)(mA:û):Prop where
 obj:h.get? x=some (PySem.W.instObj C dx)
 ns:h.Ns1 dx mA
 ne:dx≠x
def tm{h:Ý}{d:ã}{i:û}(n:h.Ns1 d i):∃od,h.get? d=some od/\∀name,PySem.W.lookIn name od=some (i name):=by
 obtain ⟨o,c,v,j,l,m,_,p⟩:=n
 refine ⟨o,j,λname=>?_⟩
 have e:=p name
 unfold nsFind findBy at e
 rw [← Array.find?_toList] at e
 unfold PySem.W.lookIn
 rw [l]
 dsimp only
 split
 .rename_i y q
  rw [q] at e
  exact congrArg some e
 .rename_i q
  rw [q] at e
  have a:c.toList.any (·.refKey)=false:=by
   rw [Ġ]
   intro y u
   obtain ⟨z,t,b⟩:=m y (Array.mem_toList_iff.mp u)
   simp [DictEntry.refKey,b]
  have r:¬c.toList.any (·.refKey)=true:=by rw [a];exact Ų
  rw [Ž r]
  exact congrArg some e
def ObjM.look{mA:û}(I:ObjM h x dx C mA):∃od,PySem.W.InstAt h x (PySem.W.instObj C dx) C (some od)/\∀name,PySem.W.lookIn name od=some (mA name) :=
 let ⟨od,ho,hl⟩:=tm I.ns
 ⟨od,⟨I.obj,ϱ,ϱ,ho⟩,hl⟩
section
variable {prog:ä}{w:â}{A:à}{E:ü}{s:å}{K:Þ}{x dx C f:ã}{mA:û}{name:Str}{v:ß}
def zN{Q:ü}(X:K.In s.heap)(I:ObjM s.heap x dx C mA)(c:PySem.W.plainGet K C name=true)(hh:PySem.W.hasDictIn K C=true)
  (d:PySem.W.findIn K (.ref C) name=some none)(e:mA name=some v)(a:PySem.W.handedIn v=true)(h:Q v {s with toks:=s.toks+1}) :
  wpAny (model prog w) A (getAttr (.ref x) name expr) Q E s:=by
 obtain ⟨i,J,b⟩:=I.look
 exact PySem.W.get_value X J (PySem.W.plainGet_of c).1 (PySem.W.findObj_own hh d rfl (by rw [b,e])) a h
def wm{Q:Value×õ->å->Prop}(X:K.In s.heap)(I:ObjM s.heap x dx C mA)(a:PySem.W.plainGet K C name=true)
  (hf:PySem.W.findIn K (.ref C) name=some (some (.ref f)))(d:PySem.W.isFn K (.ref f)=true)(e:mA name=none)(h:Q (.ref f,[.ref x]) s) :
  wpAny (model prog w) A (getMethod (.ref x) name pl) Q E s:=by
 obtain ⟨b,J,c⟩:=I.look
 exact PySem.W.method_fn X J (PySem.W.plainGet_of a).1 (PySem.W.plainGet_of a).2 hf (ć.mp d) (by show (PySem.W.lookIn name b).map (·.isSome)=some false;rw [c,e];rfl) h
theorem ym{Q:Unit->å->Prop}(X:K.In s.heap)(I:ObjM s.heap x dx C mA)
  (q:PySem.W.findIn K (.ref C) "__setattr__"=some (some (.builtin "object.__setattr__")))(hp:PySem.W.plainOver K C=true)(u:PySem.W.takerIn K C name=some none)(hh:PySem.W.hasDictIn K C=true)
  (hw:PySem.Within mA ns)(hsz:ns.length<=sizeLine)
  (h:∀h',ObjM h' x dx C (λy=>if y=name then some v else mA y)->Heap.SameBut dx s.heap h'->Q () {s with heap:=h',toks:=s.toks+2}) :
  wpAny (model prog w) A (setAttr (.ref x) name v) Q E s:=by
 obtain ⟨z,J,D⟩:=I.look
 refine PySem.W.set_plain X J q (PySem.W.osa_open (s:={s with toks:=s.toks+1}) (r:=none) X J hp u λb=>?_)
 obtain ⟨F,m,e⟩:=PySem.W.any_some hh
 have p:s.heap.get? x=some ⟨.ref C,some dx,.plain,#[]⟩:=I.obj
 refine ε (π (ε (ε (wpAny_loadPart p (ε (PySem.W.Looks.here (s:={s with toks:=s.toks+1}) (PySem.W.looks_clsIn X m) ?_))))))
 rw [e]
 refine π (a:=some dx) (ε (π (ε ?_)))
 refine wpAny_nsSet1 (s:={s with toks:=s.toks+1}) I.ns λh' c d=>?_
 obtain ⟨oD,n,o,i,j,l⟩:=c.count (PySem.Within.cons name v hw)
 refine ε (wpAny_lookBehind i (by rw [j];exact pastItsLine_dict (Λ l (by rw [Ũ];lia))) ?_)
 exact π (h _ ⟨(d.2 _ (Ne.symm I.ne)).trans I.obj,c,I.ne⟩ d)
def vX{R:Result->å->Prop}(X:K.In s.heap)(b:PySem.W.makesIn K C=true)
  (c:PySem.W.findIn K (.ref C) "__init__"=some (some (.ref f)))(hf:PySem.W.typeIn K (.ref f)=some (.type "function"))
  (h:codeAny (model prog w) (A.under (.builtin "type.__call__" ⟨.ref C::vs,kw⟩)) (.call (.ref f) ⟨.ref (s.heap.objs.size+1)::vs,kw⟩) (PySem.W.InitBack (s.heap.objs.size+1) R)
   {s with heap:=(s.heap.push PySem.W.emptyDict).push (PySem.W.instObj C s.heap.objs.size)}) :
  codeAny (model prog w) A (.call (.ref C) ⟨vs,kw⟩) R s:=by
 obtain ⟨e,g,d,t,i⟩:=s
 exact PySem.W.make_core (PySem.W.makes_of X b) (PySem.W.looks_findIn X c) (λa=>PySem.W.bind_fn X a hf) (.inl rfl) h
end
noncomputable def bK(f:Str)(v:V):List (Str×V)->List (Str×V)
 | []=>[(f,v)]
 | (g,x)::r=>if g=f then (g,v)::r else (g,x)::bK f v r
theorem gp(f g:Str)(v:V):∀fs:List (Str×V),(bK f v fs).lookup g=if g=f then some v else fs.lookup g
 | []=>by
  show List.lookup g [(f,v)]=_
  by_cases h:g=f
  .have hb:(g==f)=true:=ć.mpr h
   simp only [List.lookup,hb,if_pos h]
  .have hb:(g==f)=false:=ū.mpr h
   simp only [List.lookup,hb,if_neg h]
 | (k,x)::r=>by
  have ih:=gp f g v r
  rw [show bK f v ((k,x)::r)=(if k=f then (k,v)::r else (k,x)::bK f v r) from rfl]
  by_cases hk:k=f
  .rw [Ż hk]
   by_cases h:g=k
   .have hb:(g==k)=true:=ć.mpr h
    simp only [List.lookup,hb,if_pos (h.trans hk)]
   .have hb:(g==k)=false:=ū.mpr h
    simp only [List.lookup,hb,if_neg (λe:g=f=>h (e.trans hk.symm))]
  .rw [Ž hk]
   by_cases h:g=k
   .have hb:(g==k)=true:=ć.mpr h
    simp only [List.lookup,hb,if_neg (λe:g=f=>hk (h.symm.trans e))]
   .have hb:(g==k)=false:=ū.mpr h
    simp only [List.lookup,hb]
    exact ih
theorem fQ(f:Str)(v:V):∀fs:List (Str×V),f∈(bK f v fs).map (·.1)/\∀g,g∈fs.map (·.1)->g∈(bK f v fs).map (·.1)
 | []=>⟨by simp [bK],λg h=>by simp at h⟩
 | (k,x)::r=>by
  obtain ⟨i1,i2⟩:=fQ f v r
  rw [show bK f v ((k,x)::r)=(if k=f then (k,v)::r else (k,x)::bK f v r) from rfl]
  by_cases hk:k=f
  .rw [Ż hk]
   subst hk
   exact ⟨by simp,λg h=>by simpa using h⟩
  .rw [Ž hk]
   refine ⟨?_,λg h=>?_⟩
   .rw [Ŵ]
    exact Θ _ i1
   .rw [Ŵ] at h ⊢
    rcases ϕ.mp h with e | e
    .exact ϕ.mpr (.inl e)
    .exact Θ _ (i2 g e)
theorem gq(f:Str)(v:V):∀fs:List (Str×V),(bK f v fs).length<=fs.length+1
 | []=>by simp [bK]
 | (k,x)::r=>by
  have ih:=gq f v r
  rw [show bK f v ((k,x)::r)=(if k=f then (k,v)::r else (k,x)::bK f v r) from rfl]
  by_cases hk:k=f
  .rw [Ż hk,Ũ,Ũ];lia
  .rw [Ž hk,Ũ,Ũ];lia
def RelO.some_of(r:RelO (some v) o):∃u,o=some u/\RelV v u:=by
 cases o with
 | none=>exact (show False from r).elim
 | some u=>exact ⟨u,rfl,r⟩
def RelO.none_of(r:RelO none o):o=none:=by
 cases o with
 | none=>rfl
 | some u=>exact (show False from r).elim
def tK(r:RelV v u):PySem.W.handedIn u=true:=by
 cases v with
 | non=>cases (show u=Value.none from r);rfl
 | bl b=>cases (show u=Value.bool b from r);rfl
 | int i=>obtain ⟨t,e⟩:=(show ∃t,u=Value.int i t from r);cases e;rfl
 | str x=>obtain ⟨t,e⟩:=(show ∃t,u=Value.str x t from r);cases e;rfl
 | byt b=>obtain ⟨t,e⟩:=(show ∃t,u=Value.bytes b t from r);cases e;rfl
 | flt b=>obtain ⟨t,e⟩:=(show ∃t,u=Value.float b t from r);cases e;rfl
 | ref a=>cases (show u=Value.ref a from r);rfl
 | ty n=>cases (show u=Value.type n from r);rfl
section
variable {P:ä}{w:â}{H H':Hp}{h h':Ý}{a C dx:ã}{fs fs':List (Str×V)}
def gP(b:HOk P w H h)(e:H a=some (.ins C dx fs)):∃mA,ObjM h a dx C mA/\(∀f,RelO (fs.lookup f) (mA f))/\PySem.Within mA (fs.map (·.1))/\fs.length<=1000/\H dx=some (.own a):=by
 obtain ⟨d,z,c,i,mA,n,r,q⟩:=(show ObjOk P w H h a (.ins C dx fs) from b a _ e)
 exact ⟨mA,⟨i,n,c⟩,r,q,z,d⟩
end
structure Cls(K:Þ)(C:ã):Prop where
 pg:PySem.W.plainGet K C Str.empty=true
 hd:PySem.W.hasDictIn K C=true
 po:PySem.W.plainOver K C=true
 sa:PySem.W.findIn K (.ref C) "__setattr__"=some (some (.builtin "object.__setattr__"))
def Cls.get{K:Þ}{C:ã}(c:Cls K C)(f:Str):PySem.W.plainGet K C f=true:=c.pg
def NoAttr(K:Þ)(C:ã)(f:Str):Prop:=PySem.W.findIn K (.ref C) f=some none
def NoAttr.taker{K:Þ}{C:ã}{f:Str}(n:NoAttr K C f):PySem.W.takerIn K C f=some none:=by
 unfold PySem.W.takerIn
 rw [show PySem.W.findIn K (.ref C) f=some none from n]
 rfl
structure n8(K:Þ)(C:ã)(m:Str)(f:ã):Prop where
 at_:PySem.W.findIn K (.ref C) m=some (some (.ref f))
 fn:PySem.W.isFn K (.ref f)=true
 kp:PySem.W.keepIn K (.ref f)=true
section
variable {X:Cx}{pins:ý}{σ:St}{H:Hp}{s:å}{a C dx:ã}{fs:List (Str×V)}{f:Str}{v:V}{A:à}{E:ü}
def iV{Q:ü}(I:Inv X pins σ H s)(e:H a=some (.ins C dx fs))(c:Cls X.K C)(n:NoAttr X.K C f)(l:fs.lookup f=some v)
  (h:∀u s',Inv X pins σ H s'->RelV v u->Q u s'):wpAny (model X.prog X.w) A (getAttr (.ref a) f b) Q E s:=by
 obtain ⟨i,O,r,_,_,_⟩:=gP I.hok e
 obtain ⟨u,j,d⟩:=RelO.some_of (v:=v) (o:=i f) (by rw [← l];exact r f)
 exact zN I.kIn O (c.get f) c.hd n j (tK d) (h u _ (I.tok _) d)
def dQ{Q:Value×õ->å->Prop}(I:Inv X pins σ H s)(e:H a=some (.ins C dx fs))(c:Cls X.K C)(k:n8 X.K C m g)(l:fs.lookup m=none)
  (h:Q (.ref g,[.ref a]) s):wpAny (model X.prog X.w) A (getMethod (.ref a) m pl) Q E s:=by
 obtain ⟨b,O,r,_,_,_⟩:=gP I.hok e
 have d:b m=none:=RelO.none_of (by rw [← l];exact r m)
 exact wm I.kIn O (c.get m) k.at_ k.fn d h
theorem ie{Q:Unit->å->Prop}(I:Inv X pins σ H s)(e:H a=some (.ins C dx fs))(c:Cls X.K C)(n:NoAttr X.K C f)(L:fs.length<1000)(G:RelV y u)
  (h:∀s',Inv X pins σ (upd H a (.ins C dx (bK f y fs))) s'->Q () s'):wpAny (model X.prog X.w) A (setAttr (.ref a) f u) Q E s:=by
 obtain ⟨i,O,r,j,_,l⟩:=gP I.hok e
 have m:(fs.map (·.1)).length<=sizeLine:=by rw [ν,þ];lia
 refine ym I.kIn O c.sa c.po n.taker c.hd j m λv d sb=>h _ ?_
 have p:∃o,v.get? dx=some o:=let ⟨o,_,_,e',_⟩:=d.ns;⟨o,e'⟩
 refine I.write (x:=a) (e:=dx) (by rw [e];exact ϰ) (.inr l) (λb q D z=>(sb.2 b D).trans z) p ?_
 refine ⟨by rw [ah O.ne];exact l,?_,O.ne,d.obj,_,d.ns,λg=>?_,λg F=>?_⟩
 .have:=gq f y fs;lia
 .show RelO ((bK f y fs).lookup g) (if g=f then some u else i g)
  rw [gp]
  by_cases q:g=f
  .rw [Ż q,Ż q];exact G
  .rw [Ž q,Ž q];exact r g
 .by_cases q:g=f
  .rw [q];exact (fQ f y fs).1
  .refine (fQ f y fs).2 g (j g λz=>F ?_)
   show (if g=f then some u else i g)=none
   rw [Ž q];exact z
def Inv.made(I:Inv X pins σ H s):Inv X pins σ (upd (upd H s.heap.objs.size (.own (s.heap.objs.size+1))) (s.heap.objs.size+1) (.ins C s.heap.objs.size []))
  {s with heap:=(s.heap.push PySem.W.emptyDict).push (PySem.W.instObj C s.heap.objs.size)}:=by
 have c:(s.heap.push PySem.W.emptyDict).get? s.heap.objs.size=some PySem.W.emptyDict:=ϻ s.heap rfl
 have h:((s.heap.push PySem.W.emptyDict).push (PySem.W.instObj C s.heap.objs.size)).get? (s.heap.objs.size+1)=some (PySem.W.instObj C s.heap.objs.size):=by
  have:=ϻ (s.heap.push PySem.W.emptyDict) (o:=PySem.W.instObj C s.heap.objs.size) rfl
  rwa [Ć] at this
 have i:(s.heap.push PySem.W.emptyDict).Ns s.heap.objs.size (λ_=>none):=⟨PySem.W.emptyDict,#[],_,c,ϱ,(λe l=>absurd l (by simp)),λ_=>rfl⟩
 have j:=I.laid (a:=s.heap.objs.size) (o:=.own (s.heap.objs.size+1)) (h':=s.heap.push PySem.W.emptyDict) (t':=s.toks) (λb u q=>ϸ _ q) (ι _) ⟨_,c⟩
 refine j.laid (a:=s.heap.objs.size+1) (o:=.ins C s.heap.objs.size []) (t':=s.toks) (λb u q=>ϸ _ q) (Nat.le_of_eq (Ć _ _)) ?_
 have d:s.heap.objs.size≠s.heap.objs.size+1:=Φ (ī _)
 refine ⟨by rw [ah d,ai],ϖ _,d,h,λ_=>none,(Heap.Ns1.of_empty i).at λo q=>ϸ _ q,λ_=>ϰ,λy m=>absurd rfl m⟩
def Ac{Q:ü}(hb:attributeBase e f env (eval e env)=eval e env)
  (h:wpAny (model prog w) A (eval e env) (λo s₁=>wpAny (model prog w) A (getAttr o f true) Q E s₁) E s):wpAny (model prog w) A (eval (.Attribute e f pos) env) Q E s :=
 Attribute_any_ h (by rw [arm_eval_Attribute,hb])
end
def Cc(K:Þ)(ta:TE)(f:Str):TE:=fun σ H Q=>ta σ H λx H1=>∃a C dx fs v,x=.ref a/\H1 a=some (.ins C dx fs)/\Cls K C/\NoAttr K C f/\fs.lookup f=some v/\Q v H1
def Hf(K:Þ)(ta tv:TE)(f:Str):TS:=λD σ H=>tv σ H λy H1=>ta σ H1 λx H2=>∃a C dx fs,x=.ref a/\H2 a=some (.ins C dx fs)/\Cls K C/\NoAttr K C f/\fs.length<1000 /\
 D.nx σ (upd H2 a (.ins C dx (bK f y fs)))
def GZ(X:Cx)(op:Operator)(rd:V->V->Hp->VK->Prop):Prop :=
 ∀(pins:ý) (s:å) (σ:St) (H:Hp) (x y:V) (u v:ß) (Q:VK),Inv X pins σ H s->RelV x u->RelV y v->rd x y H Q->wpAny (model X.prog X.w) X.A (inplaceOp op u v) (EP X pins σ Q) X.xe s
def yA(K:Þ)(ta tv:TE)(rd:V->V->Hp->VK->Prop)(f:Str):TS:=λD σ H=>ta σ H λx H1=>∃a C dx fs v,x=.ref a/\H1 a=some (.ins C dx fs)/\Cls K C/\NoAttr K C f/\fs.lookup f=some v /\
 tv σ H1 λy H2=>rd v y H2 λz H3=>∃dx' fs',H3 a=some (.ins C dx' fs')/\fs'.length<1000/\D.nx σ (upd H3 a (.ins C dx' (bK f z fs')))
section
variable {X:Cx}{o e value:Û}{f:Str}{pos pos' tpos:Pos}{ta tv:TE}
def kH(r:PE X e ta)(w:attributeBase e f X.env (eval e X.env)=eval e X.env):PE X (.Attribute e f pos) (Cc X.K ta f):=by
 intro b s σ H Q I h
 refine Ac w (thn (r b s σ H _ I h) λu y ⟨x,H1,d,i,a,C,z,fs,v,j,m,c,n,l,q⟩=>?_)
 subst j
 obtain rfl:u=Value.ref a:=i
 exact iV d m c n l λD F o p=>⟨v,H1,o,p,q⟩
def CO(F:PE X o ta)(G:PE X value tv)(L:swapsWith value (some (.Attribute o f pos')) pos.line X.env=pure false):PS X (.Assign [.Attribute o f pos'] value pos) (Hf X.K ta tv f):=by
 intro b s σ H D I h
 refine plainObj_wpAny_Assign_Attribute (thn (G b s σ H _ I h) λu d ⟨y,H1,e,i,q⟩=>thn (F b d σ H1 _ e q) λj N ⟨x,O,m,p,a,C,Q,fs,r,v,c,n,l,w⟩=>?_) L
 subst r
 obtain rfl:j=Value.ref a:=p
 exact ie m v c n l i λS z=>⟨σ,_,z,w⟩
def sF{i:V->V->Hp->VK->Prop}(ha:PE X o ta)(hv:PE X value tv)(e:GZ X op i):PS X (.AugAssign (.Attribute o f tpos) op value pos) (yA X.K ta tv i f):=by
 intro b s σ H D I h
 refine wpAny_AugAssign_AttributeAny (thn (ha b s σ H _ I h) λj s1 ⟨x,H1,m,p,a,C,dx,fs,v,r,w,c,n,l,q⟩=>?_)
 subst r
 obtain rfl:j=Value.ref a:=p
 refine iV m w c n l λu F G L=>thn (hv b F σ H1 _ G q) λN O ⟨y,Q,S,U,Y⟩=>thn (e b O σ Q v y u N _ S L U Y) λw4 s4 ⟨z,H3,Z,rz,a1,a2,d,l',q4⟩=>?_
 exact ie Z d c n l' rz λs5 I5=>⟨σ,_,I5,q4⟩
def Hj:V->V->Hp->VK->Prop:=λx y H Q=>∃i j,x=.int i/\y=.int j/\Q (.int (i+j)) H
def Dt:GZ X .Add Hj:=by
 rintro b s σ H x y u v Q I c d ⟨i,j,rfl,rfl,q⟩
 obtain ⟨t,rfl⟩:=(show ∃t,u=Value.int i t from c)
 obtain ⟨a,rfl⟩:=(show ∃a,v=Value.int j a from d)
 exact PyProof.Rows.iadd_int ⟨.int (i+j),H,I.tok _,⟨_,ϱ⟩,q⟩
def mM{Q:ü}(n:PE X e te)(I:Inv X pins σ H s)
  (h:te σ H λx H1=>∃a C dx fs g,x=.ref a/\H1 a=some (.ins C dx fs)/\Cls X.K C/\n8 X.K C m g/\fs.lookup m=none /\
   ∀s1,Inv X pins σ H1 s1->wpAny (model X.prog X.w) X.A (callWith pos (.ref g) [.ref a] (backTo pos (starEach args X.env)) (backToKw pos (keywordEach [] X.env))) Q X.xe s1)
  (o:eval (.Call (.Attribute e m apos) args [] pos) X.env=(do
   let ov ← eval e X.env
   standAt apos.atName
   let (f,first) ← holding [ov] (getMethod ov m pl)
   callWith pos f first (backTo pos (starEach args X.env)) (backToKw pos (keywordEach [] X.env)))) :
  wpAny (model X.prog X.w) X.A (eval (.Call (.Attribute e m apos) args [] pos) X.env) Q X.xe s:=by
 refine č (pl:=pl) (thn (n pins s σ H _ I h) λu s1 ⟨x,H1,b,d,a,C,dx,fs,g,i,j,c,k,l,q⟩=>?_) o
 subst i
 obtain rfl:u=Value.ref a:=d
 exact dQ b j c k l (q s1 b)
end
section
variable {X:Cx}{pins:ý}{σ:St}{H:Hp}{s:å}{A:à}{E:ü}{Q:ü}{c:ß}{b:Bool}
inductive fF (K:Þ) (H:Hp):V->ß->Prop where
 | non:fF K H .non (.type "NoneType")
 | bl (x:Bool):fF K H (.bl x) (.type "bool")
 | int (i:Int):fF K H (.int i) (.type "int")
 | str (x:Str):fF K H (.str x) (.type "str")
 | flt (x:UInt64):fF K H (.flt x) (.type "float")
 | lst {a:ã} {xs:Ú V} (e:H a=some (.lst xs)):fF K H (.ref a) (.type "list")
 | frz {a:ã} {o:Obj} {xs:Ú V} (e:H a=some (.frz o (.lst xs))):fF K H (.ref a) (.type "list")
 | tup {a:ã} {xs:Ú V} (e:H a=some (.tup xs)):fF K H (.ref a) (.type "tuple")
 | dK {a:ã} {kvs:List (Key×V)} (e:H a=some (.dK kvs)):fF K H (.ref a) (.type "dict")
 | dT {a:ã} {kvs:List (List Key×V)} (e:H a=some (.dT kvs)):fF K H (.ref a) (.type "dict")
 | ins {a C dx:ã} {fs:List (Str×V)} (e:H a=some (.ins C dx fs)) (cl:Cls K C) (ha:PySem.W.findIn K (.ref C) "__class__"=some (some (.builtin "object.__class__")))
   (hn:PySem.W.specialIn K (.builtin "object.__class__") "__get__"=some (some (.builtin "getset_descriptor.__get__"))) (htk:PySem.W.takesIn K (.builtin "object.__class__")=some true)
   (hm:PySem.W.mroIn K C (.type "object")=some true):fF K H (.ref a) (.ref C)
def tH(I:Inv X pins σ H s)(d:RelV x u)(ty:fF X.K H x t)(e:PySem.W.kitOne X.K t c=some b)(h:∀tk,Q (.bool b) {s with toks:=tk}) :
  wpAny (model X.prog X.w) A (call (.builtin "isinstance") [u,c]) Q E s:=by
 cases ty with
 | non=>cases (show u=Value.none from d);exact Œ PySem.W.kitx_none I.kIn ϰ e (λz=>nomatch z) h
 | bl y=>cases (show u=Value.bool y from d);exact Œ PySem.W.kitx_bool I.kIn ϰ e (λz=>nomatch z) h
 | int i=>obtain ⟨t,q⟩:=(show ∃t,u=Value.int i t from d);cases q;exact Œ PySem.W.kitx_int I.kIn ϰ e (λz=>nomatch z) h
 | str y=>obtain ⟨t,q⟩:=(show ∃t,u=Value.str y t from d);cases q;exact Œ PySem.W.kitx_str I.kIn ϰ e (λz=>nomatch z) h
 | flt y=>obtain ⟨t,q⟩:=(show ∃t,u=Value.float y t from d);cases q;exact Œ PySem.W.kitx_float I.kIn ϰ e (λz=>nomatch z) h
 | @lst a j ea =>
  cases (show u=Value.ref a from d)
  obtain ⟨_,_,n,_,h1⟩:=(show ObjOk X.prog X.w H s.heap a (.lst j) from I.hok a _ ea)
  exact Œ PySem.W.kitx_list I.kIn ⟨_,h1,ϱ⟩ e (λz=>nomatch z) h
 | @frz a ob j ea =>
  cases (show u=Value.ref a from d)
  obtain ⟨_,_,_,n,_,h1⟩:=(show ObjOk X.prog X.w H s.heap a (.frz ob (.lst j)) from I.hok a _ ea)
  exact Œ PySem.W.kitx_list I.kIn ⟨_,h1,ϱ⟩ e (λz=>nomatch z) h
 | @tup a j ea =>
  cases (show u=Value.ref a from d)
  obtain ⟨_,_,_,p⟩:=(show ObjOk X.prog X.w H s.heap a (.tup j) from I.hok a _ ea)
  obtain ⟨o,h1,l,_⟩:=p
  exact Œ PySem.W.kitx_tuple I.kIn ⟨o,h1,l⟩ e (λz=>nomatch z) h
 | @dK a kvs ea =>
  cases (show u=Value.ref a from d)
  obtain ⟨_,_,v,_,p⟩:=(show ObjOk X.prog X.w H s.heap a (.dK kvs) from I.hok a _ ea)
  obtain ⟨o,m,r,h1,l,_⟩:=p
  exact Œ PySem.W.kitx_dict I.kIn ⟨o,h1,l.1⟩ e (λz=>nomatch z) h
 | @dT a kvs ea =>
  cases (show u=Value.ref a from d)
  obtain ⟨_,_,j,_,o,m,r,h1,l,_⟩:=(show ObjOk X.prog X.w H s.heap a (.dT kvs) from I.hok a _ ea)
  exact Œ PySem.W.kitx_dict I.kIn ⟨o,h1,l.1⟩ e (λz=>nomatch z) h
 | @ins a C dx fs ea cl ha hn htk hm =>
  cases (show u=Value.ref a from d)
  obtain ⟨D,O,_⟩:=gP I.hok ea
  obtain ⟨F,J,_⟩:=O.look
  exact Œ (PySem.W.kitx_own (cl.get _) cl.hd ha hn htk hm) I.kIn J e (λz=>nomatch z) h
end
structure Room(k:Nat)(A:à):Prop where
 hd:A.handled=none
 dp:A.depth+3*k+5<recursionLimit
 un:A.units+16*k+200<cLine
theorem Room.mono(r:Room k A)(h:j<=k):Room j A:=⟨r.hd,by have:=r.dp;lia,by have:=r.un;lia⟩
theorem Room.deeper(r:Room (k+1) A)(env:Env):Room k (A.deeper env) :=
 ⟨r.hd,by have:=r.dp;show A.depth+1+3*k+5<_;lia,by have:=r.un;show A.units+3+16*k+200<_;lia⟩
def oW{A:à}{C:ã}{us:õ}{a:Ú (Str×ß)}:(A.under (.builtin "type.__call__" ⟨.ref C::us,a⟩)).depth=A.depth+1:=by
 first | rfl | simp [Around.under,Code.weight,Code.isCreation,Code.isGuard,Code.isCaller,Code.frames,Code.isFrame,guardIds]
def oV{A:à}{C:ã}{us:õ}{a:Ú (Str×ß)}:(A.under (.builtin "type.__call__" ⟨.ref C::us,a⟩)).units=A.units+1:=by
 first | rfl | simp [Around.under,Code.cUnits,Code.frames,Code.isFrame]
theorem Room.make(r:Room (k+1) A)(C:ã)(us:õ)(kw:Ú (Str×ß)):Room k (A.under (.builtin "type.__call__" ⟨.ref C::us,kw⟩)) :=
 ⟨r.hd,by have:=r.dp;rw [oW];lia,by have:=r.un;rw [oV];lia⟩
theorem Room.depth(r:Room k A):A.depth<recursionLimit:=by have:=r.dp;lia
theorem Room.units(r:Room k A):A.units+64<cLine:=by have:=r.un;lia
def Cb:TA:=λ_ H Q=>Q [] H
def EW(ta:TE)(tr:TA):TA:=fun σ H Q=>ta σ H λx H1=>tr σ H1 λxs H2=>Q (x::xs) H2
section
variable {X:Cx}{e:Û}{es:ï}{te:TE}{t:TA}{pos:Pos}
def pa_nil:PA X [] Cb:=λ_ _ _ _ H Q I h=>Calls.spliced_nil ⟨[],H,I,.nil,h⟩
def bu(p:PE X e te)(q:PA X es t)(r:starEach (e::es) X.env=(false,eval e X.env)::starEach es X.env:=by rfl):PA X (e::es) (EW te t):=by
 intro pos a s σ H Q I h
 rw [r]
 show wpAny _ _ (spliced ((false,eval e X.env)::backTo pos (starEach es X.env))) _ _ s
 refine Calls.spliced_cons (thn (p a s σ H _ I h) λu b ⟨x,H1,c,d,i⟩=>?_)
 exact thn (q pos a b σ H1 _ c i) λus v ⟨j,l,m,n,o⟩=>⟨x::j,l,m,.cons d n,o⟩
def G4(t:TA):TE:=fun σ H Q=>t σ H λxs H1=>xs.length<=sizeLine/\∀p,H1 p=none->Q (.ref p) (upd H1 p (.tup xs))
def G9(t:TA):TE:=fun σ H Q=>t σ H λxs H1=>xs.length<=sizeLine/\∀p,H1 p=none->Q (.ref p) (upd H1 p (.lst xs))
def CT{x1}(h:PA X es t):PE X (.Tuple es x1 pos) (G4 t):=by
 intro a s σ H Q I l
 refine wpAny_Tuple_spliced (thn (h pos a s σ H _ I l) λus c ⟨j,H1,d,r,z,q⟩=>⟨by rw [← r.length];exact z,?_⟩)
 have i:H1 c.heap.objs.size=none:=d.hok.fresh (ι _)
 refine ⟨.ref c.heap.objs.size,upd H1 c.heap.objs.size (.tup j),d.laid (t':=c.toks) (λb u e=>ϸ _ e) (ι _) ?_,ϱ,q _ i⟩
 exact ⟨z,us,r,IsTupN.new _ _⟩
def CY(h:PA X es t):PE X (.List es pos) (G9 t):=by
 intro a s σ H Q I l
 refine wpAny_List_spliced (thn (h pos a s σ H _ I l) λus c ⟨j,H1,d,r,z,q⟩=>⟨by rw [← r.length];exact z,?_⟩)
 have i:H1 c.heap.objs.size=none:=d.hok.fresh (ι _)
 refine ⟨.ref c.heap.objs.size,upd H1 c.heap.objs.size (.lst j),d.laid (t':=c.toks) (λb u e=>ϸ _ e) (ι _) ?_,ϱ,q _ i⟩
 exact ⟨z,us,0,r,ϻ _ rfl⟩
end
abbrev Sp:=Ú V->Hp->VK->XK->Prop
abbrev CXT:=ð->Hp->å->XK->ß->å->Prop
structure Env0(P:ä)(w:â)(K:Þ)(mg:û)(base:Ý)(A:à)(outer:ð)(s:å)(H:Hp):Prop where
 frames:A.frames=some outer
 mod:Mod K mg base
 bs:∀b o,base.get? b=some o->s.heap.get? b=some o/\H b=none
 bsz:base.objs.size<=s.heap.objs.size
 funs:s.heap.FunFrames base outer
 frf:∀b∈frs outer,H b=none
 hok:HOk P w H s.heap
 bare:AllBare s.gens
def CE(outer:ð)(P:ä)(w:â)(H:Hp)(s:å)(Q:VK)(u:ß)(s':å):Prop :=
 ∃v H',s'.os=s.os/\AllBare s'.gens/\Un (frs outer) [] H H' s.heap s'.heap/\HOk P w H' s'.heap/\RelV v u/\Q v H'
def CR(CX:CXT)(outer:ð)(P:ä)(w:â)(H:Hp)(s:å)(Q:VK)(E:XK)(r:Result)(s':å):Prop :=
 match r with
 | .ok (.ret u)=>CE outer P w H s Q u s'
 | .ok _=>False
 | .error e=>CX outer H s E e s'
structure dW(P:ä)(w:â)(K:Þ)(mg:û)(base:Ý)(CX:CXT)(k:Nat)(f:ã)(fd:á)(ps:ó)(sp:Sp):Prop where
 len:∀vs H Q E,sp vs H Q E->vs.length=ps.length
 run:∀(A:à) (outer:ð) (s:å) (H:Hp) (args:Args) (us:õ) (vs:Ú V) (Q:VK) (E:XK),Room k A->Env0 P w K mg base A outer s H->BindsTo s fd args (ps.zip us)->Vals vs us->sp vs H Q E ->
  codeAny (model P w) A (.call (.ref f) args) (CR CX outer P w H s Q E) s
def Env0.make{P:ä}{w:â}{K:Þ}{mg:û}{base:Ý}{A:à}{outer:ð}{s:å}{H:Hp}(e:Env0 P w K mg base A outer s H)(C:ã)(us:õ)(kw:Ú (Str×ß)) :
  Env0 P w K mg base (A.under (.builtin "type.__call__" ⟨.ref C::us,kw⟩)) outer s H:=⟨by first | exact e.frames | (simpa [Around.under,Code.envs,Code.isFrame,pushEnvs] using e.frames),e.mod,e.bs,e.bsz,e.funs,e.frf,e.hok,e.bare⟩
section
variable {X:Cx}{pins:ý}{σ:St}{H:Hp}{s s':å}
def Inv.env0(I:Inv X pins σ H s):Env0 X.prog X.w X.K X.mg X.base X.A X.stack s H :=
 ⟨I.ok.frames,I.ok.mod,I.bs,Λ I.ok.bsz I.sz,I.stack,I.stkFree,I.hok,I.bare⟩
def Inv.after(I:Inv X pins σ H s)(h:CE X.stack X.prog X.w H s Q u s'):EP X pins σ Q u s':=by
 obtain ⟨v,i,j,a,un,c,r,q⟩:=h
 obtain ⟨l,g,d,t,e⟩:=s'
 obtain rfl:e=s.os:=j
 exact ⟨v,i,I.call (h':=l) (g':=g) (d':=d) (t':=t) (ch:=[]) un c a (λb z=>absurd z (by simp)),r,q⟩
end
def uH(sp:Sp)(dvs:Ú V)(E:XK)(t:TA):TE:=fun σ H Q=>t σ H λvs H1=>sp (vs++dvs) H1 Q E
def uE(C:ã)(sp:Sp)(dvs:Ú V)(E:XK)(t:TA):TE:=fun σ H Q=>t σ H λvs H1=>∀x dx,H1 x=none->H1 dx=none->dx≠x ->
 sp (.ref x::(vs++dvs)) (upd (upd H1 dx (.own x)) x (.ins C dx [])) (λv H2=>v=.non/\Q (.ref x) H2) E
def Binds(K:Þ)(fd:á)(ps:ó)(ds:õ):Prop :=
 ∀(s:å) (us:õ),K.In s.heap->(us++ds).length=ps.length->BindsTo s fd ⟨us,[]⟩ (ps.zip (us++ds))
def Binds.all{K:Þ}{fd:á}{ps:ó}(h:∀us:õ,us.length=ps.length->bindArgs fd ⟨us,[]⟩=pure (ps.zip us)):Binds K fd ps []:=λs us _ hl=>by
 rw [ĳ] at hl ⊢
 exact .of_eq (h us hl)
def cU(CX:CXT)(X:Cx)(E:XK):Prop:=∀(pins:ý) (σ:St) (H:Hp) (s:å) (e:ß) (s':å),Inv X pins σ H s->CX X.stack H s E e s'->X.xe e s'
section
variable {X:Cx}{CX:CXT}{k:Nat}{f C:ã}{fd:á}{ps:ó}{sp:Sp}{dvs:Ú V}{ds:õ}{E:XK}{x m:Str}{p pos apos:Pos}{e o:Û}{es:ï}{ta:TE}{t:TA}
def im(F:dW X.prog X.w X.K X.mg X.base CX k f fd ps sp)(i:Room k X.A)(j:Binds X.K fd ps ds)(l:Vals dvs ds)(m:cU CX X E)
  (I:Inv X pins σ H s)(r:Vals vs us)(h:sp (vs++dvs) H Q E):wpAny (model X.prog X.w) X.A (call (.ref f) us) (EP X pins σ Q) X.xe s:=by
 have b:Vals (vs++dvs) (us++ds):=r.append l
 have c:(us++ds).length=ps.length:=by rw [← b.length];exact F.len _ _ _ _ h
 refine wpAny_call (Ą (F.run X.A X.stack s H ⟨us,[]⟩ (us++ds) (vs++dvs) Q E i I.env0 (j s us I.kIn c) b h) λr d a=>?_)
 cases r with
 | error e=>exact m pins σ H s e d I a
 | ok fl =>
  cases fl with
  | ret u=>exact I.after a
  | next=>exact False.elim a
  | brk=>exact False.elim a
  | cont=>exact False.elim a
def yY(F:dW X.prog X.w X.K X.mg X.base CX k f fd ps sp)(i:Room k X.A)(j:Gl X x)(l:X.mg x=some (.ref f))(m:PySem.W.keepIn X.K (.ref f)=true)(n:Binds X.K fd ps ds)(o:Vals dvs ds)(u:cU CX X E)
  (v:PA X (e::es) t)(b:(x==("__debug__":Str))=false:=by decide)(y:starEach (e::es) X.env=(false,eval e X.env)::starEach es X.env:=by rfl)(c:(backTo pos (starEach es X.env)).any (·.1)=false:=by rfl) :
  PE X (.Call (.Name x p) (e::es) [] pos) (uH sp dvs E t):=by
 intro a s σ H Q I h
 refine ļ (eY I j l ?_ b)
 refine Ĕ (h₀:=X.base) I.ok.mod.kin m (thn (v pos a s σ H _ I h) λus z ⟨C,H1,d,r,q⟩=>⟨d.kIn,?_⟩) y c
 exact im F i n o u d r q
def vJ(F:dW X.prog X.w X.K X.mg X.base CX k f fd ps sp)(c:Room k X.A)(d:Gl X x)(e:X.mg x=some (.ref f))(i:PySem.W.keepIn X.K (.ref f)=true)(j:Binds X.K fd ps ds)(l:Vals dvs ds)(m:cU CX X E)
  (a:(x==("__debug__":Str))=false:=by decide):PE X (.Call (.Name x p) [] [] pos) (uH sp dvs E Cb):=by
 intro b s σ H Q I h
 refine ļ (eY I d e ?_ a)
 exact PySem.W.callWith_K0 I.kIn i (im (us:=[]) F c j l m I .nil h)
structure Mk(K:Þ)(C f:ã):Prop where
 makes:PySem.W.makesIn K C=true
 init:PySem.W.findIn K (.ref C) "__init__"=some (some (.ref f))
 fn:PySem.W.isFn K (.ref f)=true
 kp:PySem.W.keepIn K (.ref C)=true
def mq(M:Mk X.K C f)(F:dW X.prog X.w X.K X.mg X.base CX k f fd ps sp)(p:Room (k+1) X.A)(q:Binds X.K fd ps ds)(y:Vals dvs ds)
  (z:cU CX X E)(I:Inv X pins σ H s)(r:Vals vs us)
  (h:∀x dx,H x=none->H dx=none->dx≠x->sp (.ref x::(vs++dvs)) (upd (upd H dx (.own x)) x (.ins C dx [])) (λv H2=>v=.non/\Q (.ref x) H2) E) :
  wpAny (model X.prog X.w) X.A (call (.ref C) us) (EP X pins σ Q) X.xe s:=by
 have c:=h (s.heap.objs.size+1) s.heap.objs.size (I.hok.fresh (ğ _)) (I.hok.fresh (ι _)) (Φ (ī _))
 have b:=Inv.made (C:=C) I
 have d:Vals (V.ref (s.heap.objs.size+1)::(vs++dvs)) (Value.ref (s.heap.objs.size+1)::(us++ds)):=.cons rfl (r.append y)
 have n:(Value.ref (s.heap.objs.size+1)::us++ds).length=ps.length:=by
  have e:=d.length
  rw [F.len _ _ _ _ c] at e
  exact e.symm
 refine wpAny_call (vX (f:=f) I.kIn M.makes M.init (ć.mp M.fn) (Ą (F.run _ X.stack _ _ ⟨Value.ref (s.heap.objs.size+1)::us,[]⟩ (Value.ref (s.heap.objs.size+1)::(us++ds)) _ _ E (p.make C us [])
  (b.env0.make C us []) (q _ (Value.ref (s.heap.objs.size+1)::us) b.kIn n) d c) λr o a=>?_))
 cases r with
 | error e=>exact z pins σ _ _ e o b a
 | ok fl =>
  cases fl with
  | ret u =>
   obtain ⟨v,i,j,l,ev,m⟩:=b.after a
   subst ev
   exact ⟨l,⟨V.ref (s.heap.objs.size+1),i,j,ϱ,m⟩⟩
  | next=>exact False.elim a
  | brk=>exact False.elim a
  | cont=>exact False.elim a
def yV(M:Mk X.K C f)(F:dW X.prog X.w X.K X.mg X.base CX k f fd ps sp)(i:Room (k+1) X.A)(j:Gl X x)(l:X.mg x=some (.ref C))(m:Binds X.K fd ps ds)(n:Vals dvs ds)(o:cU CX X E)
  (u:PA X (e::es) t)(b:(x==("__debug__":Str))=false:=by decide)(v:starEach (e::es) X.env=(false,eval e X.env)::starEach es X.env:=by rfl)(c:(backTo pos (starEach es X.env)).any (·.1)=false:=by rfl) :
  PE X (.Call (.Name x p) (e::es) [] pos) (uE C sp dvs E t):=by
 intro a s σ H Q I h
 refine ļ (eY I j l ?_ b)
 refine Ĕ (h₀:=X.base) I.ok.mod.kin M.kp (thn (u pos a s σ H _ I h) λus y ⟨z,H1,d,r,q⟩=>⟨d.kIn,?_⟩) v c
 exact mq M F i m n o d r q
def vy(M:Mk X.K C f)(F:dW X.prog X.w X.K X.mg X.base CX k f fd ps sp)(c:Room (k+1) X.A)(d:Gl X x)(e:X.mg x=some (.ref C))(i:Binds X.K fd ps ds)(j:Vals dvs ds)(l:cU CX X E)
  (a:(x==("__debug__":Str))=false:=by decide):PE X (.Call (.Name x p) [] [] pos) (uE C sp dvs E Cb):=by
 intro b s σ H Q I h
 refine ļ (eY I d e ?_ a)
 exact PySem.W.callWith_K0 I.kIn M.kp (mq (us:=[]) M F c i j l I .nil h)
end
structure dv(N P:ó)(sc:Scope):Prop where
 kind:sc.kind=.function
 co:sc.isCoroutine=false
 gen:sc.isGenerator=false
 nd:N.Nodup
 pre:N.take P.length=P
 par:∀x∈P,sc.names.lookup x=some .local\/sc.names.lookup x=some .cell
 nofree:∀y∈sc.names,y.2≠.free
def Ù{N P sc}(a:sc.kind=.function:=by rfl)(b:sc.isCoroutine=false:=by rfl)(c:sc.isGenerator=false:=by rfl)(d:N.Nodup:=by decide +kernel)(e:N.take P.length=P:=by rfl)(f:∀x∈P,sc.names.lookup x=some .local\/sc.names.lookup x=some .cell:=by decide +kernel)(g:∀y∈sc.names,y.2≠.free:=by decide +kernel):dv N P sc:=⟨a,b,c,d,e,f,g⟩
theorem jZ{kindOf:Str->Option NameKind}:∀{jc:Ú (Str×ß)} {m:û},(∀v,(x,v)∉jc)->bindL kindOf jc m x=m x
 | [],_,_=>rfl
 | (n,v)::r,m,h=>by
  unfold bindL
  rw [jZ λw hw=>h w (Θ _ hw)]
  split
  .have:x≠n:=by rintro rfl;exact h v Ω
   simp [this]
  .rfl
theorem j4{kindOf:Str->Option NameKind}:∀{jc:Ú (Str×ß)} {m:û},(∀v,(x,v)∉jc)->bindC kindOf jc m x=m x
 | [],_,_=>rfl
 | (n,v)::r,m,h=>by
  unfold bindC
  rw [j4 λw hw=>h w (Θ _ hw)]
  split
  .rfl
  .have:x≠n:=by rintro rfl;exact h v Ω
   simp [this]
theorem j0{kindOf:Str->Option NameKind}:∀{P:ó} {vs:õ} {i:Nat} {m:û},P.Nodup->P[i]?=some x->vs[i]?=some v->kindOf x=some .local ->
  bindL kindOf (P.zip vs) m x=some v
 | [],_,_,_,_,h,_,_=>by simp at h
 | _::_,[],_,_,_,_,h,_=>by simp at h
 | p::P,w::vs,0,m,nd,h1,h2,hk=>by
  simp at h1 h2;subst h1;subst h2
  show bindL kindOf ((p,w)::P.zip vs) m p=_
  unfold bindL
  rw [jZ λv hv=>(ŝ.mp nd).1 (List.of_mem_zip hv).1,Ż hk]
  simp
 | p::P,w::vs,i+1,m,nd,h1,h2,hk=>by
  show bindL kindOf ((p,w)::P.zip vs) m x=_
  unfold bindL
  exact j0 (i:=i) (List.nodup_cons.mp nd).2 (by simpa using h1) (by simpa using h2) hk
theorem j5{kindOf:Str->Option NameKind}:∀{P:ó} {vs:õ} {i:Nat} {m:û},P.Nodup->P[i]?=some x->vs[i]?=some v->kindOf x≠some .local ->
  bindC kindOf (P.zip vs) m x=some v
 | [],_,_,_,_,h,_,_=>by simp at h
 | _::_,[],_,_,_,_,h,_=>by simp at h
 | p::P,w::vs,0,m,nd,h1,h2,hk=>by
  simp at h1 h2;subst h1;subst h2
  show bindC kindOf ((p,w)::P.zip vs) m p=_
  unfold bindC
  rw [j4 λv hv=>(ŝ.mp nd).1 (List.of_mem_zip hv).1,Ž hk]
  simp
 | p::P,w::vs,i+1,m,nd,h1,h2,hk=>by
  show bindC kindOf ((p,w)::P.zip vs) m x=_
  unfold bindC
  exact j5 (i:=i) (List.nodup_cons.mp nd).2 (by simpa using h1) (by simpa using h2) hk
noncomputable def start(N:ó)(vs:Ú V):St:=vs.map some++List.replicate (N.length-vs.length) none
noncomputable def pD(CX:CXT)(P:ä)(w:â)(K:Þ)(mg:û)(base:Ý)(N:ó)(qual:Str)(scope:Scope)(f:ã)(cd:ß)(A:à)(outer:ð)(s:å)(H:Hp)(E:XK):Cx where
 prog:=P
 w:=w
 K:=K
 mg:=mg
 base:=base
 A:=A.deeper (envOfC qual scope s.heap.objs.size f cd)
 N:=N
 s₀:=s
 H₀:=H
 env:=envOfC qual scope s.heap.objs.size f cd
 outer:=outer
 stack:=envOfC qual scope s.heap.objs.size f cd::outer
 ex:=[]
 calm:=true
 fn:=λ_=>true
 pn:=[]
 xe:=λe s'=>wpAny (model P w) (A.deeper (envOfC qual scope s.heap.objs.size f cd)) (leaving (envOfC qual scope s.heap.objs.size f cd) e) (λ_ s''=>CX outer H s E e s'') (λe' s''=>CX outer H s E e' s'') s'
def nE{a:Scope}{n:Nat}{x:Str}(h:a.names.lookup x=some .cell):∃c,(cellsFrom n a.names []).lookup x=some c:=by
 have q:=PySem.W.cellsFrom_some a.names n [] (.inl h)
 exact Ů.mp q
theorem tI{L:CXT}{P:ä}{w:â}{K:Þ}{mg:û}{m:Ý}{N ps:ó}{j:Str}{scope:Scope}{f:ã}{F:ß}{A:à}{d:ð}{s O:å}{H:Hp}{E:XK}{us:õ}{vs:Ú V}
  (S:dv N ps scope)(Y:A.handled=none)(e0:Env0 P w K mg m A d s H)(hl:vs.length=ps.length)(r:Vals vs us)
  (x:InCallC s s.heap.objs.size (bindL (envOfC j scope s.heap.objs.size f F).kindOf (ps.zip us) λ_=>none) (cellsFrom (s.heap.objs.size+1) scope.names []) (bindC (envOfC j scope s.heap.objs.size f F).kindOf (ps.zip us) λ_=>none) O) :
  Inv (pD L P w K mg m N j scope f F A d s H E) [] (start N vs) H O:=by
 have U:ps.length<=N.length:=by have:=congrArg List.length S.pre;rw [ű] at this;lia
 obtain ⟨h1,Z,rfl,G⟩:=x.done
 have o:∀b:ã,b∉(pD L P w K mg m N j scope f F A d s H E).ex:=λb z=>absurd (show b∈([]:ô) from z) (by simp)
 refine ⟨⟨e0.mod,S.kind,ϱ,ϱ,ι _,λy z c h1 l=>?_,λy hy=>?_,λy c _ h=>?_,λ_=>Y,Around.frames_deeper e0.frames,.inr ⟨ϱ,ϱ⟩,λb z=>absurd z (o b),e0.bs,e0.bsz,λb _ _=>o b,λb z=>absurd z (o b),e0.funs,e0.frf⟩,
  rfl,e0.bare,Un.kept G,⟨_,x.toInCall.ns,λi y v h1 l h3=>?_⟩,λy c h=>⟨_,x.cell y c h⟩,e0.hok.fresh (Nat.le_refl _),λy c h=>?_,λp hp=>absurd (show p∈([]:ý) from hp) (by simp),e0.hok.kept G,?_⟩
 .exact name_of_addr x.apart (Ū h1) (Ū l)
 .have hy:scope.names.lookup y=some .cell\/scope.names.lookup y=some .free:=hy
  rcases hy with hy | hy
  .exact nE hy
  .exact absurd rfl (S.nofree _ (Ū hy))
 .exact ĕ (x.above y c (Ū h))
 .have D:i<vs.length:=by
   unfold start at l
   by_cases D:i<vs.length
   .exact D
   .rw [List.getElem?_append_right (by simpa using D)] at l
    rw [List.getElem?_replicate] at l
    split at l<;>cases l
  have X:vs[i]?=some v:=by
   unfold start at l
   rw [List.getElem?_append_left (by simpa using D),List.getElem?_map] at l
   cases e:vs[i]? with
   | none=>rw [e] at l;cases l
   | some a=>rw [e] at l;cases l;rfl
  obtain ⟨u,I,Q⟩:=r.get X
  have hp:ps[i]?=some y:=by
   rw [← S.pre,List.getElem?_take_of_lt (by lia)];exact h1
  have C:ps.Nodup:=by rw [← S.pre];exact S.nd.sublist (List.take_sublist _ _)
  refine ⟨u,Q,?_⟩
  rcases S.par y (Ÿ hp) with k | k
  .exact .inl ⟨k,j0 C hp I k⟩
  .obtain ⟨c,e⟩:=nE (n:=s.heap.objs.size+1) k
   refine .inr ⟨.inl k,c,e,?_⟩
   have q:=x.cell y c e
   rw [j5 C hp I (by show scope.names.lookup y≠_;rw [k];decide)] at q
   exact q
 .exact e0.hok.fresh (ĕ (x.above y c (Ū h)))
 .unfold start
  show _=N.length
  rw [ŷ,ν,List.length_replicate]
  lia
def F4{F:CXT}{P:ä}{w:â}{K:Þ}{mg:û}{h:Ý}{k:Nat}{f:ã}{name c:Str}{i:Arguments}{body:Ú Ü}{scope:Scope}{dV kV C pm d ct oc:ß}{an od:Option ã}
  {X:Array (è)}{N ps:ó}{sp:Sp}(lk:K.lookup f=some ⟨oc,od,.func (PySem.W.fnOf name c i body scope dV kV C pm an d ct),X⟩)(Y:PySem.W.codeIn K d c=true)(S:dv N ps scope)
  (len:∀vs H Q E,sp vs H Q E->vs.length=ps.length)
  (l:∀(A:à) (a:ð) (s:å) (H:Hp) (vs:Ú V) (Q:VK) (E:XK),Room k (A.deeper (envOfC c scope s.heap.objs.size f d))->sp vs H Q E ->
   ∃t,PSs (pD F P w K mg h N c scope f d A a s H E) body t/\t {nx:=λ_ H'=>Q .non H',rt:=Q} (start N vs) H) :
  dW P w K mg h F (k+1) f (PySem.W.fnOf name c i body scope dV kV C pm an d ct) ps sp:=by
 refine ⟨len,λA a s H a0 us vs Q E O e0 hb r z=>?_⟩
 have hl:=len _ _ _ _ z
 have Z:K.In s.heap:=e0.mod.kin.keeps λb o e=>(e0.bs b o e).1
 have L:s.heap.NoLimit:=e0.mod.nolimit.keeps λb o e=>(e0.bs b o e).1
 have j:∀y∈ps.zip us,scope.names.lookup y.1=some .local\/(scope.names.lookup y.1=some .cell/\((cellsFrom (s.heap.objs.size+1) scope.names []).lookup y.1).isSome=true):=λ⟨n,v⟩ hy=>by
  rcases S.par n (List.of_mem_zip hy).1 with q | q
  .exact .inl q
  .exact .inr ⟨q,PySem.W.cellsFrom_some _ _ _ (.inl q)⟩
 refine codeAny_call_function O.depth (Z _ _ lk) rfl S.co S.gen rfl (PySem.W.codeRec_of Z Y) (hb _ _ _ _ ?_)
 refine wpAny_newFunctionEnv_cells S.kind j λaq he s1 x=>?_
 subst he
 refine ⟨L.keeps x.toInCall.keep,codeAny_func ?_⟩
 obtain ⟨t,ht,hq⟩:=l A a s H vs Q E (O.deeper _) z
 have I:Inv (pD F P w K mg h N c scope f d A a s H E) [] (start N vs) H s1:=tI S O.hd e0 hl r x
 refine Š (ht [] s1 (start N vs) H _ I hq) (λfl U m=>?_) λe U m=>m
 have p:∀{D:St} {H':Hp} {v:V} {u:ß},Inv (pD F P w K mg h N c scope f d A a s H E) [] D H' U->RelV v u->Q v H'->CE a P w H s Q u U :=
  λ{D H' v u} J G q=>⟨v,H',J.os,J.bare,J.base,J.hok,G,q⟩
 cases fl with
 | ret u =>
  obtain ⟨v,D,H',J,G,q⟩:=m
  exact p J G q
 | next =>
  obtain ⟨D,H',J,q⟩:=m
  exact p (v:=V.non) (u:=Value.none) J rfl q
 | brk =>
  obtain ⟨_,_,_,q⟩:=m
  exact False.elim q
 | cont =>
  obtain ⟨_,_,_,q⟩:=m
  exact False.elim q
section
variable {X:Cx}{x:Str}{p pos:Pos}{e:Û}{es:ï}{t:TA}{id T:String}{r:Ú V->Hp->VK->Prop}
def tCB(r:Ú V->Hp->VK->Prop)(t:TA):TE:=fun σ H Q=>t σ H λvs H1=>r vs H1 Q
def iD(n:CallR X (.builtin id) r)(o:Gl X x)(q:X.mg x=none)(u:bootBuiltins x=some (.builtin id))(v:PA X (e::es) t)(w:x≠"__name__":=by decide)(b:(x==("__debug__":Str))=false:=by decide)
  (y:starEach (e::es) X.env=(false,eval e X.env)::starEach es X.env:=by rfl)(c:(backTo pos (starEach es X.env)).any (·.1)=false:=by rfl):PE X (.Call (.Name x p) (e::es) [] pos) (tCB r t):=by
 intro a s σ H Q I h
 refine ļ (iO I o q u ?_ w b)
 exact PyProof.Rows.callWith_builtin1 (thn (v pos a s σ H _ I h) λus d ⟨i,H1,j,l,m⟩=>n a d σ H1 i us Q j l m) y c
def sO(n:CallR X (.type T) r)(o:Gl X x)(q:X.mg x=none)(u:bootBuiltins x=some (.type T))(v:PA X (e::es) t)(w:x≠"__name__":=by decide)(b:(x==("__debug__":Str))=false:=by decide)
  (y:starEach (e::es) X.env=(false,eval e X.env)::starEach es X.env:=by rfl)(c:(backTo pos (starEach es X.env)).any (·.1)=false:=by rfl):PE X (.Call (.Name x p) (e::es) [] pos) (tCB r t):=by
 intro a s σ H Q I h
 refine ļ (iO I o q u ?_ w b)
 exact PyProof.Rows.callWith_type1 (thn (v pos a s σ H _ I h) λus d ⟨i,H1,j,l,m⟩=>n a d σ H1 i us Q j l m) y c
end
end L2
namespace HT
open PySem PyProof.Rows
noncomputable def b8:ò->ò->Bool
 | [],[]=>false
 | [],_::_=>true
 | _::_,[]=>false
 | x::xs,y::ys=>if x=y then b8 xs ys else decide (x<y)
def o5(x y:Int)(xs ys:ò):b8 (x::xs) (y::ys)=if x=y then b8 xs ys else decide (x<y):=rfl
def jw:b8 [] []=false:=rfl
def iM(y:Int)(ys:ò):b8 [] (y::ys)=true:=rfl
def iN(x:Int)(xs:ò):b8 (x::xs) []=false:=rfl
def wD(A:à)(s:å)(a:Int)(t:Tok)(c:Int)(u:Tok):∃e,SeqAt.EqAt A s (.int a t) (.int c u) e/\(e=true↔a=c) :=
 ⟨(a==c),SeqAt.EqAt.int_int a t c u,by simp⟩
def vd(A:à)(s:å)(a:Int)(t:Tok)(c:Int)(u:Tok)(prog:ä)(w:â)(E:ü)(Q:ü)(h:Q (.bool (decide (a<c))) s) :
  wpAny (model prog w) A (richCompare .Lt (.int a t) (.int c u)) Q E s :=
 (PyProof.Rows.lt_int h:wpAny (model prog w) A (compareOp .Lt (.int a t) (.int c u)) Q E s)
section
open PySem.SeqAt
open PySem.AutoSeq1 (wpAny_loadPart')
open PySem.MeetsSeq PySem.MeetsSeq2 PySem.MeetsSeq3
theorem jm(l b:ã)(j i:æ)(n D:Nat)(F r:Option ã)(G v:Array (è))(ns p:ò)(z:IntsAre j.toList ns)(C:IntsAre i.toList p) :
  Meets (Builtin.«tuple.__lt__» ⟨[.ref l, .ref b], []⟩)
   (λ_ R s=>s.heap.get? l=some {cls:=.type "tuple",dict:=F,data:=.seq j n,slots:=G}/\s.heap.get? b=some {cls:=.type "tuple",dict:=r,data:=.seq i D,slots:=v} /\
    R (.ok (.ret (.bool (b8 ns p)))) s) :=
 .of_wp λprog w A R s h=>by
  obtain ⟨hp,g,d,tk,os⟩:=s;obtain ⟨hl,hb,h⟩:=h
  have f2:=AutoSeq1.sub_tuple_tuple
  have z1:j.size=ns.length:=by rw [← z.length];simp
  have z2:i.size=p.length:=by rw [← C.length];simp
  wp_walk using wpAny_loadPart' hl,wpAny_loadPart' hb,wpAny_forIn_list _ (λrest b s'=>b.1=none/\s'=⟨hp,g,d,tk,os⟩/\∃(vs ws:õ) (m o:ò),rest=vs.zip ws /\
   IntsAre vs m/\IntsAre ws o/\m.length+i.size=o.length+j.size/\R (.ok (.ret (.bool (b8 m o)))) ⟨hp,g,d,tk,os⟩) _
  case turn =>
   rintro ⟨y,x⟩ rest b s' ⟨hb',rfl,vs,ws,m,o,hz,hvi,hwi,hlen,hR⟩
   cases hvi with
   | nil=>rw [List.zip_nil_left] at hz;cases hz
   | cons a t hvi' =>
    cases hwi with
    | nil=>rw [List.zip_nil_right] at hz;cases hz
    | cons c u hwi' =>
     rw [ş] at hz
     injection hz with hyx hrest
     injection hyx with hy hx
     subst hy hx
     rw [o5] at hR
     simp only [List.length_cons] at hlen
     obtain ⟨e,he,hiff⟩:=wD A.in1 ⟨hp,g,d,tk,os⟩ a t c u
     refine ε (he prog w _ _ ?_)
     cases e with
     | true =>
      rw [Ż (hiff.mp rfl)] at hR
      wp_walk
      exact ⟨ϱ,ϱ,_,_,_,_,hrest,hvi',hwi',by lia,hR⟩
     | false =>
      rw [Ž (λq=>absurd (hiff.mpr q) Ų)] at hR
      have hri:=vd A.in1 ⟨hp,g,d,tk,os⟩ a t c u prog w
      wp_walk using hri
      exact ⟨_,ϱ,by simpa using hR⟩
  case fin =>
   rintro ⟨b1,b2⟩ s' ⟨hb',rfl,vs,ws,m,o,hz,hvi,hwi,hlen,hR⟩
   simp only at hb'
   subst hb'
   have hv:b8 m o=decide (j.size<i.size):=by
    cases hvi with
    | nil =>
     cases hwi with
     | nil =>
      simp only [List.length_nil] at hlen
      rw [jw]
      exact (Γ (by lia)).symm
     | cons c u hw =>
      simp only [List.length_nil,List.length_cons] at hlen
      rw [iM]
      exact (τ (by lia)).symm
    | cons a t hv =>
     cases hwi with
     | nil =>
      simp only [List.length_nil,List.length_cons] at hlen
      rw [iN]
      exact (Γ (by lia)).symm
     | cons c u hw =>
      rw [ş] at hz
      cases hz
   rw [hv] at hR
   wp_walk
   exact ⟨_,ϱ,by simpa [Builtin.Tuple.tupleCompareSizes] using hR⟩
  case h =>
   exact ⟨ϱ,ϱ,j.toList,i.toList,ns,p,ϱ,z,C,by lia,h⟩
end
section
variable {prog:ä}{w:â}{A:à}{E:ü}{s:å}
def oX{Q:ü}(C:IsTup s.heap l items)(D:IsTup s.heap b items2)(G:IntsAre items.toList ns)(H:IntsAre items2.toList ms)
  (I:A.units<cLine)(h:Q (.bool (b8 ns ms)) s):wpAny (model prog w) A (compareOp .Lt (.ref l) (.ref b)) Q E s:=by
 obtain ⟨⟨u,v,m,y⟩,o,p,n,q⟩:=id C
 obtain ⟨⟨r,e,i,j⟩,a,c,z,d⟩:=id D
 simp only at p q c d
 subst p q c d
 exact richCompare_meets_room (op:=.Lt) ⟨_,o,ϱ⟩ ⟨_,a,ϱ⟩ PySem.F.slot_tuple_lt PySem.F.entry_tuple_lt (PySem.F.args_tuple_lt_2 _ _) (jm l b items items2 n z v e y j ns ms G H)
  ⟨o,a,show Value.bool (b8 ns ms)≠Value.notImplemented/\Q (.bool (b8 ns ms)) s from ⟨(λx=>nomatch x),h⟩⟩ I
def z9{Q:ü}(x:IsTup s.heap t vs.toArray)(y:IsTup s.heap b ws.toArray)(v:vs≠[])
  (h1:ws=[]->Q (.ref t) s)(z:ws≠[]->Q (.ref s.heap.objs.size) {s with heap:=s.heap.push {cls:=.type "tuple",data:=.seq (vs++ws).toArray}})
  (hsz:vs.length+ws.length<=sizeLine):wpAny (model prog w) A (binaryOp .Add (.ref t) (.ref b)) Q E s:=by
 obtain ⟨⟨cls,m,data,o⟩,j,p,n,q⟩:=id x
 obtain ⟨⟨r,c,l,d⟩,a,h,u,i⟩:=id y
 simp only at p q h i
 subst p q h i
 have e:vs.toArray++ws.toArray=(vs++ws).toArray:=by simp
 by_cases hw:ws=[]
 .exact concat_meets ⟨_,j,ϱ⟩ ⟨_,a,ϱ⟩ noFill_tuple_add seq_tuple_add PySem.F.slot_tuple_add PySem.F.entry_tuple_add (PySem.F.args_tuple_add_2 _ _)
   (tuple_addW1 t b vs.toArray ws.toArray n u m c o d (by simpa using v) (by simp [hw])) ⟨j,a,h1 hw⟩
 .refine concat_meets ⟨_,j,ϱ⟩ ⟨_,a,ϱ⟩ noFill_tuple_add seq_tuple_add PySem.F.slot_tuple_add PySem.F.entry_tuple_add (PySem.F.args_tuple_add_2 _ _)
   (tuple_addW2 t b vs.toArray ws.toArray n u m c o d (by simpa using v) (by simpa using hw) (by rw [List.size_toArray,List.size_toArray];exact hsz)) ⟨j,a,?_⟩
  rw [e]
  exact z hw
noncomputable def sIx(n d:Nat):Option Int->Nat
 | none=>d
 | some v=>if v<0 then (v+(n:Int)).toNat else min v.toNat n
theorem gM(n d k:Nat):sIx n d (some (k:Int))=min k n:=by
 show (if (k:Int)<0 then ((k:Int)+(n:Int)).toNat else min (k:Int).toNat n)=min k n
 rw [Ž (by lia),ń]
end
end HT
namespace L2
open PySem PySem.Spec PyProof.Rows
abbrev TO:=St->Hp->(Option Int->Hp->Prop)->Prop
def PO(X:Cx)(e:Option Û)(t:TO):Prop :=
 ∀(pins:ý) (s:å) (σ:St) (H:Hp) (Q:Option Int->Hp->Prop),Inv X pins σ H s->t σ H Q ->
  wpAny (model X.prog X.w) X.A (evalPart e X.env) (λu s'=>∃o H',Inv X pins σ H' s'/\IsPart u o/\Q o H') X.xe s
def yc:TO:=λ_ H Q=>Q none H
def ET(t:TE):TO:=fun σ H Q=>t σ H λx H1=>∃i,x=.int i/\Q (some i) H1
def pj:∀{us:õ},Vals (ns.map V.int) us->IntsAre us ns:=by
 induction ns with
 | nil=>intro us r;rw [List.map_nil] at r;cases r;exact .nil
 | cons n ns ih =>
  intro us r
  rw [Ŵ] at r
  cases r with
  | cons r1 r2 =>
   obtain ⟨t,e⟩:=r1
   subst e
   exact .cons n t (ih r2)
section
variable {X:Cx}{e:Û}{te:TE}{lo hi:Option Û}{tl th:TO}{pos p2:Pos}
def yP:PO X none yc:=by
 intro a s σ H Q I h
 rw [evalPart_none]
 exact π ⟨none,H,I,.none,h⟩
def yO(h:PE X e te):PO X (some e) (ET te):=by
 intro a s σ H Q I j
 rw [evalPart_some]
 refine thn (h a s σ H _ I j) λu l ⟨x,H1,b,c,d⟩=>?_
 obtain ⟨i,rfl,q⟩:=d
 obtain ⟨t,rfl⟩:=c
 exact ⟨some i,H1,b,.int i t,q⟩
def SlR(X:Cx)(r:V->Option Int->Option Int->Hp->VK->Prop):Prop :=
 ∀(pins:ý) (s:å) (σ:St) (H:Hp) (x:V) (v vl vu:ß) (lo hi:Option Int) (sl:ã) (Q:VK),Inv X pins σ H s->RelV x v->s.heap.IsSliceOf sl vl vu .none->IsPart vl lo->IsPart vu hi->r x lo hi H Q ->
  ∃T id,typeLookup (.type T) "__getitem__"=pure (some (.builtin id))/\s.TypeIs v T/\wpAny (model X.prog X.w) X.A (getItem v (.ref sl)) (EP X pins σ Q) X.xe s
def tSl(r:V->Option Int->Option Int->Hp->VK->Prop)(te:TE)(tl th:TO):TE:=fun σ H Q=>te σ H λx H1=>tl σ H1 λl H2=>th σ H2 λu H3=>r x l u H3 Q
def vq{r:V->Option Int->Option Int->Hp->VK->Prop}(U:SlR X r)(Y:PE X e te)(Z:PO X lo tl)(hu:PO X hi th):PE X (.Subscript e (.Slice lo hi none p2) pos) (tSl r te tl th):=by
 intro a s σ H Q I h
 refine Subscript_ (thn (Y a s σ H _ I h) λv y ⟨x,H1,z,C,D⟩=>?_)
 refine wpAny_Slice (thn (Z a y σ H1 _ z D) λd F ⟨l,G,K,pl,L⟩=>thn (hu a F σ G _ K L) λi c ⟨u,j,N,O,S⟩=>?_)
 rw [evalPart_none]
 refine π ?_
 have p:Inv X a σ j {c with heap:=c.heap.push {cls:=.type "slice",data:=.fields #[d,i,.none]}}:=N.kept (t':=c.toks) λb ob q=>ϸ _ q
 obtain ⟨T,id,m,n,o⟩:=U a {c with heap:=c.heap.push {cls:=.type "slice",data:=.fields #[d,i,.none]}} σ j x v d i l u c.heap.objs.size Q p C (Heap.IsSliceOf.new ..) pl O S
 show wpAny (model X.prog X.w) X.A (subscriptTail e (.Slice lo hi none p2) v (.ref c.heap.objs.size)) (EP X a σ Q) X.xe {c with heap:=c.heap.push {cls:=.type "slice",data:=.fields #[d,i,.none]}}
 exact tail_any (ops:=[.ref c.heap.objs.size,v]) n m o (by with_unfolding_all rfl)
noncomputable def tV(xs:Ú V)(lo hi:Option Int):Ú V:=(xs.drop (HT.sIx xs.length 0 lo)).take (HT.sIx xs.length xs.length hi-HT.sIx xs.length 0 lo)
theorem nu(xs:Ú V)(lo hi:Option Int):(tV xs lo hi).length<=xs.length:=by
 unfold tV
 rw [ű,List.length_drop]
 lia
def Fe(K:Þ):R2:=λx y H Q=>∃a b xs ys,x=.ref a/\y=.ref b/\SqT K H a xs/\SqT K H b ys/\xs≠[]/\xs.length+ys.length<=sizeLine /\
 (ys=[]->Q (.ref a) H)/\(ys≠[]->∀p,H p=none->Q (.ref p) (upd H p (.tup (xs++ys))))
def Vals.nil_iff(r:Vals xs us):us=[]↔xs=[]:=by
 cases r with
 | nil=>simp
 | cons _ _=>simp
def y9:OpR X (binaryOp .Add) (Fe X.K):=by
 intro j s σ H x y v u Q I L N h
 obtain ⟨a,b,l,m,rfl,rfl,n,p,r,e,C,D⟩:=h
 cases L
 cases N
 obtain ⟨F,d,G,_⟩:=I.tuple n
 obtain ⟨i,c,p2,_⟩:=I.tuple p
 refine HT.z9 G p2 (λz=>r (d.nil_iff.mp z)) (λz=>⟨.ref a,H,I,ϱ,C (c.nil_iff.mp z)⟩) (λz=>?_) (by rw [← d.length,← c.length];exact e)
 refine ⟨.ref s.heap.objs.size,_,I.laid (t':=s.toks) (o:=.tup (l++m)) (λb O q=>ϸ _ q) (ι _) ?_,ϱ,D (λw=>z (c.nil_iff.mpr w)) _ (I.hok.fresh (ι _))⟩
 exact ⟨by rw [ŷ];exact e,_,d.append c,IsTupN.new _ _⟩
end
noncomputable def ixN(n:Nat)(i:Int):Option Nat:=if 0<=i then (if i<n then some i.toNat else none) else if -(n:Int)<=i then some (i+n).toNat else none
noncomputable def atI{α:Type}(xs:Ú α)(i:Int):Option α:=(ixN xs.length i).bind λj=>xs[j]?
theorem qG(h:ixN n i=some j):seqIndex? i n=some j/\j<n/\-(n:Int)<=i/\i<n:=by
 unfold ixN at h
 by_cases h0:0<=i
 .rw [Ż h0] at h
  by_cases h1:i<n
  .rw [Ż h1] at h
   have e:i.toNat=j:=Δ h
   exact ⟨by rw [seqIndex_of h0 h1,e],by lia,by lia,h1⟩
  .rw [Ž h1] at h;cases h
 .rw [Ž h0] at h
  by_cases h1:-(n:Int)<=i
  .rw [Ż h1] at h
   have e:(i+n).toNat=j:=Δ h
   exact ⟨by rw [seqIndex_neg (by lia) h1,e],by lia,h1,by lia⟩
  .rw [Ž h1] at h;cases h
def lV{α:Type}{xs:Ú α}{i:Int}{v:α}(h:atI xs i=some v):∃j,seqIndex? i xs.length=some j/\xs[j]?=some v/\j<xs.length/\-(xs.length:Int)<=i/\i<xs.length:=by
 unfold atI at h
 cases e:ixN xs.length i with
 | none=>rw [e] at h;cases h
 | some j =>
  rw [e] at h
  obtain ⟨h1,a,b,c⟩:=qG e
  exact ⟨j,h1,h,a,b,c⟩
theorem rC{α:Type}{xs:Ú α}{j:Nat}{v:α}(h:xs[j]?=some v):atI xs (j:Int)=some v:=by
 have a:j<xs.length:=(ž.mp h).1
 have e:ixN xs.length (j:Int)=some j:=by
  unfold ixN
  rw [if_pos (by lia),if_pos (by lia)];simp
 unfold atI;rw [e];exact h
def hE(b:Û):Prop:=∀o i,subscripted b false o i=operate [o,i] (getItem o i)
def IxR(X:Cx)(r:R2):Prop :=
 ∀(value slice:Û) (pins:ý) (s:å) (σ:St) (H:Hp) (x y:V) (v u:ß) (Q:VK),Inv X pins σ H s->RelV x v->RelV y u->r x y H Q ->
  subscripted slice false v u=operate [v,u] (getItem v u)->wpAny (model X.prog X.w) X.A (subscriptTail value slice v u) (EP X pins σ Q) X.xe s
def MtR(X:Cx)(id:String)(r:V->Ú V->Hp->VK->Prop):Prop :=
 ∀(pins:ý) (s:å) (σ:St) (H:Hp) (x:V) (xs:Ú V) (v:ß) (us:õ) (Q:VK),Inv X pins σ H s->RelV x v->Vals xs us->r x xs H Q ->
  wpAny (model X.prog X.w) X.A (call (.builtin id) (v::us)) (EP X pins σ Q) X.xe s
section
variable {X:Cx}{a b:Û}{ta tb:TE}{pos:Pos}
def IxR.or{r j:R2}(h:IxR X r)(h':IxR X j):IxR X (λx y H Q=>r x y H Q\/j x y H Q):=by
 intro a b c s σ H x y v u Q I d e q i
 rcases q with q | q
 .exact h a b c s σ H x y v u Q I d e q i
 .exact h' a b c s σ H x y v u Q I d e q i
def Bg{r:R2}(m:IxR X r)(n:PE X a ta)(o:PE X b tb)(p:hE b):PE X (.Subscript a b pos) (tOp r ta tb):=by
 intro c s σ H Q I h
 exact Subscript_ (DV n o I h λv u d x y e i j l q=>m a b c d σ e x y v u Q i j l q (p _ _))
def Fb(K:Þ):R2:=λx y H Q=>∃p xs i v,x=.ref p/\y=.int i/\SqL K H p xs/\atI xs i=some v/\Q v H
def E9(K:Þ):R2:=λx y H Q=>∃p xs i v,x=.ref p/\y=.int i/\SqT K H p xs/\atI xs i=some v/\Q v H
def Fa:R2:=λx y H Q=>∃z i c,x=.str z/\y=.int i/\z.length<=sizeLine/\atI z.cps.toList i=some c/\Q (.str ⟨#[c]⟩) H
theorem ix_list:IxR X (Fb X.K):=by
 intro l m a s σ H x y v u Q I S U h o
 obtain ⟨p,Y,i,z,rfl,rfl,C,D,q⟩:=h
 cases S
 obtain ⟨t,rfl⟩:=U
 obtain ⟨c,r,pl,Z⟩:=I.list C
 obtain ⟨j,h1,F,h3,G,L⟩:=lV D
 obtain ⟨w,n,d⟩:=r.get F
 have N:=r.length
 have hn:=fO
 have b:EP X a σ Q w s:=⟨z,H,I,d,q⟩
 by_cases h0:0<=i
 .have e:i.toNat=j:=by
   rw [seqIndex_of h0 L] at h1
   exact Δ h1
  exact item_listR pl.isList h0 (by lia) (by rw [e];simpa using n) b o
 .have e:(i+(c.toArray.size:Int)).toNat=j:=by
   rw [seqIndex_neg (by lia) G] at h1
   rw [š,← N]
   exact Δ h1
  exact subscriptTail_builtinR (x:=w) pl.isList.typeIs slot_list_getitem.lookup
   (wpAny_getItem_list_neg (Q:=λr O=>r=w/\EP X a σ Q r O) pl.isList (by lia) (by rw [List.size_toArray]<;>lia) (by lia) (by rw [e];simpa using n) ⟨ϱ,b⟩) o
theorem ix_tup:IxR X (E9 X.K):=by
 intro d e a s σ H x y v u Q I G L h N
 obtain ⟨p,O,i,z,rfl,rfl,l,m,q⟩:=h
 cases G
 obtain ⟨t,rfl⟩:=L
 obtain ⟨n,r,pl,S⟩:=I.tuple l
 obtain ⟨j,h1,o,U,Y,Z⟩:=lV m
 obtain ⟨w,C,b⟩:=r.get o
 have D:=r.length
 have hn:=fO
 have c:EP X a σ Q w s:=⟨z,H,I,b,q⟩
 exact subscriptTail_builtinR (x:=w) pl.typeIs slot_tuple_getitem.lookup
  (getItem_tuple (j:=j) (Q:=λr F=>r=w/\EP X a σ Q r F) pl (by lia) (by lia) (by rw [List.size_toArray,← D];exact h1) (by simpa using C) ⟨ϱ,c⟩) N
theorem Dn:IxR X Fa:=by
 intro a b d s σ H x y v u Q I w C h D
 obtain ⟨z,i,c,rfl,rfl,F,e,q⟩:=h
 obtain ⟨t,rfl⟩:=w
 obtain ⟨G,rfl⟩:=C
 obtain ⟨j,h1,l,K,m,n⟩:=lV e
 have o:z.cps.toList.length=z.length:=by simp [Str.length]
 rw [o] at h1 m n
 have L:=fO
 exact tail_any (typeIs_str s z t) slot_str_getitem.lookup (getItem_str (c:=c) (by
  have p:decide (i < -(2 ^ 63:Int))=false:=Γ (by lia)
  have r:decide (i≥2 ^ 63)=false:=Γ (by lia)
  rw [p,r,Bool.or_false]) (by rw [h1];simpa using l) ⟨.str ⟨#[c]⟩,H,I.tok _,⟨_,ϱ⟩,q⟩) D
def rIx(K:Þ):R2:=λx y H Q=>Fb K x y H Q\/E9 K x y H Q\/Fa x y H Q
def Do:IxR X (rIx X.K):=ix_list.or (ix_tup.or Dn)
def oU(a:õ)(n j:Nat)(u:ß):Obj.mapSeq (·.setIfInBounds j u) {cls:=.type "list",data:=.seq a.toArray n}={cls:=.type "list",data:=.seq (a.set j u).toArray n}:=by
 simp [Obj.mapSeq]
def Inv.lst(I:Inv X pins σ H s)(h:H p=some (.lst xs)) :
  ∃(a:õ) (n:Nat),Vals xs a/\s.heap.get? p=some {cls:=.type "list",data:=.seq a.toArray n}/\xs.length<=sizeLine:=by
 obtain ⟨z,a,n,r,e⟩:=I.hok p _ h
 exact ⟨a,n,r,e,z⟩
def Inv.lstUpd{a:ý}{σ:St}{H:Hp}{s:å}{p:ã}{xs ys:Ú V}{c its':õ}{n d:Nat}{f:Obj->Obj}(I:Inv X a σ H s)(h:H p=some (.lst xs))
  (j:s.heap.get? p=some {cls:=.type "list",data:=.seq c.toArray n})(hf:f {cls:=.type "list",data:=.seq c.toArray n}={cls:=.type "list",data:=.seq its'.toArray d})(r:Vals ys its')(hz:ys.length<=sizeLine)(t:Nat) :
  Inv X a σ (upd H p (.lst ys)) {s with heap:=s.heap.update p f,toks:=t}:=by
 have e:(s.heap.update p f).get? p=some {cls:=.type "list",data:=.seq its'.toArray d}:=by
  rw [Ŏ f j (by rw [hf]<;>rfl),hf]
 refine I.write (x:=p) (e:=p) (by rw [h];trivial) (.inl rfl) (λb u i q=>(Ń _ _ (Ne.symm i)).trans q) ⟨_,e⟩ ?_
 exact ⟨hz,its',d,r,e⟩
def Be:V->V->V->Hp->(Hp->Prop)->Prop:=λo i v H Q=>∃p xs k j,o=.ref p/\i=.int k/\H p=some (.lst xs)/\ixN xs.length k=some j/\Q (upd H p (.lst (xs.set j v)))
theorem uP:GW X Be:=by
 intro b s σ H o i v L N u Q I C D F h
 obtain ⟨p,x,k,j,rfl,rfl,hp,y,q⟩:=h
 cases C
 obtain ⟨t,rfl⟩:=D
 obtain ⟨a,n,r,c,z⟩:=I.lst hp
 obtain ⟨h1,G,l,m⟩:=qG y
 have d:=r.length
 have K:=fO
 have w:Inv X b σ (upd H p (.lst (x.set j v))) {s with heap:=s.heap.update p (Obj.mapSeq (·.setIfInBounds j u))} :=
  I.lstUpd hp c (oU a n j u) (r.set F j) (by rw [Ĳ];exact z) s.toks
 by_cases h0:0<=k
 .have e:k.toNat=j:=by
   rw [seqIndex_of h0 m] at h1
   exact Δ h1
  exact PySem.W.ki_setAt c h0 (by lia) (by rw [š,← d];exact m) (by rw [e];exact ⟨_,w,q⟩)
 .have e:(k+(a.toArray.size:Int)).toNat=j:=by
   rw [seqIndex_neg (by lia) l] at h1
   rw [š,← d]
   exact Δ h1
  exact PySem.W.ki_setBack c (by lia) (by rw [š,← d];exact l) (by lia) (by rw [e];exact ⟨_,w,q⟩)
theorem kr(lo a:Option Int)(n:Nat):(sliceBounds lo a none n).1=((HT.sIx n 0 lo:Nat):Int)/\(sliceBounds lo a none n).2.1=((HT.sIx n n a:Nat):Int)/\(sliceBounds lo a none n).2.2=1:=by
 refine ⟨?_,?_,ϱ⟩
 .cases lo with
  | none=>simp [sliceBounds,HT.sIx]
  | some i =>
   simp only [sliceBounds,HT.sIx,Option.getD_none,show (1:Int)>0 by decide,if_true]
   by_cases h:i<0
   .simp only [h,if_true]<;>lia
   .simp only [h,if_false]<;>lia
 .cases a with
  | none=>simp [sliceBounds,HT.sIx]
  | some i =>
   simp only [sliceBounds,HT.sIx,Option.getD_none,show (1:Int)>0 by decide,if_true]
   by_cases h:i<0
   .simp only [h,if_true]<;>lia
   .simp only [h,if_false]<;>lia
def jq(a:õ)(lo b:Option Int):slicePick a.toArray lo b none=((a.drop (HT.sIx a.length 0 lo)).take (HT.sIx a.length a.length b-HT.sIx a.length 0 lo)).toArray:=by
 obtain ⟨h1,c,d⟩:=kr lo b a.toArray.size
 unfold slicePick
 rw [h1,c,d]
 simp only [sliceRange_one,pick_run,List.size_toArray]<;>rfl
def E8(K:Þ):V->Option Int->Option Int->Hp->VK->Prop:=λx lo hi H Q=>∃a xs,x=.ref a/\SqL K H a xs/\∀p,H p=none->Q (.ref p) (upd H p (.lst (tV xs lo hi)))
theorem yk:SlR X (E8 X.K):=by
 intro j s σ H x v z C lo e D Q I p u pl w h
 obtain ⟨a,c,rfl,l,q⟩:=h
 cases p
 obtain ⟨m,r,i,n⟩:=I.list l
 have d:=r.length
 refine ⟨"list",_,slot_list_getitem.lookup,i.isList.typeIs,?_⟩
 refine wpAny_getItem_list_slice i.isList u pl w .none (by simp) ?_ (by rw [List.size_toArray]<;>lia)
 rw [jq,← d]
 refine ⟨.ref s.heap.objs.size,_,I.laid (t':=s.toks) (o:=.lst (tV c lo e)) (λb y q=>ϸ _ q) (ι _) ?_,ϱ,q _ (I.hok.fresh (ι _))⟩
 exact ⟨Λ (nu c lo e) n,_,0,(r.drop (HT.sIx c.length 0 lo)).take (HT.sIx c.length c.length e-HT.sIx c.length 0 lo),ϻ _ rfl⟩
theorem lR:CallR X (.builtin "len") (λxs H Q=>∃p ys,xs=[.ref p]/\(SqL X.K H p ys\/SqT X.K H p ys)/\Q (.int ys.length) H):=by
 intro d s σ H xs us Q I r h
 obtain ⟨p,ys,rfl,hq,q⟩:=h
 obtain ⟨u,rfl,e⟩:=bz r
 cases e
 have j:=fO
 rcases hq with hq | hq
 .obtain ⟨b,c,pl,i⟩:=I.list hq
  have a:=c.length
  exact Calls.call_len_list pl.isList (by simp only [List.size_toArray]<;>lia) ⟨.int ys.length,H,I.tok _,⟨s.toks+1,by rw [List.size_toArray,a]⟩,q⟩
 .obtain ⟨b,c,pl,i⟩:=I.tuple hq
  have a:=c.length
  exact len_tuple pl (by simp only [List.size_toArray]<;>lia) ⟨.int ys.length,H,I.tok _,⟨s.toks+1,by rw [List.size_toArray,a]⟩,q⟩
theorem lQ:CallR X (.builtin "len") (λxs H Q=>∃z,xs=[.str z]/\z.length<=sizeLine/\Q (.int z.length) H):=by
 intro a s σ H xs us Q I r h
 obtain ⟨z,rfl,b,q⟩:=h
 obtain ⟨u,rfl,t,rfl⟩:=bz r
 have c:=fO
 exact len_str (by lia) ⟨.int z.length,H,I.tok _,⟨_,ϱ⟩,q⟩
def CallR.or{f:ß}{r c:Ú V->Hp->VK->Prop}(h:CallR X f r)(h':CallR X f c):CallR X f (λxs H Q=>r xs H Q\/c xs H Q):=by
 intro a s σ H xs us Q I b q
 rcases q with q | q
 .exact h a s σ H xs us Q I b q
 .exact h' a s σ H xs us Q I b q
theorem lP:CallR X (.type "list") (λxs H Q=>∃p ys,xs=[.ref p]/\(SqL X.K H p ys\/SqT X.K H p ys)/\∀l,H l=none->Q (.ref l) (upd H l (.lst ys))):=by
 intro y s σ H xs us Q I r h
 obtain ⟨p,ys,rfl,hq,q⟩:=h
 obtain ⟨u,rfl,F⟩:=bz r
 cases F
 have m:∀(a:õ),Vals ys a->ys.length<=sizeLine->∀(c:Ý) (i:Nat),(∀b o',s.heap.get? b=some o'->c.get? b=some o') ->
   c.get? s.heap.objs.size=some {cls:=.type "list",dict:=none,data:=.seq a.toArray i,slots:=#[]}->EP X y σ Q (.ref s.heap.objs.size) {s with heap:=c}:=λa d j c i x e =>
  ⟨.ref s.heap.objs.size,_,I.laid (t':=s.toks) x (ι _) (show ObjOk X.prog X.w _ c _ (.lst ys) from ⟨j,a,i,d,e⟩),ϱ,q _ (I.hok.fresh (ι _))⟩
 rcases hq with hq | hq
 .obtain ⟨a,d,pl,j⟩:=I.list hq
  have v:=d.length
  obtain ⟨o,z,C,n,D⟩:=pl.isList
  exact call_list_seq p (.inl rfl) z C D (λc i x e=>m a d j c i x e) (by simp only [List.size_toArray]<;>lia)
 .obtain ⟨a,d,pl,j⟩:=I.tuple hq
  have v:=d.length
  obtain ⟨o,z,C,n,D⟩:=pl
  exact call_list_seq p (.inr rfl) z C D (λc i x e=>m a d j c i x e) (by simp only [List.size_toArray]<;>lia)
theorem jy:CallR X (.type "tuple") (λxs H Q=>∃p ys,xs=[.ref p]/\((SqL X.K H p ys/\∀l,H l=none->Q (.ref l) (upd H l (.tup ys)))\/(SqT X.K H p ys/\Q (.ref p) H))):=by
 intro a s σ H xs us Q I r h
 obtain ⟨p,ys,rfl,h⟩:=h
 obtain ⟨u,rfl,v⟩:=bz r
 cases v
 rcases h with ⟨hq,q⟩ | ⟨hq,q⟩
 .obtain ⟨c,i,pl,j⟩:=I.list hq
  have m:=i.length
  refine call_tuple_list pl.isList (λd y=>?_) (by simp only [List.size_toArray]<;>lia)
  have n:Inv X a σ H {s with heap:=d}:=I.kept (t':=s.toks) y
  have x:Inv X a σ (upd H d.objs.size (.tup ys)) {s with heap:=d.push {cls:=.type "tuple",data:=.seq c.toArray}} :=
   n.laid (t':=s.toks) (λb o e=>ϸ _ e) (ι _) (show ObjOk X.prog X.w _ _ _ (.tup ys) from ⟨j,c,i,IsTupN.new _ _⟩)
  exact ⟨.ref d.objs.size,_,x,ϱ,q _ (n.hok.fresh (ι _))⟩
 .obtain ⟨c,i,pl,j⟩:=I.tuple hq
  exact call_tuple_same pl ⟨.ref p,H,I,ϱ,q⟩
def tyV(K:Þ)(T:String)(x:V)(H:Hp):Prop:=match x with
 | .str _=>T="str"
 | .int _=>T="int"
 | .ref p=>(T="list"/\∃xs,SqL K H p xs)\/(T="tuple"/\∃o,K.lookup p=some o/\o.cls=.type "tuple"/\o.dict=none) \/
   (T="dict"/\((∃kvs,H p=some (.dK kvs))\/∃kvs,H p=some (.dT kvs)))\/(T="set"/\∃S n,H p=some (.set S n))
 | _=>False
def ur(I:Inv X pins σ H s)(r:RelV x v)(ty:tyV X.K T x H) :
  s.TypeIs v T/\∀a,v=.ref a->∃ob,s.heap.get? a=some ob/\ob.dict=none:=by
 cases x with
 | str z =>
  obtain ⟨t,rfl⟩:=r
  cases (show T="str" from ty)
  exact ⟨typeIs_str s z t,λ_ e=>nomatch e⟩
 | int i =>
  obtain ⟨t,rfl⟩:=r
  cases (show T="int" from ty)
  exact ⟨typeIs_int s i t,λ_ e=>nomatch e⟩
 | ref p =>
  cases r
  rcases ty with ⟨rfl,xs,hq⟩ | ⟨rfl,o,hk,hc,d⟩ | ⟨rfl,hk⟩ | ⟨rfl,S,n,hk⟩
  .obtain ⟨j,_,pl,_⟩:=I.list hq
   refine ⟨pl.isList.typeIs,λa e=>?_⟩
   cases e
   obtain ⟨o,n,e,c,d,_⟩:=pl
   exact ⟨o,e,d⟩
  .refine ⟨⟨o,I.kIn p o hk,hc⟩,λa e=>?_⟩
   cases e
   exact ⟨o,I.kIn _ o hk,d⟩
  .have z:∃o,s.heap.get? p=some o/\o.ExactDict:=by
    rcases hk with ⟨kvs,hk⟩ | ⟨kvs,hk⟩
    .obtain ⟨_,_,_,_,o,_,_,e,b,_⟩:=I.hok p _ hk
     exact ⟨o,e,b⟩
    .obtain ⟨_,_,_,_,o,_,_,e,b,_⟩:=I.hok p _ hk
     exact ⟨o,e,b⟩
   obtain ⟨o,e,b⟩:=z
   refine ⟨⟨o,e,b.1⟩,λa h=>?_⟩
   cases h
   exact ⟨o,e,b.2.1⟩
  .obtain ⟨o,_,_,_,e,b,_⟩:=I.hok p _ hk
   refine ⟨⟨o,e,b.1⟩,λa h=>?_⟩
   cases h
   exact ⟨o,e,b.2.1⟩
 | _=>exact False.elim ty
variable {o e:Û}{es:ï}{to:TE}{t:TA}{name:Str}{apos cpos:Pos}{T id:String}{r:V->Ú V->Hp->VK->Prop}
end
def MtM(X:Cx)(id:String)(r:V->Ú V->Hp->VK->Prop):Prop :=
 ∀(pins:ý) (s:å) (σ:St) (H:Hp) (x:V) (xs:Ú V) (v:ß) (us:õ) (Q:VK),Inv X pins σ H s->RelV x v->Vals xs us->r x xs H Q ->
  wpAny (model X.prog X.w) X.A (call (.builtin id) (v::us)) (EP X pins σ Q) X.xe s
theorem Vals.one:∀{x:V} {us:õ},Vals [x] us->∃u,us=[u]/\RelV x u
 | _,_,.cons r .nil=>⟨_,rfl,r⟩
theorem Vals.two:∀{x y:V} {us:õ},Vals [x,y] us->∃u v,us=[u,v]/\RelV x u/\RelV y v
 | _,_,_,.cons r (.cons q .nil)=>⟨_,_,rfl,r,q⟩
theorem Vals.zero:∀{us:õ},Vals [] us->us=[]
 | _,.nil=>rfl
section
variable {X:Cx}{pins:ý}{σ:St}{H:Hp}{s:å}{l b:ã}{xs ys zs:Ú V}
def Inv.lset{a its':õ}{n:Nat}{f:æ->æ}{t':Nat}(I:Inv X pins σ H s)(d:H l=some (.lst xs))
  (e:s.heap.get? l=some {cls:=.type "list",data:=.seq a.toArray n})(hf:f a.toArray=its'.toArray)(h:Vals ys its')(hz:ys.length<=sizeLine) :
  Inv X pins σ (upd H l (.lst ys)) {s with heap:=s.heap.update l (Obj.mapSeq f),toks:=t'}:=by
 have q:=PySem.IsL.update e f
 rw [hf] at q
 refine I.write (x:=l) (e:=l) (by rw [d];exact trivial) (.inl rfl) (λi u b c=>(Ń s.heap (Obj.mapSeq f) (Ne.symm b)).trans c) ⟨_,q⟩ ?_
 exact ⟨hz,its',_,h,q⟩
def Inv.lstM(I:Inv X pins σ H s)(b:H l=some (.lst xs)):xs.length<=sizeLine/\∃(a:õ) (n:Nat),Vals xs a/\xs.length=a.length/\s.heap.get? l=some {cls:=.type "list",data:=.seq a.toArray n}:=by
 obtain ⟨z,a,n,r,e⟩:=I.hok l _ b
 exact ⟨z,a,n,r,r.length,e⟩
end
section
variable {X:Cx}
def yH:V->Ú V->Hp->VK->Prop:=λx vs H Q=>∃l xs y,x=.ref l/\vs=[y]/\H l=some (.lst xs)/\xs.length<sizeLine/\Q .non (upd H l (.lst (xs++[y])))
theorem sU:MtM X "list.append" yH:=by
 intro c s σ H x w v us Q I i j h
 obtain ⟨l,m,y,rfl,rfl,b,o,q⟩:=h
 cases i
 obtain ⟨u,rfl,d⟩:=j.one
 obtain ⟨z,a,n,r,p,e⟩:=I.lstM b
 refine call_meets F.slot_list_append ⟨_,e,ϱ⟩ F.entry_list_append (F.args_list_append_2 _ _) (PySem.list_append l a.toArray n u (by rw [š];lia)) ⟨e,?_⟩
 refine ⟨.non,_,I.lset (its':=a++[u]) b e (by simp) (r.append (.cons d .nil)) ?_,ϱ,q⟩
 rw [ŷ,List.length_singleton]
 lia
def CC:V->Ú V->Hp->VK->Prop:=λx vs H Q=>∃l xs,x=.ref l/\vs=[]/\H l=some (.lst xs)/\Q .non (upd H l (.lst []))
theorem vU:MtM X "list.clear" CC:=by
 intro d s σ H x p v us Q I i j h
 obtain ⟨l,m,rfl,rfl,c,q⟩:=h
 cases i
 have b:=j.zero
 subst b
 obtain ⟨z,a,n,r,o,e⟩:=I.lstM c
 refine call_meets F.slot_list_clear ⟨_,e,ϱ⟩ F.entry_list_clear (F.args_list_clear_1 _) (AutoSeq1.list_clear_list_0 l a.toArray n (by rw [š];lia)) ⟨e,?_⟩
 exact ⟨.non,_,I.lset (its':=[]) (ys:=[]) c e rfl .nil (ϖ _),ϱ,q⟩
end
end L2
namespace Att
open PySem PySem.W PySem.Calls PyProof.Rows
def gE:∀(ns:ò) (vs:õ),WellAll P h vs (ns.map WData.int)->IntsAre vs ns:=by
 intro ns
 induction ns with
 | nil =>
  intro vs w
  rw [List.map_nil] at w
  cases w
  exact .nil
 | cons n ns ih =>
  intro vs w
  rw [Ŵ] at w
  cases w with
  | cons a b =>
   cases a
   exact .cons _ _ (ih _ b)
theorem sx{l:OpenLaw}{n:Nat}(x:l.most=some n){P:Params}{h:Ý}{args:Ú WData}{b:õ}
  (c:l.row.toRowW.claim.pre args=true)(o:WellAll P h b args) :
  ∃a vs ns,b=[Value.ref a]/\args=[WData.list (ns.map WData.int)]/\h.get? a=some {cls:=.type "list",data:=.seq vs.toArray}/\IntsAre vs ns/\ns.length<=n:=by
 have m:WShape.hasAll [] args [.list .int]=true:=(pre_splitW c).1
 have p:l.pre.holds [] {args:=args}=true:=(pre_splitW c).2
 obtain ⟨d,r,rfl,h1,u⟩:=hasAllW_cons m
 obtain rfl:=hasAllW_nil u
 obtain ⟨y,rfl,v⟩:=hasW_list h1
 obtain ⟨ns,rfl⟩:=items_int v
 have e:ns.length<=n:=by
  unfold OpenLaw.pre at p
  have i:(WTm.not (.lt (.lit (.int (n:Int))) (.len (.arg 0)))).holds [] {args:=[.list (ns.map .int)]}=true:=by
   have i:=(holds_andW p).1
   rw [x] at i
   exact i
  have j:=condW_of i (w_not (w_lt w_lit (w_len_list (w_arg rfl))))
  rw [ν] at j
  refine Nat.le_of_not_lt λq=>?_
  have w:(n:Int)<((ns.length:Nat):Int):=by lia
  first
   | (rw [τ w] at j;exact absurd j ζ)
   | (simp at j;lia)
 cases o with
 | cons w1 w2 =>
  cases w2
  cases w1 with
  | list ho hall=>exact ⟨_,_,ns,rfl,rfl,ho,gE ns _ hall,e⟩
def sG(l:OpenLaw)(args:Ú WData):l.row.toRowW.claim.post args (.bool true) args=true :=
 postW_of (r:=l.row.toRowW) (X:=(true==true))
  (show WShape.has [] (.bool true) .bool=true by first | rfl | decide | simp [WShape.has,WShape.arms,WShape.armsAll])
  (show (WTm.eq .res (.lit (.bool true))).value [] {args:=args,res:=some (.bool true),after:=args}=some (.bool (true==true)) from w_eq_bool (w_res rfl) w_lit) rfl
def nK{l:OpenLaw}{n:Nat}{q:ä}{loose:ó}{XP:(û)->Ý->Prop}{YP:â->Ý->Prop}{d:DefRec}
  (hn:l.most=some n)(D:d.params.defaults=[])
  (call:∀(w:â) (u b:å) (mg v:û) (j:ã) (o:Obj) (x p e:ß) (a:ã) (vs:õ) (ns:ò),
   Ground q loose [] XP w u mg v b.heap->YP w b.heap ->
   b.heap.get? j=some o->o.data=.func (docDef d.name d.params d.body d.scope x p e)->b.heap.CodeRec p d.name->mg d.name=some (.ref j) ->
   b.heap.get? a=some {cls:=.type "list",data:=.seq vs.toArray}->IntsAre vs ns->ns.length<=n->b.gens=#[] ->
   codeAny (model l.prog w) callerA (.call (.ref j) ⟨[.ref a],[]⟩) (λr s'=>r=.ok (.ret (.bool true))/\OldK b.heap s'.heap/\s'.os=b.os/\AllBare s'.gens) b) :
  WalkO q loose XP YP l.row.toRowW d [] (λf vs=>PySem.call f vs):=by
 intro w u b mg v G Y j o x p e U kV X Z y F z hg H I as m K a1 C a2
 obtain rfl:U=.none:=Dflts.none F D
 obtain rfl:kV=.none:=Dflts.noKw F
 obtain ⟨a,vs,ns,rfl,rfl,h,c,i⟩:=sx hn m C
 refine enter_call (Ą (call w u b mg v j o x p e a vs ns G Y X (fd_plain Z) y z h c i hg) λr s' Q=>?_)
 obtain ⟨rfl,L,N,O⟩:=Q
 exact ⟨.inl ⟨.bool true,.bool true,[],ϱ,λ_=>rfl,.bool true,sG l _,λ_=>⟨List.Pairwise.nil,λ_ S=>(nomatch S)⟩⟩,L,N,O⟩
section
variable {prog:ä}{w:â}{A:à}{E:ü}{s:å}{K:Þ}
noncomputable def cQ(h:Ý):Ý:={h with objs:=#[]}
def cu(h:Ý)(b:ã):(cQ h).get? b=none:=by
 cases e:(cQ h).get? b with
 | none=>rfl
 | some o=>exact absurd (η e) (Nat.not_lt_zero _)
noncomputable def dL(h:Ý)(L d:ã):ý:=(List.range h.objs.size).filterMap λa=>if a=L\/a=d then none else (h.get? a).map λo=>(a,o)
def mem_ledger:(a,o)∈dL h L d↔a≠L/\a≠d/\h.get? a=some o:=by
 unfold dL
 rw [List.mem_filterMap]
 constructor
 .rintro ⟨b,_,e⟩
  split at e
  .cases e
  .rename_i hb
   obtain ⟨m,c,i⟩:=ſ.mp e
   cases i
   exact ⟨λq=>hb (.inl q),λq=>hb (.inr q),c⟩
 .rintro ⟨j,l,c⟩
  refine ⟨a,ę.mpr (η c),?_⟩
  rw [Ž (show ¬(a=L\/a=d) from λq=>q.elim j l),c]<;>rfl
def DC{m:û}(n:h.Ns L m):Fr (cQ h) L h m :=
 ⟨n,λb o e=>(by rw [cu] at e;cases e),ϖ _⟩
end
end Att
namespace L2
open PySem PySem.Spec PyProof.Rows
theorem jD:∀{vs:õ} {ns:ò},IntsAre vs ns->Vals (ns.map V.int) vs
 | _,_,.nil=>.nil
 | _,_,.cons n t h=>.cons ⟨t,rfl⟩ (jD h)
noncomputable def zF(s:Ü)(j:Nat):Ü:=match s with
 | .ClassDef _ _ _ body _ _ _ _ _ _ _=>body.getD j (.Pass ⟨0,0,0,0⟩)
 | _=>.Pass ⟨0,0,0,0⟩
noncomputable def cD(s:Ü):Arguments:=match s with
 | .FunctionDef _ a _ _ _ _ _ _ _ _=>a
 | _=>{posonlyargs:=[],args:=[],vararg:=none,kwonlyargs:=[],kw_defaults:=[],kwarg:=none,defaults:=[]}
noncomputable def aW(s:Ü):Ú Ü:=match s with
 | .FunctionDef _ _ b _ _ _ _ _ _ _=>b
 | _=>[]
noncomputable def au(s:Ü):Scope:=match s with
 | .FunctionDef _ _ _ _ _ _ sc _ _ _=>sc
 | _=>{kind:=.function,names:=[],isGenerator:=false,isCoroutine:=false}
abbrev CX0:CXT:=λ_ _ _ _ _ _=>False
abbrev E0:XK:=λ_ _ _=>False
def iE:cU CX0 X E0:=λ_ _ _ _ _ _ _ h=>h.elim
structure Fun(K:Þ)(x qual:Str)(st:Ü)(f:ã)(fd:á):Prop where
 ex:∃(oc:ß) (od:Option ã) (kV doc pm:ß) (an:Option ã) (cdv ct:ß) (osl:Array (è)),
  fd=PySem.W.fnOf x qual (cD st) (aW st) (au st) .none kV doc pm an cdv ct/\K.lookup f=some ⟨oc,od,.func fd,osl⟩/\PySem.W.codeIn K cdv qual=true
 kp:PySem.W.keepIn K (.ref f)=true
section
variable {P:ä}{w:â}{K:Þ}{mg:û}{base:Ý}
def Dz{x qual:Str}{st:Ü}{f:ã}{oc:ß}{od an:Option ã}{osl:Array (è)}{kV doc pm cdv ct:ß}(l:K.lookup f=some ⟨oc,od,.func (PySem.W.fnOf x qual (cD st) (aW st) (au st) .none kV doc pm an cdv ct),osl⟩)
  (c:PySem.W.codeIn K cdv qual=true)(k:PySem.W.keepIn K (.ref f)=true):Fun K x qual st f (PySem.W.fnOf x qual (cD st) (aW st) (au st) .none kV doc pm an cdv ct):=⟨⟨oc,od,kV,doc,pm,an,cdv,ct,osl,ϱ,l,c⟩,k⟩
end
def HF{A B:Prop}(h:B):if false=true then A else B:=by
 rw [Ž Ų]
 exact h
def HE{A B:Prop}(h:A):if true=true then A else B:=by
 rw [Ż rfl]
 exact h
def df(H H':Hp):Prop:=∀b o,H b=some o->H' b=some o
def df.refl(H:Hp):df H H:=λ_ _ h=>h
end L2
namespace Q
open PySem PySem.W
noncomputable section
structure Gt where
 P:Str->Int
 y:Nat->Value
 fd:Str->Str->Nat->Nat->Nat->Value->Value->FuncData
 n:Nat->Str
structure Go where
 os:List (Bool×Obj):=[]
 en:List DictEntry:=[]
 ln:List Value:=[]
 a:Nat
 t:Nat
 mn:Value:=.none
 sb:List (Nat×Nat):=[]
 fs:List (Nat×Str×Nat×Nat):=[]
 cs:List Nat:=[]
noncomputable def frc{α:Type}(n:Nat)(k:Nat->α):α:=match n with
 | 0=>k 0
 | m+1=>k (m+1)
variable (G:Gt)
noncomputable def cN(x:Str):Nat:=x.cps.toList.foldr (λd r=>d+128*r) 0
def vI(n m:Nat):Value:=.int (Int.ofNat n) m
noncomputable def vL(t:Nat):List Str->List Value
 | []=>[]
 | x::r=>.str x t::vL (t+1) r
noncomputable def dE(x:Str)(t:Nat)(v:Value):DictEntry:=⟨G.P x,.str x t,v⟩
noncomputable def oT(l:List Value):Obj:=⟨G.y 0,none,.seq ⟨l⟩ 0,⟨[]⟩⟩
noncomputable def oF(c:Value)(l:List Value):Obj:=⟨c,none,.fields ⟨l⟩,⟨[]⟩⟩
noncomputable def oD(l:List DictEntry)(e:Nat):Obj:=⟨G.y 3,none,.dict ⟨l⟩ e,⟨[]⟩⟩
noncomputable def cap(x:Str)(q:Str)(t t2 ln na fl fr:Nat)(tf:Value)(pl:Nat)(r:List Value):Obj :=
 oF (G.y 1) ([.str x t,.str q (t+1),.str (G.n 1) (t+2),vI ln 0,vI na 0,vI 0 0,vI 0 0,vI fl 0,.ref fr,tf,vI 181 0,.ref pl,.none]++r++[vI t2 0,vI ln 0,.str (G.n 1) (t2+1)])
noncomputable def nA(x:Arguments):Nat:=match x with
 | ⟨_,l,_,_,_,_,_⟩=>l.length
noncomputable def gF(k j:Nat)(pre:List Nat)(mn:Value)(a t:Nat)(s:Stmt)(K:Go->Go):Go:=match s with
 | .FunctionDef n ar b _ _ _ sc _ _ p =>
  let q:Str:=⟨⟨pre++n.cps.toList⟩⟩
  let fin (o:List (Bool×Obj)) (v:List Value) (m c:Nat):Go:=frc (t+3+m) λt2 =>
   let g:=K {a:=c+2,t:=t2+3}
   {g with
     os:=(true,oT G [])::(false,oF .none [])::(o++(false,⟨.none,none,.func (G.fd n q k j 0 .none .none),⟨[]⟩⟩)::(true,cap G n q t t2 p.line (nA ar) 3 a (.bool true) (a+1) (v++[.ref (c-1)]))::(true,⟨G.y 5,none,.func (G.fd n q k j 3 mn (.ref c)),⟨[]⟩⟩)::g.os)
     en:=dE G n (t2+2) (.ref (c+1))::g.en
     ln:=vI p.line 0::vI p.col 0::.ref c::g.ln
     fs:=(c+1,q,k,j)::g.fs}
  match localNames ar sc (.stmts b) with
  | some (x,y)=>fin [(true,oT G (vL (t+3) x)),(true,oT G (vL (t+3+x.length) y))] [.ref (a+2),.ref (a+3)] (x.length+y.length) (a+5)
  | none=>fin [] [.none,.none] 0 (a+3)
 | _=>K {a:=a,t:=t}
noncomputable def gFs(k:Nat)(pre:List Nat)(mn:Value):Nat->Nat->Nat->List Stmt->Go
 | _,a,t,[]=>{a:=a,t:=t}
 | j,a,t,x::r=>frc a λa=>frc t λt=>match x with
  | .FunctionDef ..=>gF G k j pre mn a t x λg=>gFs k pre mn (j+1) g.a g.t r
  | _=>gFs k pre mn (j+1) a t r
noncomputable def lkC(x:Nat):List (Nat×Nat×List Value×Value)->Nat×List Value×Value
 | []=>(0,[],.none)
 | (n,a,m)::r=>match Nat.beq n x with
  | true=>(a,m)
  | false=>lkC x r
noncomputable def sbs(a:Nat):List (Nat×Nat)->List Value
 | []=>[]
 | (b,c)::r=>match Nat.beq a b with
  | true=>.ref c::sbs a r
  | false=>sbs a r
noncomputable def gC(L:List (Nat×Nat))(k:Nat)(n:Str)(bs mro:List Value)(hd hw:Bool)(nw mn:Value)(a t:Nat)(body:List Stmt)(st:List Str)(p:Pos)(K:Nat->Go->Go):Go :=
 let f:=gFs G k (n.cps.toList++[46]) mn 1 (a+7) (t+12) body
 frc f.a λa1=>frc f.t λt1=>frc (a1+2) λca =>
 let m:=st.length
 let es:=f.en++[dE G (G.n 5) (t1+m) (.ref a1)]
 let eM:=dE G (G.n 2) (t+7) mn
 let eL:=dE G (G.n 4) (t+11) (vI p.line (t+10))
 let es':=eM::dE G (G.n 3) (t+9) (.str n (t+8))::eL::es
 let t2:=t1+m+1
 let fin (od ow:List (Bool×Obj)) (ed:List DictEntry) (t4:Nat):Go :=
  let c:=ca+od.length+ow.length
  let g:=K ca {a:=c+3,t:=t4+3,sb:=match bs with
   | [.ref b]=>[(b,ca)]
   | _=>[]}
  {g with
    os:=(match bs with
     | []=>false
     | _=>true,oT G bs)::(false,oF (G.y 6) [G.y 7,G.y 8])::(false,oD G es' es'.length)::(false,oT G [])::(false,oF .none f.ln)::(false,cap G n n (t+2) (t+5) p.line 0 0 (a+3) (.bool false) (a+4) [.none,.none,.none]) ::
     (false,⟨G.y 2,none,.plain,⟨[some (.ref (a+5)),some (.ref 3),some (.ref (a+2)),none,some mn,none,some (.ref 0)]⟩⟩)::(f.os++(true,oT G (vL t1 st))::(true,oD G (eM::eL::(es++ed++[dE G (G.n 8) t4 .none])) (2+od.length+ow.length)) ::
     (true,⟨G.y 8,none,.cls ⟨n,match bs with
      | []=>[G.y 9]
      | _=>bs,.ref ca::mro,a1+1,n,true,[],sbs ca L,false,none,false⟩,⟨[match bs with
      | []=>none
      | _=>some (Value.ref a),none,some (.str n t),some (.str n (t+8)),some nw,some (.bool true)]⟩⟩)::(od++ow++(false,oF (G.y 15) [.ref ca,.ref ca,.ref ca])::(false,oF (G.y 6) [G.y 16,.ref ca])::g.os))
    en:=dE G n (t4+2) (.ref ca)::g.en
    ln:=vI p.line 0::vI p.col 0::.ref (a+5)::g.ln
    fs:=f.fs++g.fs
    cs:=ca::g.cs}
 match hd,hw with
 | true,_=>fin [(true,oF (G.y 11) [.str (G.n 6) t2,.ref ca,G.y 12,G.y 13])] [(true,oF (G.y 11) [.str (G.n 7) (t2+2),.ref ca,G.y 14,.none])] [dE G (G.n 6) (t2+1) (.ref (ca+1)),dE G (G.n 7) (t2+3) (.ref (ca+2))] (t2+4)
 | false,true=>fin [] [(true,oF (G.y 11) [.str (G.n 7) t2,.ref ca,G.y 14,.none])] [dE G (G.n 7) (t2+1) (.ref (ca+1))] (t2+2)
 | false,false=>fin [] [] [] t2
noncomputable def kV(t:Nat):Expr->Value
 | .Constant c _ _=>match c with
  | .int i=>.int i t
  | .str x=>.str x t
  | .bool b=>.bool b
  | _=>.none
 | _=>.none
noncomputable def kS(e:Expr):Str:=match e with
 | .Constant (.str x) _ _=>x
 | .Name x _=>x
 | _=>⟨⟨[]⟩⟩
noncomputable def gDt(t:Nat):List (Option Expr)->List Expr->List DictEntry
 | some k::ks,v::vs=>dE G (kS k) t (kV (t+1) v)::gDt (t+2) ks vs
 | _,_=>[]
noncomputable def vE(t:Nat):List Expr->List Value
 | []=>[]
 | e::r=>kV t e::vE (t+1) r
noncomputable def gTs(t:Nat):List Expr->List (Bool×Obj)×Nat
 | []=>([],t)
 | e::r=>match e with
  | .Tuple es _ _=>let p:=gTs (t+es.length) r
   ((true,oT G (vE t es))::p.1,p.2)
  | _=>gTs t r
noncomputable def rfs(a:Nat):Nat->List Value
 | 0=>[]
 | n+1=>.ref a::rfs (a+1) n
noncomputable def gA(mn:Value)(a t:Nat)(x:Str)(e:Expr)(K:Go->Go):Go :=
 let put (o:List (Bool×Obj)) (m t2:Nat) (v:Value):Go:=let g:=K {a:=a+m,t:=t2+1,mn:=mn}
  {g with os:=o++g.os,en:=dE G x t2 v::g.en}
 match e with
 | .Constant c _ _=>match c with
  | .str v=>K {a:=a,t:=t+2,mn:=.str v t}
  | _=>put [] 0 (t+1) (kV t e)
 | .Dict ks vs _=>put [(true,oD G (gDt G t ks vs) vs.length)] 1 (t+3*vs.length) (.ref a)
 | .Tuple es _ _=>let p:=gTs G t es
  put (p.1++[(true,oT G (rfs a es.length))]) (es.length+1) p.2 (.ref (a+es.length))
 | _=>K {a:=a,t:=t,mn:=mn}
noncomputable def gSs(L:List (Nat×Nat)):Nat->List (Nat×Nat×List Value×Value)->Value->Nat->Nat->List Stmt->Go
 | _,_,mn,a,t,[]=>{a:=a,t:=t,mn:=mn}
 | k,cl,mn,a,t,s::r=>frc a λa=>frc t λt=>match s with
  | .FunctionDef ..=>gF G k 0 [] mn a t s λg=>gSs L (k+1) cl mn g.a g.t r
  | .ClassDef n bs _ body _ _ _ _ _ st p =>
   let go (bs mro:List Value) (hd hw:Bool) (nw:Value):Go:=gC G L k n bs mro hd hw nw mn a t body st p λca g =>
    let h:=gSs L (k+1) ((cN n,ca,.ref ca::mro,nw)::cl) mn g.a g.t r
    {h with sb:=g.sb++h.sb}
   match bs with
   | []=>go [] [G.y 9] true true (G.y 10)
   | b::_=>match lkC (cN (kS b)) cl with
    | (0,_)=>go [G.y 17] [G.y 17,G.y 18,G.y 19,G.y 9] false true (G.y 20)
    | (c,m,w)=>go [.ref c] m false false w
  | .Assign ts v _=>match ts with
   | t1::_=>gA G mn a t (kS t1) v λg=>gSs L (k+1) cl g.mn g.a g.t r
   | _=>gSs L (k+1) cl mn a t r
  | _=>gSs L (k+1) cl mn a t r
noncomputable def evs:List Obj->List Obj×List Obj
 | []=>([],[])
 | x::r=>match r with
  | []=>([x],[])
  | y::r=>let p:=evs r
   (x::p.1,y::p.2)
noncomputable def tr:Nat->List Obj->BT
 | 0,_=>.nil
 | n+1,l=>match l with
  | []=>.nil
  | x::r=>let p:=evs r
   .node x (tr n p.1) (tr n p.2)
end
end Q
section
open PySem PySem.W PyProof.Rows
set_option maxHeartbeats 0 in
set_option cbv.maxSteps 100000000 in
set_option maxRecDepth 1000000 in
noncomputable def PySem.W.Fast.tw9126285414929595358:ä:=by
 refine (?g:∀s,PySem.Challenge.pw_pactroom_k57_whole_one_house=s->_) ?s ?h
 case h=>cbv;rfl
 exact λs _=>s
def PySem.W.Fast.te9126285414929595358:PySem.Challenge.pw_pactroom_k57_whole_one_house=PySem.W.Fast.tw9126285414929595358:=by kernel_rfl
lay_quick PySem.Challenge.pw_pactroom_k57_whole_one_house
namespace Q
noncomputable abbrev p0:ä:=PySem.Challenge.pw_pactroom_k57_whole_one_house
noncomputable abbrev pq:ä:=PySem.W.Fast.tw9126285414929595358
def pe:p0=pq:=PySem.W.Fast.te9126285414929595358
noncomputable def B(i:Nat):Ü:=pq.main.body.getD i (.Pass ⟨0,0,0,0⟩)
noncomputable def T(i:Nat):Ü:=p0.main.body.getD i (.Pass ⟨0,0,0,0⟩)
noncomputable def M(k j:Nat):Ü:=L2.zF (B k) j
noncomputable def sB(k:Nat):Nat->Ü
 | 0=>B k
 | j+1=>M k j
end Q
end
section
set_option maxHeartbeats 0
open PySem PySem.W PyProof.Rows
namespace Q
noncomputable section
abbrev vF:ß:=Value.bool false
abbrev A{α:Type}(l:Ú α):Array α:=Array.mk l
abbrev E{α:Type}:Array α:=Array.mk []
abbrev vn:ß:=Value.none
abbrev vr(n:Nat):ß:=Value.ref n
abbrev sr(n:Nat):è:=some (Value.ref n)
noncomputable def dN:Nat->Nat->ñ
 | 0,_=>[]
 | k+1,n=>match n with
  | 0=>[]
  | _=>n%128::dN k (n/128)
noncomputable def nT(i:Nat):Str:=⟨⟨dN 99 ([35350842279982780,2357460733860917196365705647,883123151916293124063,14469089781839015725264863,30344074158132277796980072755167,133454983862861831018029446609853876543483871,53902072520191967,113039831549272488013791,421105403244511,53901559791857631,53901867955744735].getD i 0)⟩⟩
noncomputable def yT(i:Nat):ß:=[Value.type SL.s2766695959194262286x5,Value.type SL.s5856160107412720595x4,Value.type SL.s658472552662922059x5,Value.type SL.s14018661285674007319x4,Value.builtin SL.s7097527257260152453x26,Value.type SL.s7174869446012820540x8,Value.type SL.s11030030927630378310x26,Value.builtin SL.s10062305145149207511x16,Value.type SL.s17162191345867700912x4,Value.type SL.s2742458400755230247x6,Value.builtin SL.s11443829558043349243x14,Value.type SL.s14755015743595814543x17,Value.builtin SL.s6511155373996960695x17,Value.builtin SL.s12411053484034534018x21,Value.builtin SL.s10220274742760427390x26,Value.type SL.s4290257624100764138x5,Value.builtin SL.s4860613602091757760x24,Value.type SL.s6070975301684473832x10,Value.type SL.s5946037652744460706x9,Value.type SL.s4278001404047624695x13,Value.builtin SL.s4209523147560561109x18].getD i .none
noncomputable def gH(h:Str->Int):Gt:=⟨h,yT,λa b k j g m c=>FuncData.mk a b (L2.cD (sB k j)) (.stmts (L2.aW (sB k j))) (L2.au (sB k j)) g [] vn vn vn m none c vn 0,nT⟩
abbrev gG(P:Params):Gt:=gH (PyData.keyHash P)
noncomputable def d0:Ú (Nat×Nat×ß):=[(421105403244511,166,.none),(113039760542812094607327,167,.none),(883130438894441148383,168,yT 4),(53901488956436447,169,.none),(30344151541145318921183520387039,170,.ref 6),(14469218985635115783729119,171,.ref 4),(53901559540068319,173,Value.str (nT 1) 172),(883122557733039566815,174,.none)]
noncomputable def hp(P:Params)(s:Go):Ú Obj:=[boot_o_0 P,boot_o_1 P,boot_o_2 P,oD (gG P) (dE (gG P) (nT 9) 165 s.mn::(d0.map (λp=>dE (gG P) ⟨⟨dN 99 p.1⟩⟩ p.2.1 p.2.2)++s.en)) (9+s.en.length),boot_o_4 P,boot_o_5 P,boot_o_6 P,boot_o_7 P,boot_o_8 P,boot_o_9 P,boot_o_10 P,oT (gG P) [],oF .none s.ln,cap (gG P) (nT 0) (nT 0) 182 185 1 0 0 11 vF 12 [vn,vn,vn],⟨yT 2,none,.plain,⟨[sr 13,sr 3,sr 3,none,some (.str (nT 10) 164),none,sr 0]⟩⟩]++s.os.map (·.2)
noncomputable def ga(L:Ú (Nat×Nat))(n:Nat)(G:Gt):Go:=gSs G L 0 [] (.str (nT 10) 164) 15 187 (pq.main.body.take n)
noncomputable def gc(n:Nat)(G:Gt):Go:=ga (ga [] n G).sb n G
noncomputable def tc(n:Nat)(P:Params):BT:=tr 20 (hp P (gc n (gG P)))
abbrev lf:Life:=@Life.mk [] [] [] 0 [] [] false E [] 0 false false false 0 [2000,10,10] false 0 true [] [] 0 false
abbrev sM(n k t:Nat)(w:â)(os:OsState):SharedT:=SharedT.mk (tc n w.params) k lf E (@Drawn.mk 0 0 0 0) t os
noncomputable def sa:â->OsState->SharedT:=sM 0 15 187
noncomputable def sb:â->OsState->SharedT:=sM 0 15 187
noncomputable def yz:â->OsState->SharedT:=sM 40 650 1034
noncomputable def Cz:â->OsState->SharedT:=sM 67 1097 1668
abbrev e0:Env:={scope:=p0.main.scope,locals:=mainNs,globals:=mainNs,cells:=[],code:=(vr 13),frame:=some 14}
abbrev en:Env:={scope:=pq.main.scope,locals:=mainNs,globals:=mainNs,cells:=[],code:=(vr 13),frame:=some 14}
def bs:behindTheImports p0=((p0.main.body.drop 0).take 40++((p0.main.body.drop 40).take 27++[])):=by kernel_rfl
def Fi(w:â)(a:OsState):topGo treeTable p0 w 11 (sr 6) 12 ⟨boot_heap w.params,Array.mk [],boot_drawn,boot_toks,a⟩ (topStub p0)=some ((sa w a).abs,⟨denote treeTable (Code.body (behindTheImports p0) e0),Code.body (behindTheImports p0) e0,(@Pos.mk 0 0 0 0),[topFrame (@Pos.mk 0 0 0 0)]⟩):=by
 rw [PySem.W.Fast.te15667345088766844465,Ś,PySem.W.Fast.te11892475500146522536,pe]
 kernel_rfl
def Gp(w:â)(a:OsState):segRun treeTable p0 w 11 (sr 6) 1 1 (sa w a).abs (blockOf (behindTheImports p0) e0 (Code.body (behindTheImports p0) e0) (@Pos.mk 0 0 0 0) [topFrame (@Pos.mk 0 0 0 0)])=some (Flow.next,(sb w a).abs,Code.body (behindTheImports p0) e0,(@Pos.mk 0 0 0 0)):=by
 refine segRun_of ?_
 rw [ĭ,Ś,pe]
 kernel_rfl
def g0(p:ä)(b:Ú Ü):∀w:â,(λos=>PySem.W.Fast.tw10110043849684766642 PySem.W.Fast.tw14364793385576792824 p w 11 (sr 6) 1 5964 (sb w os) (piecesOf ((pq.main.body.drop 0).take 40) en (Code.body b en) (@Pos.mk 0 0 0 0) [topFrame (@Pos.mk 0 0 0 0)]))=(λos=>some (Flow.next,yz w os,Code.body b en,(@Pos.mk 280 0 296 17))):=byRow2 "special-get-raises" (λw=>by kernel_rfl) (λw=>by kernel_rfl)
def h0(b:Ú Ü)(w:â)(a:OsState):segRun treeTable p0 w 11 (sr 6) 1 5964 (sb w a).abs (piecesOf ((p0.main.body.drop 0).take 40) e0 (Code.body b e0) (@Pos.mk 0 0 0 0) [topFrame (@Pos.mk 0 0 0 0)])=some (Flow.next,(yz w a).abs,Code.body b e0,(@Pos.mk 280 0 296 17)):=by
 refine segRun_of ?_
 rw [ĭ,Ś,pe]
 exact congrFun (g0 pq b w) a
def g1(p:ä)(b:Ú Ü):∀w:â,(λos=>PySem.W.Fast.tw10110043849684766642 PySem.W.Fast.tw14364793385576792824 p w 11 (sr 6) 1 2876 (yz w os) (piecesOf ((pq.main.body.drop 40).take 27) en (Code.body b en) (@Pos.mk 280 0 296 17) [topFrame (@Pos.mk 0 0 0 0)]))=(λos=>some (Flow.next,Cz w os,Code.body b en,(@Pos.mk 631 0 661 65))):=λw=>by kernel_rfl
def h1(b:Ú Ü)(w:â)(a:OsState):segRun treeTable p0 w 11 (sr 6) 1 2876 (yz w a).abs (piecesOf ((p0.main.body.drop 40).take 27) e0 (Code.body b e0) (@Pos.mk 280 0 296 17) [topFrame (@Pos.mk 0 0 0 0)])=some (Flow.next,(Cz w a).abs,Code.body b e0,(@Pos.mk 631 0 661 65)):=by
 refine segRun_of ?_
 rw [ĭ,Ś,pe]
 exact congrFun (g1 pq b w) a
abbrev H1:Params->Ý:=λP=>absHeap (tc 67 P) 1097 lf
def F5(b:Ú Ü)(w:â)(a:OsState):topRun treeTable p0 w 11 (sr 6) 2 (Cz w a).abs ⟨doneF .next,Code.body b e0,(@Pos.mk 631 0 661 65),[topFrame (@Pos.mk 0 0 0 0)]⟩=some ⟨H1 w.params,Array.mk [],(@Drawn.mk 0 0 0 0),1668,a⟩:=by
 rw [PySem.W.Fast.te14082659384304107361,Ś,pe]
 kernel_rfl
def E7(w:â)(a:OsState):topRun treeTable p0 w 11 (sr 6) (12+(1+(5964+(2876+2)))) ⟨boot_heap w.params,Array.mk [],boot_drawn,boot_toks,a⟩ (topStub p0)=some ⟨H1 w.params,Array.mk [],(@Drawn.mk 0 0 0 0),1668,a⟩:=by
 refine go_top (Fi w a) (piece_block (Gp w a) ?k)
 rw [bs]
 exact piece_app (h0 _ w a) (piece_app (h1 _ w a) (piece_nil (F5 _ w a)))
noncomputable def Ka:ô:=[2,3]++((gc 67 (gH λ_=>0)).os.zipIdx.filterMap λp=>if p.1.1 then some (p.2+15) else none)
noncomputable def Kf:Params->Þ:=λP=>Ka.map λa=>(a,((tc 67 P).get a).getD default)
def ke(P:Params):Ka=(Kf P).map (·.1):=by kernel_rfl
abbrev HK:Hook:=kmHook Kf Ka ke [771]
abbrev R:RowW:=PySem.Challenge.rw_pactroom_k57_whole_one_house.row.toRowW
abbrev lo:ó:=[("RANKS":Str),("SHAPES":Str)]
abbrev lvv:Ú (Str×WData):=[]
noncomputable def qv:ä:={p0 with main:={p0.main with body:=[T 0,T 2,T 3,T 4,T 5,T 6,T 7,T 8,T 10,T 11,T 12,T 13,T 14,T 16,T 18,T 19,T 20,T 21,T 22,T 23,T 24,T 25,T 26,T 27,T 28,T 29,T 31,T 32,T 33,T 34,T 35,T 36,T 37,T 38,T 39,T 40,T 41,T 42,T 43,T 44,T 45,T 47,T 49,T 51,T 53,T 54,T 55,T 56,T 57,T 58,T 59,T 60,T 61,T 62,T 63,T 64,T 65,T 66]}}
abbrev Xt:å->Bool:=λs=>xlAt qv lvv s&&recOk (RowW.records R) s
def Ck(w:â):((boot_heap w.params).isNs mainGlobals&&(A []:Array GenState).size==0,(boot_heap w.params).objs.size,(boot_heap w.params).nsMap mainGlobals "__annotations__")=(true,11,(sr 6)):=by kernel_rfl
def FJ(w:â)(os:OsState):(staticsOk (importedModules p0.main.body) (boot_heap w.params) (H1 w.params)&&namesBound p0 (H1 w.params)&&gensDone ⟨H1 w.params,Array.mk [],(@Drawn.mk 0 0 0 0),1668,os⟩&&laidKept (boot_heap w.params) (H1 w.params))=true:=by kernel_rfl
def FI(w:â)(os:OsState):openSeen qv lo (importedModules p0.main.body) Xt true ⟨H1 w.params,Array.mk [],(@Drawn.mk 0 0 0 0),1668,os⟩=openGood qv lo:=by kernel_rfl
def FH(w:â)(os:OsState):Hook.obs HK ⟨H1 w.params,Array.mk [],(@Drawn.mk 0 0 0 0),1668,os⟩=Hook.val HK w:=by kernel_rfl
def left:LeftO p0 qv lo Xt (Hook.obs HK) (Hook.val HK) 17802:=LeftO.of_pieces (boot_open (by kernel_rfl) (by kernel_rfl) (λs=>by kernel_rfl)) Ck E7 ζ λw=>funext λos=>looks_pair (FJ w os) (looks_pair (FI w os) (FH w os))
end
end Q
end
theorem Qa(n:Nat):(0:Int)<(n+1:Nat):=Int.ofNat_lt.mpr (Nat.succ_pos n)
section
open PySem
abbrev da:Ú Str:=["len","list","tuple","all","any","sum","str","int","ord","range","dict","isinstance","bool","sorted"]
end
namespace L2
open PySem PySem.Spec PyProof.Rows
section
variable {X:Cx}
def nF:CallR X (.builtin "isinstance") (λxs H Q=>∃x t n b,xs=[x,.ty n]/\fF X.K H x t/\PySem.W.kitOne X.K t (.type n)=some b/\Q (.bl b) H):=by
 intro a s σ H xs us Q I r h
 obtain ⟨x,t,n,b,rfl,ty,e,q⟩:=h
 obtain ⟨u,c,rfl,d,i⟩:=pW r
 cases (show c=Value.type n from i)
 exact tH I d ty e λj=>⟨.bl b,H,I.tok _,ϱ,q⟩
def iJ:MtR X "str.startswith" (λx vs H Q=>∃z y i,x=.str z/\vs=[.str y,.int i]/\Q (.bl (Txt.startswith3 z y i)) H):=by
 intro a s σ H x j v us Q I b r h
 obtain ⟨z,y,i,rfl,rfl,q⟩:=h
 obtain ⟨t,rfl⟩:=b
 obtain ⟨u,c,rfl,⟨d,rfl⟩,⟨e,rfl⟩⟩:=pW r
 exact SC.startswith3 ⟨.bl _,H,I,ϱ,q⟩
def jv:MtR X "str.startswith" (λx vs H Q=>∃z y,x=.str z/\vs=[.str y]/\Q (.bl (Txt.startswith z y)) H):=by
 intro a s σ H x d v us Q I b r h
 obtain ⟨z,y,rfl,rfl,q⟩:=h
 obtain ⟨t,rfl⟩:=b
 obtain ⟨u,rfl,⟨c,rfl⟩⟩:=bz r
 exact SC.startswith ⟨.bl _,H,I,ϱ,q⟩
def oQ:MtR X "str.isdigit" (λx vs H Q=>∃z,x=.str z/\vs=[]/\Q (.bl (Txt.isdigit z)) H):=by
 intro a s σ H x c v us Q I b r h
 obtain ⟨z,rfl,rfl,q⟩:=h
 obtain ⟨t,rfl⟩:=b
 cases r
 exact SC.isdigit ⟨.bl _,H,I,ϱ,q⟩
def jA:CallR X (.type "int") (λxs H Q=>∃z n,xs=[.str z]/\PySem.intText? z=some n/\z.length<=640/\Q (.int n) H):=by
 intro a s σ H xs us Q I r h
 obtain ⟨z,n,rfl,e,b,q⟩:=h
 obtain ⟨u,rfl,⟨t,rfl⟩⟩:=bz r
 exact PySem.W.KIN.call_text e b ⟨.int n,H,I.tok _,⟨_,ϱ⟩,q⟩
def Cj:SlR X (λx lo hi H Q=>∃z,x=.str z/\z.length<=sizeLine/\Q (.str (Txt.slice z lo hi)) H):=by
 intro d s σ H x v j m lo hi n Q I e b pl i h
 obtain ⟨z,rfl,a,q⟩:=h
 obtain ⟨t,rfl⟩:=e
 refine ⟨"str",_,F.slot_str_getitem.lookup,typeIs_str _ _ _,?_⟩
 cases pl<;>cases i
 .exact Ę (l:=none) (u:=none) (st:=none) b rfl (post_val_or_str ⟨Λ (Txt.slice_le z _ _) a,λc k=>⟨.str _,H,I.tok _,⟨_,ϱ⟩,q⟩⟩)
 .exact Ę (l:=none) (u:=some (_,_)) (st:=none) b rfl (post_val_or_str ⟨Λ (Txt.slice_le z _ _) a,λc k=>⟨.str _,H,I.tok _,⟨_,ϱ⟩,q⟩⟩)
 .exact Ę (l:=some (_,_)) (u:=none) (st:=none) b rfl (post_val_or_str ⟨Λ (Txt.slice_le z _ _) a,λc k=>⟨.str _,H,I.tok _,⟨_,ϱ⟩,q⟩⟩)
 .exact Ę (l:=some (_,_)) (u:=some (_,_)) (st:=none) b rfl (post_val_or_str ⟨Λ (Txt.slice_le z _ _) a,λc k=>⟨.str _,H,I.tok _,⟨_,ϱ⟩,q⟩⟩)
theorem nI(O:X.calm=true):CallR X (.builtin "all") (λxs H Q=>∃(p:ã) (bs:Ú Bool),xs=[.ref p]/\SqL X.K H p (bs.map V.bl)/\Q (.bl (bs.all id)) H):=by
 intro o s σ H xs us Q I r h
 obtain ⟨p,bs,rfl,w,q⟩:=h
 obtain ⟨u,rfl,x⟩:=bz r
 cases (show u=Value.ref p from x)
 obtain ⟨a,m,pl,S⟩:=I.list w
 have j:=pl.isList
 have l:p<s.heap.objs.size:=by obtain ⟨_,e,_⟩:=j;exact η e
 have z:X.A.handled=none:=I.ok.hd O
 have b:bs.length=a.length:=by have:=m.length;rw [ν] at this;exact this
 refine call_all_walk (wpAny_pyIter_list j ?_)
 refine ⟨s.heap.objs.size,[s.heap.objs.size,p],[s.heap.objs.size],a.toArray.size,_,_,λi=>(bs[i]?).getD true,ϱ,Walks.list (A:=X.A.in1) z _ p (Φ l) a.toArray,
  ⟨⟨_,ϻ _ rfl,ϱ,ϱ⟩,j.push _⟩,λi v D F Z G L=>?_,λh' tk N=>?_⟩
 .have c:a[i]?=some v:=by simpa using G
  have Y:i<a.length:=(ž.mp c).1
  have C:(bs.map V.bl)[i]?=some (V.bl (bs[i]'(by lia))):=by rw [Ź,ξ (by lia)];rfl
  obtain ⟨U,n,y⟩:=m.get C
  rw [c] at n
  cases n
  cases (show v=Value.bool _ from y)
  have d:F ((bs[i]?).getD true) D:=L
  rw [ξ (by lia)] at d
  exact ś d
 .have e:((List.range a.toArray.size).all λi=>(bs[i]?).getD true)=bs.all id:=by
   rw [š,← b];exact LSm.range_all bs
  rw [e]
  exact ⟨.bl _,H,I.kept (LSm.kept_iter N),ϱ,q⟩
end
end L2
namespace L2
open PySem PySem.Spec PyProof.Rows
noncomputable def aP(env:Env):Ú (Str×NameKind)->ö->ö
 | [],cs=>cs
 | (n,k)::r,cs=>aP env r (if k==.free then match env.cells.lookup n with | some a=>(n,a)::cs | none=>cs else cs)
def cL(h:∀y∈scope.names,y.2=.free->∃c,env.cells.lookup y.1=some c):closureFor scope env=pure (aP env scope.names []):=by
 have d:∀(l:Ú (Str×NameKind)) (b:ö),(∀y∈l,y.2=.free->∃c,env.cells.lookup y.1=some c) ->
   (forIn l b (λ(x:Str×NameKind) (r:ö)=>(if (x.2==NameKind.free)=true then (do let a ← cellOf env x.1;pure (ForInStep.yield ((x.1,a)::r))) else pure (ForInStep.yield r):Sem (ForInStep (ö)))))=(pure (aP env l b):Sem _):=by
  intro l
  induction l with
  | nil=>intro b _;rfl
  | cons y r ih =>
   intro b o
   obtain ⟨n,k⟩:=y
   have m:∀z∈r,z.2=.free->∃c,env.cells.lookup z.1=some c:=λz p=>o z (Θ _ p)
   rw [List.forIn_cons]
   by_cases hk:(k==NameKind.free)=true
   .obtain ⟨c,j⟩:=o (n,k) List.mem_cons_self (by simpa using hk)
    have e:cellOf env n=pure c:=by unfold cellOf;rw [j]
    simp only [hk,if_true,e,pure_bind,aP,j]
    exact ih _ m
   .have i:(k==NameKind.free)=false:=by simpa using hk
    simp only [i,Bool.false_eq_true,if_false,pure_bind,aP]
    exact ih _ m
 have e:closureFor scope env=(forIn scope.names ([]:ö) (λ(x:Str×NameKind) (r:ö)=>(if (x.2==NameKind.free)=true then (do let a ← cellOf env x.1;pure (ForInStep.yield ((x.1,a)::r))) else pure (ForInStep.yield r):Sem (ForInStep (ö)))) >>= λb=>pure b):=by
  unfold closureFor
  rfl
 rw [e,d scope.names [] h]
 all_goals rfl
theorem dm:∀(l:Ú (Str×NameKind)) (cs:ö),(∀p∈cs,env.cells.lookup p.1=some p.2)->∀p∈aP env l cs,env.cells.lookup p.1=some p.2
 | [],cs,h,p,hp=>h p hp
 | (n,k)::r,cs,h,p,hp=>by
  unfold aP at hp
  refine dm r _ ?_ p hp
  split
  .split
   .rename_i a ea
    intro q hq
    rcases ϕ.mp hq with e | hq
    .rw [e];exact ea
    .exact h q hq
   .exact h
  .exact h
theorem gw:∀(l:Ú (Str×NameKind)) (cs:ö) {y:Str},(∃p∈cs,p.1=y)->∃p∈aP env l cs,p.1=y
 | [],cs,y,h=>h
 | (n,k)::r,cs,y,⟨p,hp,e⟩=>by
  unfold aP
  refine gw r _ ?_
  split
  .split
   .exact ⟨p,Θ _ hp,e⟩
   .exact ⟨p,hp,e⟩
  .exact ⟨p,hp,e⟩
theorem jX:∀(l:Ú (Str×NameKind)) (cs:ö) {y:Str} {c:ã},(y,NameKind.free)∈l->env.cells.lookup y=some c->∃p∈aP env l cs,p.1=y
 | (n,k)::r,cs,y,c,hm,hc=>by
  unfold aP
  rcases ϕ.mp hm with e | hm
  .cases e
   refine gw r _ ?_
   rw [Ż (by rfl),hc]
   exact ⟨_,Ω,ϱ⟩
  .exact jX r _ hm hc
theorem dC{α:Type}:∀{l:Ú (Str×α)} {p:Str×α},p∈l->∃c,l.lookup p.1=some c
 | q::l,p,h=>by
  obtain ⟨n,a⟩:=q
  rw [ė]
  split
  .exact ⟨_,ϱ⟩
  .rename_i hne
   rcases ϕ.mp h with e | h
   .subst e;simp at hne
   .exact dC h
def fm(d:(y,NameKind.free)∈l)(b:env.cells.lookup y=some c):(aP env l []).lookup y=some c:=by
 obtain ⟨p,hp,e⟩:=jX l [] d b
 obtain ⟨h,a⟩:=dC hp
 rw [e] at a
 have q:=dm l [] (λ_ z=>nomatch z) _ (Ū a)
 rw [b] at q
 rw [a]
 exact q.symm
def br(h:(aP env l []).lookup y=some c):env.cells.lookup y=some c :=
 dm l [] (λ_ z=>nomatch z) _ (Ū h)
theorem cq{env:Env}:∀{names:Ú (Str×NameKind)} {x:Str} {k:NameKind},(names.map λ(n,k)=>if (k==NameKind.free&&env.scope.kind==.function&&env.kindOf n==some .cell) then (n,NameKind.cell) else (n,k)).lookup x=some k ->
  ∃k',names.lookup x=some k'/\(k'=k\/k'=.free)
 | [],_,_,h=>by simp at h
 | (n,k0)::r,x,k,h=>by
  have ih:=@cq env r x k
  have h:List.lookup x ((if (k0==NameKind.free&&env.scope.kind==.function&&env.kindOf n==some .cell)=true then (n,NameKind.cell) else (n,k0))::_)=some k:=h
  cases hx:x==n with
  | true =>
   refine ⟨k0,by simp only [List.lookup_cons,hx],?_⟩
   by_cases hc:(k0==NameKind.free&&env.scope.kind==.function&&env.kindOf n==some .cell)=true
   .refine .inr ?_
    simp only [Bool.and_eq_true] at hc
    exact ć.mp hc.1.1
   .rw [Ž hc] at h
    simp only [List.lookup_cons,hx] at h
    exact .inl (Δ h)
  | false =>
   have h2:List.lookup x (r.map λ(n,k)=>if (k==NameKind.free&&env.scope.kind==.function&&env.kindOf n==some .cell) then (n,NameKind.cell) else (n,k))=some k:=by
    by_cases hc:(k0==NameKind.free&&env.scope.kind==.function&&env.kindOf n==some .cell)=true
    .rw [if_pos hc] at h;simp only [List.lookup_cons,hx] at h;exact h
    .rw [if_neg hc] at h;simp only [List.lookup_cons,hx] at h;exact h
   obtain ⟨k',a,b⟩:=ih h2
   exact ⟨k',by simp only [List.lookup_cons,hx];exact a,b⟩
theorem cG{env:Env}:∀{names:Ú (Str×NameKind)} {x:Str},names.lookup x=some .free ->
  (names.map λ(n,k)=>if (k==NameKind.free&&env.scope.kind==.function&&env.kindOf n==some .cell) then (n,NameKind.cell) else (n,k)).lookup x=some .cell \/
  (names.map λ(n,k)=>if (k==NameKind.free&&env.scope.kind==.function&&env.kindOf n==some .cell) then (n,NameKind.cell) else (n,k)).lookup x=some .free
 | [],_,h=>by simp at h
 | (n,k0)::r,x,h=>by
  have ih:=@cG env r x
  show List.lookup x ((if (k0==NameKind.free&&env.scope.kind==.function&&env.kindOf n==some .cell)=true then (n,NameKind.cell) else (n,k0))::_)=some .cell\/List.lookup x ((if (k0==NameKind.free&&env.scope.kind==.function&&env.kindOf n==some .cell)=true then (n,NameKind.cell) else (n,k0))::_)=some .free
  cases hx:x==n with
  | true =>
   simp only [List.lookup_cons,hx] at h
   by_cases hc:(k0==NameKind.free&&env.scope.kind==.function&&env.kindOf n==some .cell)=true
   .rw [if_pos hc];simp only [List.lookup_cons,hx];simp
   .rw [if_neg hc];simp only [List.lookup_cons,hx];exact .inr (by rw [Option.some.inj h])
  | false =>
   simp only [List.lookup_cons,hx] at h
   by_cases hc:(k0==NameKind.free&&env.scope.kind==.function&&env.kindOf n==some .cell)=true
   .rw [if_pos hc];simp only [List.lookup_cons,hx];exact ih h
   .rw [if_neg hc];simp only [List.lookup_cons,hx];exact ih h
def Its(z:Str):It:=⟨λi _=>i<z.length,λi H x H'=>H'=H/\∃c,z.cps.toList[i]?=some c/\x=.str ⟨#[c]⟩,λi _=>z.length<=i⟩
structure StrIt(P:ä)(w:â)(it:ã)(ty:String)(z:Str)(t:Tok):Prop where
 W:∀A':à,A'.handled=none->Walks P w A' it [it] [it] z.cps.size (SignAt z) (λi h=>h.IsStrIter it ty z t i)
 en:∀(A:à) (i:Nat) (s:å) (Q:è->å->Prop) (E:ü),A.handled=none->s.heap.IsStrIter it ty z t i->z.cps[i]?=none ->
  (∀h',Heap.ExtBut it s.heap h'->Q none {s with heap:=h'})->wpAny (model P w) A (pyNext (.ref it)) Q E s
 me:∀(A:à) (i:Nat) (s:å) (Q:ü) (E:ü),s.heap.IsStrIter it ty z t i->Q (.ref it) s->wpAny (model P w) A (pyIter (.ref it)) Q E s
 ne:["enumerate","zip","dict_itemiterator","dict_reverseitemiterator","odict_iterator","itertools.zip_longest","itertools.pairwise"].contains ty=false
def StrIt.ascii(it:ã)(z:Str)(t:Tok):StrIt P w it "str_ascii_iterator" z t :=
 ⟨λ_ hA=>Walks.strAscii hA it z t,λ_ _ _ _ _ hA st hx hQ=>wpAny_pyNext_ascii_end hA st hx hQ,λ_ _ _ _ _ st h=>wpAny_pyIter_striter_ascii st h,ζ⟩
def StrIt.wide(it:ã)(z:Str)(t:Tok):StrIt P w it "str_iterator" z t :=
 ⟨λ_ hA=>Walks.strWide hA it z t,λ_ _ _ _ _ hA st hx hQ=>wpAny_pyNext_wide_end hA st hx hQ,λ_ _ _ _ _ st h=>wpAny_pyIter_striter_wide st h,ζ⟩
def ux{P:ä}{w:â}{K:Þ}{tg:Û}{z:Str}{t:Tok}{it:ã}{ty:String}(S:StrIt P w it ty z t) :
  uc P w K tg (Its z) [it] it (λi h=>h.IsStrIter it ty z t i) where
 mem:=by simp
 obj:=λi h st b hb=>by
  have e:b=it:=by simpa using hb
  subst e
  obtain ⟨o,e,c,d⟩:=st
  exact ⟨o,e,λv q=>by rw [d] at q;cases q⟩
 keep:=λi h h' st k=>by
  obtain ⟨o,e,r⟩:=st
  exact ⟨o,k it (by simp) o e,r⟩
 item:=by
  intro X D F G L i a s σ H E I l st N
  subst D F G
  obtain ⟨m,n,U,p,x,y⟩:=l it (by simp)
  refine (S.W X.A (I.ok.hd L)).item i s _ _ N st λv h' O hv j kk=>?_
  obtain ⟨c,u,C,rfl⟩:=hv
  have I1:Inv X a σ H {s with heap:=h',toks:=O}:=I.turned (λb o hb e=>kk b o (by simpa using hb) e) m n p x y
  obtain ⟨o,e,Y,Z⟩:=id j
  exact ⟨_,ϱ,mY (s:={s with heap:=h',toks:=O}) e Y Z S.ne ⟨.str ⟨#[c]⟩,H,I1,⟨u,ϱ⟩,⟨ϱ,c,by rw [Č];exact C,ϱ⟩,j,λb hb=>(l b hb).1⟩⟩
 done:=by
  intro X D F G L i a s σ H E I l st N
  subst D F G
  obtain ⟨m,n,U,p,x,y⟩:=l it (by simp)
  refine S.en X.A i s _ _ (I.ok.hd L) st ?_ λh' eb=>⟨ϱ,I.turned (t':=s.toks) (λb o hb e=>eb b o hb e) m n p x y⟩
  exact Array.getElem?_eq_none N
 self:=λA i s Q E st h=>S.me A i s Q E st h
noncomputable def Cx.blk(X:Cx)(N':ó)(scope:Scope)(C:ã)(fp:ô)(s:å)(H:Hp):Cx :=
 {X with N:=N',s₀:=s,H₀:=H,env:=compEnvC scope (aP X.env scope.names []) C X.env,outer:=X.stack,ex:=fp,fn:=λ_=>false,pn:=[],xe:=λ_ _=>False}
noncomputable def bj(fv:ñ)(σ:St):St:=fv.map λk=>(σ[k]?).join
abbrev km(ifs:ï)(env:Env):Sem Bool:=forIn ifs true λc r=>if r=true then do let ok ← isTrue c env (eval c env);pure (ForInStep.yield ok) else pure (ForInStep.yield r)
def PTs(X:Cx)(ifs:ï)(t:TT):Prop :=
 ∀(pins:ý) (s:å) (σ:St) (H:Hp) (Q:Bool->Hp->Prop),Inv X pins σ H s->t σ H Q->wpAny (model X.prog X.w) X.A (km ifs X.env) (TP X pins σ Q) X.xe s
def Hd:TT:=λ_ H Q=>Q true H
def yJ:PTs X [] Hd:=λpins s σ H Q I h=>π ⟨H,I,h⟩
def qm(d:PT X c t):PTs X [c] t:=by
 intro a s σ H Q I h
 have e:km [c] X.env=(isTrue c X.env (eval c X.env) >>= λok=>pure ok):=by
  unfold km
  rw [List.forIn_cons]
  simp
 rw [e]
 exact ε (thn (d a s σ H Q I h) λb i q=>π q)
def tLC(wi:TI)(fv:ñ)(tt:TT)(te:TE):TE:=fun σ H Q=>wi σ H λJ H1=>∃(W:Nat->Ú V->Hp->Prop) (n:Nat),W 0 [] H1/\n<=sizeLine/\∀i ys H,W i ys H ->
 (J.stop i H/\∀p,H p=none->Q (.ref p) (upd H p (.lst ys))) \/
 (J.go i H/\i<n/\∀x H',J.yld i H x H'->tt (some x::bj fv σ) H' λc H2=>if c=true then te (some x::bj fv σ) H2 λy H3=>W (i+1) (ys++[y]) H3 else W (i+1) ys H2)
end L2
namespace L2
open PySem PySem.Spec PyProof.Rows
def nox{α:Type}{t:Sem α}{Q Q':α->å->Prop}{M:Model}{A:à}{E:ü}{s:å}(h:wpAny M A t Q (λ_ _=>False) s)(hQ:∀a s,Q a s->Q' a s):wpAny M A t Q' E s:=Š h hQ λ_ _ f=>f.elim
structure l9(N:ó)(sc scope:Scope)(mm:Nat)(N':ó)(fv:ñ):Prop where
 nocell:∀y∈scope.names,y.2≠.cell
 kind:scope.kind=.function
 names:∀y∈scope.names,y.2=.local->scope.names.lookup y.1=some .local
 free:∀y∈scope.names,y.2=.free->sc.names.lookup y.1=some .cell\/sc.names.lookup y.1=some .free
 nd:N'.Nodup
 len:N'.length=fv.length+mm
 at_:∀j,j<fv.length->(N'[j+mm]?).isSome=true/\N'[j+mm]?=(fv[j]?).bind (λi=>N[i]?)/\(N'[j+mm]?).bind (λy=>scope.names.lookup y)=some .free
noncomputable def bv(mm:Nat)(fv:ñ)(σ:St):St:=List.replicate mm none++bj fv σ
def Ext(σ σ':St):Prop:=σ.length=σ'.length/\∀(j:Nat) v,σ[j]?=some (some v)->σ'[j]?=some (some v)
section
variable {X:Cx}{N':ó}{scope:Scope}{mm:Nat}{fv:ñ}
def w5{m:û}(S:l9 X.N X.env.scope scope mm N' fv)(I:Inv X pins σ H s)
  (hf:∀b∈fp,oe X pins H b)(a6:∀b∈fp,b<s.heap.objs.size)(hC:s.heap.objs.size<=C)(kp:∀b o,s.heap.get? b=some o->h1.get? b=some o)(hn:h1.Ns C m)
  (ab:∀p∈pl,h1.get? p.1=some p.2/\s.heap.objs.size<=p.1/\p.1≠C/\∀v,p.2.data≠.cell v) :
  Inv (X.blk N' scope C fp s H) pl (bv mm fv σ) H {s with heap:=h1,toks:=tk}:=by
 have h:∀y c,(aP X.env scope.names []).lookup y=some c->X.env.cells.lookup y=some c:=λy c e=>br e
 have cell:∀y c,(aP X.env scope.names []).lookup y=some c->∃v,s.heap.IsCell c v:=λy c e=>I.cell y c (h y c e)
 have lt:∀y c,(aP X.env scope.names []).lookup y=some c->c<s.heap.objs.size:=λy c e=>by obtain ⟨v,q⟩:=cell y c e;exact q.lt
 have kc:∀c v,s.heap.IsCell c v->h1.IsCell c v:=λc v q=>by obtain ⟨o,e,d⟩:=q;exact ⟨o,kp _ _ e,d⟩
 refine ⟨⟨I.ok.mod,S.kind,I.ok.glob,I.ok.blt,hC,λy z c l e2=>I.ok.inj y z c (h y c l) (h z c e2),λy hy=>?_,λy c e=>?_,I.ok.hd,I.ok.frames,.inl rfl,λb n=>⟨?_,λy c e z=>(hf b n).2.2.2.2.1 y c (h y c e) z⟩,λb o e=>I.bs b o e,Λ I.ok.bsz I.sz,λb o e n=>?_,λb n Y=>?_,I.stack,I.stkFree⟩,
  rfl,I.bare,Un.kept kp,⟨m,hn,λi y v Z h2 h3=>?_⟩,λy c e=>?_,I.hok.fresh hC,λy c e=>I.freeC y c (h y c e),λp hp=>?_,I.hok.kept kp,?_⟩
 .have Q:∃k,scope.names.lookup y=some k/\k=.free:=by
   rcases hy with hy | hy
   .obtain ⟨D,l,e2⟩:=cq (env:=X.env) (names:=scope.names) (x:=y) (k:=.cell) hy
    rcases e2 with e2 | e2
    .exact absurd e2 (S.nocell _ (Ū l))
    .exact ⟨D,l,e2⟩
   .obtain ⟨D,l,e2⟩:=cq (env:=X.env) (names:=scope.names) (x:=y) (k:=.free) hy
    rcases e2 with e2 | e2
    .exact ⟨D,l,e2⟩
    .exact ⟨D,l,e2⟩
  obtain ⟨k,e,rfl⟩:=Q
  have r:=Ū e
  obtain ⟨c,G⟩:=I.ok.has y (S.free _ r rfl)
  exact ⟨c,fm r G⟩
 .exact (Ų (show false=true from e)).elim
 .exact Φ (Ŷ (a6 b n) hC)
 .have e':=e
  rcases (hf b n).2.2.2.1 with z | z
  .exact I.ok.noex b o e z
  .exact absurd (Ŷ (η e) (Λ I.ok.bsz z)) (Ņ _)
 .have q:=I.stkSub b Y
  rcases ϕ.mp q with z | z
  .exact (hf b n).2.1 z
  .exact (hf b n).2.2.1 z
 .by_cases hi:i<mm
  .have z:(bv mm fv σ)[i]?=some none:=by
    unfold bv
    rw [List.getElem?_append_left (by simpa using hi)]
    simp [hi]
   rw [z] at h2
   cases (Δ h2)
  .obtain ⟨j,rfl⟩:∃j,i=j+mm:=⟨i-mm,ω⟩
   have a:(bj fv σ)[j]?=some (some v):=by
    have z:(bv mm fv σ)[j+mm]?=(bj fv σ)[j]?:=by
     unfold bv
     rw [List.getElem?_append_right (by simp)]
     simp
    rw [← z]
    exact h2
   unfold bj at a
   rw [Ź] at a
   cases ej:fv[j]? with
   | none=>rw [ej] at a;cases a
   | some k =>
    rw [ej] at a
    have F:(σ[k]?).join=some v:=Δ a
    have h5:σ[k]?=some (some v):=by
     cases es:σ[k]? with
     | none=>rw [es] at F;cases F
     | some w'=>rw [es] at F;rw [show w'=some v from F]
    have hj:j<fv.length:=(ž.mp ej).1
    obtain ⟨_,K,a2⟩:=S.at_ j hj
    have w:N'[j+mm]?=some y:=Z
    rw [w] at K a2
    rw [ej] at K
    have a3:X.N[k]?=some y:=K.symm
    have a4:scope.names.lookup y=some .free:=a2
    have r:=Ū a4
    have kd:X.env.kindOf y=some .cell\/X.env.kindOf y=some .free:=S.free _ r rfl
    obtain ⟨mX,_,L⟩:=I.loc
    obtain ⟨u,ru,lk⟩:=L k y v a3 h5 (kd.elim (λz=>.inr (.inl z)) λz=>.inr (.inr z))
    refine ⟨u,ru,.inr ?_⟩
    rcases lk with ⟨z,_⟩ | ⟨_,c,G,hcell⟩
    .rcases kd with z' | z'<;>rw [z'] at z<;>cases z
    .exact ⟨cG (env:=X.env) a4,c,fm r G,kc _ _ hcell⟩
 .obtain ⟨v,q⟩:=cell y c e
  exact ⟨v,kc _ _ q⟩
 .have U:p∈pl:=hp
  obtain ⟨e,O,l2,d⟩:=ab p U
  exact ⟨e,I.hok.fresh O,l2,λz=>absurd (I.stkSub _ z) (λq=>by
   rcases ϕ.mp q with q | q
   .exact absurd I.lt (by rw [← q];exact Nat.not_lt.mpr O)
   .exact I.nofs O q),d⟩
 .show (bv mm fv σ).length=N'.length
  rw [S.len]
  unfold bv bj
  simp
  omega
end
section
variable {prog:ä}{w:â}{A:à}{R:Result->å->Prop}{s:å}
def ci(I:Nat->å->Prop)
  (turn:∀n s,I n s->wpAny (model prog w) A (pyNext it) (λr s₁=>match r with
   | none=>R (.ok .next) s₁
   | some v=>wpAny (model prog w) A (letOwnedTupleGo target it v) (λ_ s₁'=>wpAny (model prog w) A (assign target env v) (λ_ s₂ =>
     wpAny (model prog w) A (forIn ifs true λc r=>if r=true then do let ok ← isTrue c env (eval c env);pure (ForInStep.yield ok) else pure (ForInStep.yield r)) (λok s₃ =>
      if ok=true then wpAny (model prog w) A (eval elt env) (λx s₄ =>
       wpAny (model prog w) A (call (.builtin "list.append") [acc,x]) (λ_ s₅=>∃m,m<n/\I m s₅) (notedBy (model prog w) A env λe s'=>R (.error e) s') s₄) (notedBy (model prog w) A env λe s'=>R (.error e) s') s₃
      else ∃m,m<n/\I m s₃) (notedBy (model prog w) A env λe s'=>R (.error e) s') s₂) (notedBy (model prog w) A env λe s'=>R (.error e) s') s₁') (notedBy (model prog w) A env λe s'=>R (.error e) s') s₁) (notedBy (model prog w) A env λe s'=>R (.error e) s') s)
  (n:Nat) (h:I n s) :
  codeAny (model prog w) A (.compLoop (.ListComp elt [⟨target,iter,ifs,0⟩] scope pos) 0 it acc env) R s:=by
 refine codeAny_loop rfl I (λn s j=>?_) n h
 show wpAny _ A ((compTurn (.ListComp elt [⟨target,iter,ifs,0⟩] scope pos) 0 it acc env).onRaise (λx=>do noteFrame x env;theTreesLotGoes x)) _ _ s
 refine wpAny_noted ?_
 rw [compTurn_list]
 refine ε (wpAny_standAt (ε (Š (turn n s j) (λr s₁ d=>?_) λ_ _ a=>a)))
 cases r with
 | none=>exact π d
 | some v =>
  refine ε (Š d (λ_ s₁' b=>?_) λ_ _ a=>a)
  refine ε (Š b (λ_ s₂ l=>ε (Š l (λok s₃ i=>?_) λ_ _ a=>a)) λ_ _ a=>a)
  cases ok with
  | false=>exact π ⟨rfl,i⟩
  | true =>
   exact ε (ε (Š i (λx s₄ o=>ε (Š o (λ_ s₅ p=>π (π ⟨ϱ,p⟩)) λ_ _ a=>a)) λ_ _ a=>a))
end
def LCw(mm:Nat)(g:TG)(fv:ñ)(tt:TT)(te:TE)(σ:St)(Q:VK)(J:It)(H1:Hp):Prop:=∃(W:Nat->Ú V->Hp->Prop) (n:Nat),W 0 [] H1/\n<=sizeLine/\∀i ys H,W i ys H ->
 (J.stop i H/\∀p,H p=none->Q (.ref p) (upd H p (.lst ys))) \/
 (J.go i H/\i<n/\∀x H',J.yld i H x H'->g x (bv mm fv σ) H' fun σ' H''=>Ext (bv mm fv σ) σ'/\tt σ' H'' λc H2=>if c=true then te σ' H2 λy H3=>W (i+1) (ys++[y]) H3 else W (i+1) ys H2)
set_option maxHeartbeats 1600000 in
def vZ{X:Cx}{elt F tg:Û}{mm:Nat}{g:TG}{ifs:ï}{scope:Scope}{pos:Pos}{K:ó}{fv:ñ}{wi:TI}{tt:TT}{te:TE}
  (S:l9 X.N X.env.scope scope mm K fv)(hg:∀C fp s H,PG (X.blk K scope C fp s H) tg g)(hc:X.calm=true)(hi:PI X tg F wi)
  (ht:∀C fp s H,PTs (X.blk K scope C fp s H) ifs tt)(he:∀C fp s H,PE (X.blk K scope C fp s H) elt te)
  (hs:∀x,foldedSetIterable F X.env x=pure x){L:ý}{s:å}{σ:St}{H:Hp}{Q:VK}{ar:Option (ß->Sem Unit)}{Qo:ü}{cp:Pos}{KK:It->Hp->Prop}(I:Inv X L σ H s)(h:wi σ H KK)(cv:∀J H1,KK J H1->LCw mm g fv tt te σ Q J H1)
  (fn:∀(D C:ã) (s5:å) (H5:Hp) (m5:û),Inv X L σ H5 s5->s5.heap.Ns C m5->H5 C=none->C≠X.env.locals->(C∈X.ex\/X.s₀.heap.objs.size<=C)->(∀x c,X.env.cells.lookup x=some c->c≠C)->(∀p∈X.pn++L,p.1≠C)->Q (.ref D) H5->compPost (model X.prog X.w) X.A X.xe ar Qo (.ref D) C (.ok .next) s5) :
  wpAny (model X.prog X.w) X.A (comprehension (.ListComp elt [⟨tg,F,ifs,0⟩] scope pos) scope X.env cp (newList []) false (eval F X.env) ar) Qo X.xe s:=by
 refine wpAny_comprehension_free rfl hs (cL λy hy hk=>I.ok.has y.1 (S.free y hy hk)) S.kind S.names
  (Š (hi L s σ H _ I h) (λxv s1 h1=>Š h1 (λek a h2=>?_) λ_ _ e=>e) λ_ _ e=>e)
 obtain ⟨it,fp,tn,J,m,rfl,O,T,a3,f2,h2⟩:=h2
 obtain ⟨W,n,w0,hn,as⟩:=cv J m h2
 refine wpAny_newObj_type (wpAny_newFunctionEnv S.nocell (by intro y hy;simp at hy) (λh1 aa ab=>?_) S.kind)
 dsimp only at aa ab ⊢
 generalize hH:a.heap.push {cls:=.type "list",dict:=none,data:=.seq ([]:õ).toArray}=G at aa ab ⊢
 have hG:G.objs.size=a.heap.objs.size+1:=by rw [← hH,Ć]
 have cf:∀b o,a.heap.get? b=some o->G.get? b=some o:=λb o e=>hH▸ϸ _ e
 have aw:∀b o,b<G.objs.size->G.get? b=some o->h1.get? b=some o:=λb o lt e=>ab.extBut b o (Φ lt) (ϸ _ e)
 have kp:∀b o,a.heap.get? b=some o->h1.get? b=some o:=λb o e=>aw b o (by rw [hG];exact Nat.lt_succ_of_lt (η e)) (cf b o e)
 have hD:h1.PlainList a.heap.objs.size #[]:=⟨_,aw _ _ (by rw [hG];exact ī _) (hH▸ϻ _ rfl)⟩
 have a4:a.heap.objs.size≠G.objs.size:=by rw [hG];exact Φ (ī _)
 have hC:a.heap.objs.size<=G.objs.size:=by rw [hG];exact ğ _
 have a6:∀b∈fp,b<a.heap.objs.size:=λb l=>by obtain ⟨o,e,_⟩:=T.obj 0 _ a3 b l;exact η e
 have U:∀{H':Hp} {pl:ý},(∀b∈fp,H' b=none)->(∀p∈pl,p.1∉fp)->∀b∈fp,oe (X.blk K scope G.objs.size fp a m) pl H' b:=λ{H' pl} hn hpl b l=>by
  obtain ⟨_,g1,g2,g3,g4,g5⟩:=f2 b l
  refine ⟨hn b l,Φ (Ŷ (a6 b l) hC),λz=>?_,.inl l,λy c e=>g4 y c (br e),λp hp e=>?_⟩
  .rcases ϕ.mp (O.stkSub b z) with q | q
   .exact g1 q
   .exact g2 q
  .exact hpl p hp (e▸l)
 have ax:a.heap.objs.size∉fp:=λz=>absurd (a6 _ z) (Ņ _)
 have cl:∀y c,(X.blk K scope G.objs.size fp a m).env.cells.lookup y=some c->c≠a.heap.objs.size:=λy c e z=>by
  obtain ⟨v,q⟩:=O.cell y c (br e)
  exact absurd q.lt (by rw [z];exact Ņ _)
 have aS:∀{s':å} {H':Hp} {ob:Obj} {i:Nat} {ys:Ú V},Inv (X.blk K scope G.objs.size fp a m) [] (bv mm fv σ) H' s'->s'.heap.get? a.heap.objs.size=some ob->(∀v,ob.data≠.cell v)->H' a.heap.objs.size=none ->
   Inv (X.blk K scope G.objs.size fp a m) [(a.heap.objs.size,ob)] (bv mm fv σ) H' s':=λ{s' H' ob i ys} J1 e d f=>J1.pins_of λp hp=>by
  have z:p=(a.heap.objs.size,ob):=by simpa using hp
  subst z
  refine ⟨e,f,a4,λz=>?_,d⟩
  rcases ϕ.mp (O.stkSub _ z) with q | q
  .exact absurd O.lt (by rw [← q];exact Ņ _)
  .exact O.nofs (ι _) q
 have a1:∀s3:å,s3={a with heap:=h1,toks:=a.toks+([]:Ú (Str×ß)).length} ->
   codeAny (model X.prog X.w) X.A (.compLoop (.ListComp elt [⟨tg,F,ifs,0⟩] scope pos) 0 (.ref it) (.ref a.heap.objs.size) (X.blk K scope G.objs.size fp a m).env)
    (compPost (model X.prog X.w) X.A X.xe ar Qo (.ref a.heap.objs.size) G.objs.size) s3:=by
  rintro s3 rfl
  refine ci (λk s'=>∃i ys H' j,k=n+1-i/\i<=n/\ys.length<=i/\Vals ys j/\s'.heap.PlainList a.heap.objs.size j.toArray /\
   Inv (X.blk K scope G.objs.size fp a m) [] (bv mm fv σ) H' s'/\H' a.heap.objs.size=none/\tn i s'.heap/\(∀b∈fp,H' b=none)/\W i ys H') ?_ (n+1)
   ⟨0,[],m,[],ϱ,ϖ _,ι _,.nil,hD,w5 S O f2 a6 hC kp aa (λp hp=>nomatch hp),O.hok.fresh (ι _),T.keep _ _ _ a3 λb _ o e=>kp b o e,λb l=>(f2 b l).1,w0⟩
  rintro k s4 ⟨i,ys,H4,j,rfl,hin,Z,rv,dk,I4,a0,bb,bd,w4⟩
  obtain ⟨cnt,eD⟩:=id dk
  have b1:=aS (i:=i) (ys:=ys) I4 eD (λv z=>by cases z) a0
  have np:∀p∈[(a.heap.objs.size,({cls:=.type "list",data:=.seq j.toArray cnt}:Obj))],p.1∉fp:=λp hp=>by
   have z:p=(a.heap.objs.size,({cls:=.type "list",data:=.seq j.toArray cnt}:Obj)):=by simpa using hp
   subst z;exact ax
  rcases as i ys H4 w4 with ⟨stop,fin⟩ | ⟨go,hi2,step⟩
  .refine Š (T.done (X.blk K scope G.objs.size fp a m) rfl rfl rfl hc i _ s4 _ H4 _ b1 (U bd np) bb stop) (λr s5 ⟨hr,I5⟩=>?_) λ_ _ e=>e
   subst hr
   obtain ⟨m5,c6,_⟩:=I5.loc
   have co:s5.heap.get? a.heap.objs.size=some {cls:=.type "list",data:=.seq j.toArray cnt}:=(I5.pin _ (Ψ _ Ω)).1
   have a8:m a.heap.objs.size=none:=O.hok.fresh (ι _)
   have B:=I5.base
   obtain ⟨f0,f1,ed,f3,f4,f5⟩:=O.fpOk (H':=m) hC (O.hok.fresh hC)
   refine fn a.heap.objs.size G.objs.size s5 (upd H4 a.heap.objs.size (.lst ys)) m5 (O.call' (s':=s5) (ch:=fp) I5.os ⟨λb o e nb l hx=>B.keep b o e nb l hx,λb o e nb l hx=>B.slot b o e nb l hx,λb o e nb hx=>?_,λb o e hx=>B.there b o e hx,λb xs e=>?_,λb o u e=>?_,λb ps e=>?_⟩ ?_ I5.bare λb l=>?_) c6 ?_ f1 f3 f4 f5 (fin _ a0)
   .rw [ah (Φ (η e))];exact B.free b o e nb hx
   .have e':m b=some (.tup xs):=e
    rw [ah (aj e' a8)];exact B.tups b xs e
   .have e':m b=some (.frz o u):=e
    rw [ah (aj e' a8)];exact B.frzs b o u e
   .have e':m b=some (.tbl ps):=e
    rw [ah (aj e' a8)];exact B.tbls b ps e
   .intro b u e
    by_cases l:b=a.heap.objs.size
    .subst l
     rw [ai] at e
     cases e
     exact ⟨Λ Z (Λ hin hn),j,cnt,rv,co⟩
    .rw [ah l] at e
     exact (I5.hok b u e).stay (λc v el q=>q) (λc q=>by rw [ah (aj q a0)];exact q) λc xs q=>by rw [ah (aj q a0)];exact q
   .obtain ⟨_,g1,g2,g3,g4,g5⟩:=f2 b l
    exact ⟨g3,g1,g4,g5⟩
   .rw [ah (Ne.symm a4)]
    exact I5.free
  .refine Š (T.item (X.blk K scope G.objs.size fp a m) rfl rfl rfl hc i _ s4 _ H4 _ b1 (U bd np) bb go) (λr s5 ⟨u,hr,h5⟩=>?_) λ_ _ e=>e
   subst hr
   refine Š h5 (λ_ s6 ⟨xv,H6,I6,r6,y6,Y,d5⟩=>?_) λ_ _ e=>e
   have cr:=I6.pinned (U d5 np) (T.obj _ _ Y)
   have b3:∀{σ':St} {H':Hp} {s':å},Inv (X.blk K scope G.objs.size fp a m) ([(a.heap.objs.size,({cls:=.type "list",data:=.seq j.toArray cnt}:Obj))]++iA fp s6.heap) σ' H' s' ->
     s'.heap.PlainList a.heap.objs.size j.toArray/\H' a.heap.objs.size=none/\(∀b∈fp,H' b=none)/\(∀b∈fp,∀o,s6.heap.get? b=some o->s'.heap.get? b=some o):=λ{σ' H' s'} J1=>by
    have q:=J1.pin (a.heap.objs.size,({cls:=.type "list",data:=.seq j.toArray cnt}:Obj)) (Ψ _ (ũ _ Ω))
    refine ⟨⟨cnt,q.1⟩,q.2.1,λb l=>?_,λb l o e=>(J1.pin (b,o) (Ψ _ (Ψ _ (cw l e)))).1⟩
    obtain ⟨o,e,d⟩:=T.obj _ _ Y b l
    exact (J1.pin (b,o) (Ψ _ (Ψ _ (cw l e)))).2.1
   refine nox (hg _ _ _ _ _ s6 _ H6 xv u _ cr r6 (step xv H6 y6)) λ_ s7 ⟨σ7,H7,I7,e7,q7⟩=>?_
   refine nox (ht _ _ _ _ _ s7 _ H7 _ I7 q7) λok s8 ⟨H8,I8,q8⟩=>?_
   cases ok with
   | false =>
    obtain ⟨o1,o2,o3,o4⟩:=b3 I8
    exact ⟨n+1-(i+1),ω,i+1,ys,H8,j,ϱ,hi2,υ Z,rv,o1,(I8.pins_of (pins':=[]) λp hp=>nomatch hp).weak (σ':=bv mm fv σ) e7.1 e7.2,o2,T.keep _ _ _ Y o4,o3,q8⟩
   | true =>
    refine nox (he _ _ _ _ _ s8 _ H8 _ I8 q8) λyv s9 ⟨y,H9,I9,r9,q9⟩=>?_
    obtain ⟨o1,o2,o3,o4⟩:=b3 I9
    have b4:=rv.length
    refine wpAny_list_append_plain (hsz:=by rw [š,← b4];exact Λ Z (Λ hin hn)) o1 λh' dd b6=>?_
    have cs:Inv (X.blk K scope G.objs.size fp a m) [] σ7 H9 {s9 with heap:=h'} :=
     (I9.pins_of (pins':=[]) λp hp=>nomatch hp).turned (t':=s9.toks) (it:=a.heap.objs.size) (λb o l e=>b6.extBut b o l e) o2 a4 (.inr (ι _)) cl (λp hp=>nomatch hp)
    refine ⟨n+1-(i+1),ω,i+1,ys++[y],H9,j++[yv],ϱ,hi2,by rw [ŷ];exact Nat.succ_le_succ Z,rv.append (.cons r9 .nil),?_,cs.weak (σ':=bv mm fv σ) e7.1 e7.2,o2,T.keep _ _ _ Y λb l o e=>b6.extBut b o (λz=>ax (z▸l)) (o4 b l o e),o3,q9⟩
    have e9:(j++[yv]).toArray=j.toArray.push yv:=by simp
    rw [e9]
    exact dd
 exact codeAny_compStart_list (a1 _ rfl) (T.self _ 0 _ _ _ (T.keep _ _ _ a3 λb _ o e=>kp b o e) (a1 _ rfl))
def LcR(wi:TI)(mm:Nat)(g:TG)(fv:ñ)(tt:TT)(te:TE)(r:TE):Prop:=∀σ H Q,r σ H Q->∃KK,wi σ H KK/\∀J H1,KK J H1->LCw mm g fv tt te σ Q J H1
section
variable {X:Cx}{iy:Nat}{y:Str}{py spos:Pos}{elt iter tg:Û}{mm:Nat}{g:TG}{x:Str}{px:Pos}{ifs:ï}{scope:Scope}{pos:Pos}{N':ó}{fv:ñ}{wi:TI}{tt:TT}{te r:TE}
def vz(z:LcR wi mm g fv tt te r)(S:l9 X.N X.env.scope scope mm N' fv)(F:∀C fp s H,PG (X.blk N' scope C fp s H) tg g)(G:X.calm=true)(K:PI X tg iter wi)
  (L:∀C fp s H,PTs (X.blk N' scope C fp s H) ifs tt)(O:∀C fp s H,PE (X.blk N' scope C fp s H) elt te)(U:∀x,foldedSetIterable iter X.env x=pure x):PE X (.ListComp elt [⟨tg,iter,ifs,0⟩] scope pos) r:=by
 intro c s σ H Q I h
 rw [eval_ListComp]
 obtain ⟨Y,h1,d⟩:=z _ _ _ h
 exact vZ S F G K L O U I h1 d λD C i j l m a n p u v w q=>⟨l,a,λZ sb=>⟨.ref D,j,m.turned (t':=i.toks) (λb o y e=>(sb.2 b y).trans e) n p u v w,ϱ,q⟩⟩
def CM(lr:LcR wi mm g fv tt te r)(S:l9 X.N X.env.scope scope mm N' fv)(hg:∀C fp s H,PG (X.blk N' scope C fp s H) tg g)(hc:X.calm=true)(hi:PI X tg iter wi)
  (ht:∀C fp s H,PTs (X.blk N' scope C fp s H) ifs tt)(he:∀C fp s H,PE (X.blk N' scope C fp s H) elt te)(hs:∀x,foldedSetIterable iter X.env x=pure x)
  (hN:X.N.Nodup)(l:X.N[iy]?=some y)(m:Loc X.env.scope y)(n:swapsWith (.ListComp elt [⟨tg,iter,ifs,0⟩] scope pos) (some (.Name y py)) spos.line X.env=pure true)(hf:X.fn y=true\/X.env.scope.names.lookup y=some .local) :
  PS X (.Assign [.Name y py] (.ListComp elt [⟨tg,iter,ifs,0⟩] scope pos) spos) (Cg r (m6 iy)):=by
 intro a s σ H DE I h
 obtain ⟨KK,h1,F⟩:=lr _ _ _ h
 rw [exec_Assign_Name_used _ _ _ _ n]
 refine ε (wpAny_standAt (ε ?_))
 show wpAny _ X.A (do let _ ← comprehension (.ListComp elt [⟨tg,iter,ifs,0⟩] scope pos) scope X.env _ (newList []) false (eval iter X.env) (some (assign (.Name y py) X.env))) _ _ s
 refine ε (Š (vZ (Qo:=λ_ p=>SP X a DE .next p) S hg hc hi ht he hs I h1 F λD C K H5 L O c Q u U w Y q=>?_) (λ_ p Z=>π (π Z)) λ_ _ e=>e)
 show wpAny _ _ (assign (.Name y py) X.env (.ref D)) _ _ K
 refine wpAny_assign_Name (jF O hN l m (v:=.ref D) rfl (λs6 I6 ⟨a6,d,i⟩=>?_) hf)
 have G:C≠a6:=λz=>by
  rcases i with e | e
  .exact u (z.trans e)
  .exact w _ _ e z.symm
 exact ⟨L,c.sameBut d G,λh' j=>⟨_,_,I6.turned (t':=s6.toks) (λb o hb e=>(j.2 b hb).trans e) Q u U w Y,q⟩⟩
theorem Dh:LcR wi 1 (m6 0) fv tt te (tLC wi fv tt te):=fun σ H Q h=>⟨_,h,λJ H1 ⟨W,n,w0,hn,turn⟩=>⟨W,n,w0,hn,λi ys H w=>(turn i ys H w).imp id λ⟨go,hi,st⟩=>⟨go,hi,λx H' z=>⟨⟨ϱ,λj v e=>by
 cases j with
 | zero=>cases (show (none:Option V)=some v from Δ e)
 | succ j=>exact e⟩,st x H' z⟩⟩⟩⟩
end
end L2
namespace L2
open PySem PySem.Spec PyProof.Rows
end L2
namespace L2
open PySem PySem.Spec PyProof.Rows
end L2
namespace L2
open PySem PySem.Spec PyProof.Rows
open Builtin Builtin.Str
theorem jL(c:Nat):∀ys:ó,ys.length<=(Str.join ⟨#[c]⟩ ys).length+1
 | []=>ϖ _
 | [y]=>by simp
 | y::u::ys=>by
  have ih:=jL c (u::ys)
  rw [join_cons_cons]
  have e:(y++(⟨#[c]⟩:Str)++Str.join ⟨#[c]⟩ (u::ys)).length=y.length+1+(Str.join ⟨#[c]⟩ (u::ys)).length:=by
   show ((y.cps++#[c])++(Str.join ⟨#[c]⟩ (u::ys)).cps).size=_
   rw [Array.size_append,Array.size_append]
   rfl
  rw [e,Ũ]
  lia
theorem jC:∀(l:Ú (Str×Tok)),Vals ((l.map (·.1)).map V.str) (strValues l)
 | []=>.nil
 | p::l=>.cons ⟨p.2,rfl⟩ (jC l)
section
variable {X:Cx}
def jz(v:X.calm=true):CallR X (.builtin "sum") (λxs H Q=>∃(p:ã) (ns:ò),xs=[.ref p]/\SqL X.K H p (ns.map V.int)/\Q (.int ns.sum) H):=by
 intro e s σ H xs us Q I r h
 obtain ⟨p,ns,rfl,i,q⟩:=h
 obtain ⟨u,rfl,j⟩:=bz r
 cases (show u=Value.ref p from j)
 obtain ⟨a,l,pl,w⟩:=I.list i
 have d:IntsAre a ns:=pj l
 obtain ⟨b,c⟩:=d.allInts.items
 have m:s.heap.IsList p (intItems b):=c▸pl.isList
 refine sum_intListG (I.ok.hd v) m λx y n o=>⟨.int ns.sum,H,I.kept o,⟨n,?_⟩,q⟩
 have en:ns=b.toList.map (·.1):=(show numsOf a.toArray.toList=ns from d.numsOf).symm.trans (by rw [c,nums_intItems])
 rw [preSum_eq,List.take_of_length_le (by simp),en]
theorem sT:MtR X "str.split" (λx vs H Q=>∃(z:Str) (c:Nat),x=.str z/\vs=[.str ⟨#[c]⟩]/\z.length<=1000000/\∀p,H p=none->Q (.ref p) (upd H p (.lst ((Txt.split z ⟨#[c]⟩).map V.str)))):=by
 intro j s σ H x K v us Q I C r h
 obtain ⟨z,c,rfl,rfl,D,q⟩:=h
 obtain ⟨t,rfl⟩:=C
 obtain ⟨u,rfl,⟨m,rfl⟩⟩:=bz r
 have G:(1000002:Nat)<=sizeLine:=by decide
 have a:(Txt.split z ⟨#[c]⟩).length<=sizeLine:=by
  have:=jL c (Txt.split z ⟨#[c]⟩)
  rw [StrLaws.join_split] at this
  lia
 have d:∀(l:Ú (Str×Tok)) (k:Nat),l.map (·.1)=Txt.split z ⟨#[c]⟩->EP X j σ Q (.ref s.heap.objs.size) {s with toks:=k,heap:=s.heap.push {cls:=.type "list",data:=.seq (strValues l).toArray}}:=λl k y =>
  ⟨.ref s.heap.objs.size,_,I.laid (t':=k) (o:=.lst ((Txt.split z ⟨#[c]⟩).map V.str)) (λb o e=>ϸ _ e) (ι _)
   (show ObjOk X.prog X.w _ _ _ (.lst ((Txt.split z ⟨#[c]⟩).map V.str)) from ⟨by rw [ν];exact a,strValues l,0,y▸jC l,ϻ _ rfl⟩),ϱ,q _ (I.hok.fresh (ι _))⟩
 have n:((⟨#[c]⟩:Str).length==0)=false:=rfl
 cases h1:(decide (z.length<(⟨#[c]⟩:Str).length)||decide (strKind z<strKind ⟨#[c]⟩)) with
 | true =>
  have i:Txt.split z ⟨#[c]⟩=[z]:=by unfold Txt.split;rw [if_pos h1]
  exact call_meets F.slot_str_split (typeIs_str _ _ _) F.entry_str_split (F.args_str_split_2 _ _) (meets_str_split_cannot_occur z ⟨#[c]⟩ t m h1) (d [(z,t)] s.toks i.symm)
 | false =>
  cases hf:(occurrences z ⟨#[c]⟩ 0 z.length (z.length+1)).isEmpty with
  | true =>
   have i:Txt.split z ⟨#[c]⟩=[z]:=by unfold Txt.split;rw [if_neg (by rw [h1];decide),if_pos hf]
   exact call_meets F.slot_str_split (typeIs_str _ _ _) F.entry_str_split (F.args_str_split_2 _ _) (meets_str_split_not_found z ⟨#[c]⟩ t m h1 n hf) (d [(z,t)] s.toks i.symm)
  | false =>
   have i:Txt.split z ⟨#[c]⟩=partsBetween z (occurrences z ⟨#[c]⟩ 0 z.length (z.length+1)) (⟨#[c]⟩:Str).length:=by unfold Txt.split;rw [if_neg (by rw [h1];decide),if_neg (by rw [hf];decide)]
   refine call_meets F.slot_str_split (typeIs_str _ _ _) F.entry_str_split (F.args_str_split_2 _ _) (meets_str_split_sep z ⟨#[c]⟩ t m h1 n hf (by lia) (by rw [← i];exact a)) ?_
   rw [strsFrom_eq]
   exact d _ _ ((numbered_texts _ _).trans i.symm)
def yK(b:PSs X.nox body t):PS X (.Try body (h₀::hs) [] [] pos) t:=by
 intro a s σ H D I h
 refine wpAny_Try_except (Š (b a s σ H D (I.wish _) h) (λf c q=>?_) λ_ _ e=>e.elim)
 cases f with
 | next=>exact wpAny_execs_nil (SP.unwish (f:=.next) q)
 | brk=>exact SP.unwish (f:=.brk) q
 | cont=>exact SP.unwish (f:=.cont) q
 | ret v=>exact SP.unwish (f:=.ret v) q
def oh(_ j:Int):Prop:=0<j/\j.natAbs.log2<9000
theorem vP:OpR X (binaryOp .FloorDiv) (rI oh λi j=>.int (i/j)):=opI λi j _ _ _ _ _ hc q=>by
 have h1:(0:Int)<j:=hc.1
 exact floordiv_int (by lia) (by rw [Int.fdiv_eq_ediv_of_nonneg i (by lia)];exact q) (.inl (PyProof.noPylong_of_log2 hc.2))
end
end L2
namespace L2
open PySem PySem.Spec PyProof.Rows
end L2
namespace L2
open PySem PySem.Spec PyProof.Rows
def ObjOk.there(x:ObjOk P w H h a o):∃ob,h.get? a=some ob:=by
 cases o with
 | lst xs=>obtain ⟨_,_,_,_,e⟩:=x;exact ⟨_,e⟩
 | tup xs=>obtain ⟨_,_,_,o,e,_⟩:=x;exact ⟨_,e⟩
 | dK kvs=>obtain ⟨_,_,_,_,o,_,_,e,_⟩:=x;exact ⟨_,e⟩
 | dT kvs=>obtain ⟨_,_,_,_,o,_,_,e,_⟩:=x;exact ⟨_,e⟩
 | set S n=>obtain ⟨o,_,_,_,e,_⟩:=x;exact ⟨_,e⟩
 | ins C dx fs=>obtain ⟨_,_,_,e,_⟩:=x;exact ⟨_,e⟩
 | own y=>obtain ⟨_,e⟩:=x;exact ⟨_,e⟩
 | xd fs=>obtain ⟨_,⟨_,_,_,e,_⟩,_⟩:=x;exact ⟨_,e⟩
 | rng lo hi=>obtain ⟨_,_,_,e⟩:=x;exact ⟨_,e⟩
 | frz ob u=>obtain ⟨e,_⟩:=x;exact ⟨_,e⟩
 | tbl ps=>exact ⟨_,(show h.get? a=some _ from x)⟩
 | met f y=>exact ⟨_,(show h.get? a=some _ from x)⟩
 | ext φ=>obtain ⟨_,⟨_,e⟩,_⟩:=x;exact ⟨_,e⟩
end L2
namespace L2
open PySem PySem.Spec PyProof.Rows
end L2
namespace L2
open PySem PySem.Spec PyProof.Rows
section
variable {X:Cx}{pins:ý}{σ:St}{H H1:Hp}{s s1:å}{ev:ß}
end
end L2
namespace L2
open PySem PySem.Spec PyProof.Rows PySem.Builtin PySem.Builtin.ObjectAttr PySem.Builtin.Getset_descriptor
end L2
namespace L2
open PySem PySem.Spec PyProof.Rows
end L2
namespace L2
open PySem PySem.Spec PyProof.Rows
section
variable {P:ä}{w:â}{K:Þ}{H:Hp}{h:Ý}{a b:ã}{xs ys:Ú V}
theorem qe(b:HOk P w H h)(c:K.In h)(q:SqL K H a xs):∃its:õ,Vals xs its/\PlainL h a its.toArray/\xs.length<=sizeLine:=by
 rcases q with q | ⟨o,its,n,hk,hc,hd,hs,hz,r⟩
 .obtain ⟨z,its,n,r,e⟩:=q.ok b
  exact ⟨its,r,⟨_,n,e,ϱ,ϱ,ϱ⟩,z⟩
 .refine ⟨its.toList,r,⟨o,n,c a o hk,hc,hd,by simpa using hs⟩,?_⟩
  have e:=r.length
  simp only [Array.length_toList] at e
  lia
theorem bS(b:HOk P w H h)(c:K.In h)(q:SqT K H a xs):∃its:õ,Vals xs its/\IsTup h a its.toArray/\xs.length<=sizeLine:=by
 rcases q with q | ⟨o,its,n,hk,hc,hs,hz,r⟩
 .obtain ⟨z,its,r,p⟩:=q.ok b
  exact ⟨its,r,p.tup,z⟩
 .refine ⟨its.toList,r,⟨o,c a o hk,hc,n,by simpa using hs⟩,?_⟩
  have e:=r.length
  simp only [Array.length_toList] at e
  lia
def yj(c:HOk P w H h)(i:K.In h)(q:SqT K H a xs)(u:SqT K H a ys):xs=ys:=by
 obtain ⟨j,r,⟨o,e,_,n,d⟩,_⟩:=bS c i q
 obtain ⟨b,p,⟨v,l,_,x,m⟩,_⟩:=bS c i u
 rw [e] at l;cases l
 rw [d] at m
 injection m with d1 _
 have:j=b:=by simpa using congrArg Array.toList d1
 subst this
 exact r.inj p
def SqU(K:Þ)(H:Hp)(a:ã)(xs:Ú V):Prop :=
 H a=some (.tup xs)\/∃(o:Obj) (its:æ) (n:Nat),K.lookup a=some o/\o.cls=.type "tuple"/\o.data=.seq its n/\its.size<=sizeLine/\Vals xs its.toList
def SqU.sq(q:SqU K H a xs):SqT K H a xs:=q.elim (λz=>.inl (.inl z)) .inr
def gy(H H':Hp):Prop:=∀b xs,H b=some (.tup xs)->H' b=some (.tup xs)
def df.ts(e:df H H'):gy H H':=λb xs h=>e b _ h
def SqU.keep(e:gy H H')(q:SqU K H a xs):SqU K H' a xs:=q.elim (λz=>.inl (e _ _ z)) .inr
end
def EqIs(K:Þ)(n:Nat)(H:Hp)(x y:V)(b:Bool):Prop :=
 ∀(P:ä) (w:â) (A:à) (s:å) (u v:ß),A.units+n<cLine->HOk P w H s.heap->K.In s.heap->RelV x u->RelV y v->SeqAt.EqAt A s u v b
def l8(K:Þ)(n:Nat)(H:Hp)(x y:V)(b:Bool):Prop :=
 ∀(P:ä) (w:â) (A:à) (s:å) (u v:ß),A.units+n<cLine->HOk P w H s.heap->K.In s.heap->RelV x u->RelV y v->SeqAt.RcAt A s u v b
def n6(K:Þ)(n:Nat)(H:Hp)(x y:V)(b:Bool):Prop :=
 ∀(P:ä) (w:â) (A:à) (s:å) (u v:ß),A.units+n<cLine->HOk P w H s.heap->K.In s.heap->RelV x u->RelV y v->SeqAt.RcNeAt A s u v (!b)
section
variable {K:Þ}{H:Hp}{a b:ã}{n m:Nat}{x y:V}{r:Bool}
theorem EqIs.mono(h:EqIs K n H x y r)(le:n<=m):EqIs K m H x y r:=λP w A s u v hA=>h P w A s u v (by lia)
theorem EO{e:Nat->Bool}(ha:SqT K H a us)(hb:SqT K H b vs)(hl:us.length=vs.length)(he:∀(j:Nat) x y,us[j]?=some x->vs[j]?=some y->EqIs K n H x y (e j)) :
  l8 K (n+1) H (.ref a) (.ref b) ((List.range us.length).all e)/\n6 K (n+1) H (.ref a) (.ref b) ((List.range us.length).all e):=by
 have d:∀(P:ä) (w:â) (A:à) (s:å) (u v:ß),A.units+(n+1)<cLine->HOk P w H s.heap->K.In s.heap->RelV (.ref a) u->RelV (.ref b) v ->
   SeqAt.RcAt A s u v ((List.range us.length).all e)/\SeqAt.RcNeAt A s u v (!(List.range us.length).all e):=by
  intro P w A s u v hA l m r1 r2
  cases r1
  cases r2
  obtain ⟨h,F,G,_⟩:=bS l m ha
  obtain ⟨i,I,L,_⟩:=bS l m hb
  have Y:=F.length
  have l2:=I.length
  have c:∀j (h1:j<h.toArray.size) (o:j<i.toArray.size),SeqAt.EqAt A.in1 s h.toArray[j] i.toArray[j] (e j):=λj h1 o=>by
   have p:j<h.length:=by simpa using h1
   have r:j<i.length:=by simpa using o
   have O:us[j]?=some us[j]:=ξ (by lia)
   have Q:vs[j]?=some vs[j]:=ξ (by lia)
   obtain ⟨u,N,U⟩:=F.get O
   obtain ⟨v,ev,X⟩:=I.get Q
   have q:=he j _ _ O Q P w A.in1 s u v (by show A.units+1+n<cLine;lia) l m U X
   have Z:h.toArray[j]=u:=by
    rw [ξ p] at N
    simpa using Option.some.inj N
   have z2:i.toArray[j]=v:=by
    rw [ξ r] at ev
    simpa using Option.some.inj ev
   rw [Z,z2]
   exact q
  have S:((List.range (min h.toArray.size i.toArray.size)).all e&&h.toArray.size==i.toArray.size)=(List.range us.length).all e:=by
   have s1:h.toArray.size=us.length:=by simp [Y]
   have s2:i.toArray.size=us.length:=by simp [← l2,hl]
   rw [s1,s2,Nat.min_self]
   simp
  constructor
  .have q:=SeqAt.RcAt.tuples (A:=A) (s:=s) (e:=e) G L (by lia) c
   rw [S] at q
   exact q
  .have q:=SeqAt.RcNeAt.tuples (A:=A) (s:=s) (e:=e) G L (by lia) c
   rw [S] at q
   exact q
 exact ⟨λP w A s u v h1 o z C D=>(d P w A s u v h1 o z C D).1,λP w A s u v h1 o z C D=>(d P w A s u v h1 o z C D).2⟩
def ng(h:l8 K n H (.ref a) (.ref b) r)(m:∀(P:ä) (w:â) (h:Ý),HOk P w H h->K.In h->a=b->r=true):EqIs K n H (.ref a) (.ref b) r:=by
 intro P w A s u v l c d i j
 have q:=h P w A s u v l c d i j
 cases i
 cases j
 by_cases e:a=b
 .rw [m P w s.heap c d e,e]
  exact SeqAt.EqAt.same _
 .exact SeqAt.EqAt.of_refs e q
end
structure Cod(α:Type) [DecidableEq α] where
 n:Nat
 rp:Þ->Hp->α->V->Prop
 inj:∀{P:ä} {w:â} {K:Þ} {H:Hp} {h:Ý} {x y:α} {v:V},HOk P w H h->K.In h->rp K H x v->rp K H y v->x=y
 eq:∀{K:Þ} {H:Hp} {x y:α} {u v:V},rp K H x u->rp K H y v->EqIs K n H u v (decide (x=y))
 rc:∀{K:Þ} {H:Hp} {x y:α} {u v:V},rp K H x u->rp K H y v->l8 K n H u v (decide (x=y))
 ne:∀{K:Þ} {H:Hp} {x y:α} {u v:V},rp K H x u->rp K H y v->n6 K n H u v (decide (x=y))
 keep:∀{K:Þ} {H H':Hp} {x:α} {v:V},gy H H'->rp K H x v->rp K H' x v
def be(x y:Str):decide (x=y)=(x==y):=by
 rw [Ģ]
 simp
def gJ:Cod Str where
 n:=0
 rp _ _ i v:=v=.str i
 inj _ _ h1 h2:=by
  rw [h1] at h2
  exact V.str.inj h2
 eq h1 h2:=by
  intro P w A s u v _ _ _ r1 r2
  subst h1 h2
  obtain ⟨t,rfl⟩:=r1
  obtain ⟨t',rfl⟩:=r2
  rw [be]
  exact SeqAt.EqAt.str_str _ t _ t'
 rc h1 h2:=by
  intro P w A s u v _ _ _ r1 r2
  subst h1 h2
  obtain ⟨t,rfl⟩:=r1
  obtain ⟨t',rfl⟩:=r2
  rw [be]
  exact SeqAt.RcAt.str_str _ t _ t'
 ne h1 h2:=by
  intro P w A s u v _ _ _ r1 r2
  subst h1 h2
  obtain ⟨t,rfl⟩:=r1
  obtain ⟨t',rfl⟩:=r2
  rw [be]
  exact SeqAt.RcNeAt.str_str _ t _ t'
 keep _ h:=h
section
variable {α β γ:Type} [DecidableEq α] [DecidableEq β] [DecidableEq γ]
def rT2(c:Cod α)(d:Cod β)(K:Þ)(H:Hp)(x:α×β)(v:V):Prop:=∃a u w,v=.ref a/\SqU K H a [u,w]/\c.rp K H x.1 u/\d.rp K H x.2 w
def ql{c:Cod α}{d:Cod β}{P:ä}{w:â}{K:Þ}{H:Hp}{h:Ý}{x y:α×β}{v:V}(i:HOk P w H h)(j:K.In h)(h1:rT2 c d K H x v)(r:rT2 c d K H y v):x=y:=by
 obtain ⟨a,u,t,rfl,n,o,p⟩:=h1
 obtain ⟨b,C,D,e,q,l,m⟩:=r
 cases e
 have z:=yj i j n.sq q.sq
 cases z
 exact Prod.ext (c.inj i j o l) (d.inj i j p m)
def oG{c:Cod α}{d:Cod β}{K:Þ}{H:Hp}{x y:α×β}{u v:V}(h1:rT2 c d K H x u)(C:rT2 c d K H y v) :
  l8 K (max c.n d.n+1) H u v (decide (x=y))/\n6 K (max c.n d.n+1) H u v (decide (x=y)):=by
 obtain ⟨a,u,t,rfl,o,r,w⟩:=h1
 obtain ⟨b,D,F,rfl,z,l,m⟩:=C
 have T:=EO (n:=max c.n d.n) (e:=λj=>if j=0 then decide (x.1=y.1) else decide (x.2=y.2)) o.sq z.sq rfl (λj p q h i=>by
  match j,h,i with
  | 0,h,i=>cases h;cases i;exact (c.eq r l).mono (Nat.le_max_left _ _)
  | 1,h,i=>cases h;cases i;exact (d.eq w m).mono (Nat.le_max_right _ _))
 have e:((List.range ([u,t]:Ú V).length).all λj=>if j=0 then decide (x.1=y.1) else decide (x.2=y.2))=decide (x=y):=by
  show (decide (x.1=y.1)&&(decide (x.2=y.2)&&true))=decide (x=y)
  rw [Bool.and_true,← Bool.decide_and]
  exact decide_eq_decide.mpr (Prod.ext_iff (x:=x) (y:=y)).symm
 rw [e] at T
 exact T
noncomputable def cT2(c:Cod α)(d:Cod β):Cod (α×β) where
 n:=max c.n d.n+1
 rp:=rT2 c d
 inj:=ql
 rc h1 h2:=(oG h1 h2).1
 ne h1 h2:=(oG h1 h2).2
 eq {K H x y u v} h1 h2:=by
  have r:=(oG h1 h2).1
  have i:=λP w h hok kin=>ql (c:=c) (d:=d) (P:=P) (w:=w) (K:=K) (H:=H) (h:=h) (x:=x) (y:=y) (v:=v) hok kin
  obtain ⟨a,_,_,rfl,_⟩:=id h1
  obtain ⟨b,_,_,rfl,_⟩:=id h2
  refine ng r λP w h hok kin e=>?_
  subst e
  exact τ (i P w h hok kin h1 h2)
 keep e h:=let ⟨a,u,w,h1,h2,h3,h4⟩:=h;⟨a,u,w,h1,h2.keep e,c.keep e h3,d.keep e h4⟩
end
section
variable {α:Type} [DecidableEq α] {K:Þ}{H:Hp}
theorem _root_.PySem.Paired.get1{β γ:Type}{R:β->γ->Prop}:∀{xs:Ú β} {us:Ú γ},Paired R xs us->∀{j:Nat} {x:β},xs[j]?=some x->∃u,us[j]?=some u/\R x u
 | _,_,.nil,j,u,e=>by simp at e
 | _,_,.cons r t,0,u,e=>by simp at e;subst e;exact ⟨_,rfl,r⟩
 | _,_,.cons r t,j+1,u,e=>PySem.Paired.get1 t (j:=j) (by simpa using e)
theorem _root_.PySem.Paired.len{β γ:Type}{R:β->γ->Prop}:∀{xs:Ú β} {us:Ú γ},Paired R xs us->xs.length=us.length
 | _,_,.nil=>rfl
 | _,_,.cons r t=>by simp [PySem.Paired.len t]
end
section
variable {X:Cx}{α:Type} [DecidableEq α]
noncomputable def eqR(c:Cod α)(K:Þ)(H:Hp)(a:α)(u:ß):Bool:=@decide (∃v,RelV v u/\c.rp K H a v) (Classical.propDecidable _)
def ww{c:Cod α}{P:ä}{w:â}{K:Þ}{H:Hp}{h:Ý}{a z:α}{v:V}{u:ß}(b:HOk P w H h)(d:K.In h)(r:RelV v u)(q:c.rp K H z v):eqR c K H a u=decide (z=a):=by
 unfold eqR
 by_cases e:z=a
 .subst e
  rw [τ (show z=z from rfl)]
  exact @decide_eq_true _ (Classical.propDecidable _) ⟨v,r,q⟩
 .rw [Γ e]
  refine @decide_eq_false _ (Classical.propDecidable _) λ⟨l,i,j⟩=>e ?_
  have:=r.inj i
  subst this
  exact c.inj b d q j
theorem lY{c:Cod α}{P:ä}{w:â}{K:Þ}{H:Hp}{h:Ý}{a:α}(hok:HOk P w H h)(kin:K.In h):∀{xs:Ú α} {us:Ú V} {its:õ},Paired (c.rp K H) xs us->Vals us its->its.any (eqR c K H a)=decide (a∈xs)
 | _,_,_,.nil,.nil=>by simp
 | x::xs,_,_,.cons p t,.cons r s=>by
  rw [List.any_cons,ww hok kin r p,lY hok kin t s,Ģ]
  simp only [Bool.or_eq_true,decide_eq_true_eq,List.mem_cons]
  exact ⟨λz=>z.elim (λe=>.inl e.symm) .inr,λz=>z.elim (λe=>.inl e.symm) .inr⟩
theorem kQ{c:Cod α}{P:ä}{w:â}{A:à}{s:å}{K:Þ}{H:Hp}{a:α}{x:V}{v:ß}(hok:HOk P w H s.heap)(kin:K.In s.heap)(hA:A.units+c.n<cLine)(rx:RelV x v)(qx:c.rp K H a x) :
  ∀{xs:Ú α} {us:Ú V} {its:õ},Paired (c.rp K H) xs us->Vals us its->∀u∈its,SeqAt.EqAt A s u v (eqR c K H a u)
 | _,_,_,.nil,.nil=>λu hu=>by cases hu
 | _,_,_,.cons p t,.cons r q=>λu' hu=>by
  rcases ϕ.mp hu with rfl | hu
  .rw [ww hok kin r p]
   exact c.eq p qx P w A s _ v hA hok kin r rx
  .exact kQ hok kin hA rx qx t q u' hu
def Hi(c:Cod α)(K:Þ):R2:=λx y H Q=>∃a p us xs,c.rp K H a x/\y=.ref p/\(SqL K H p us\/SqT K H p us)/\Paired (c.rp K H) xs us/\Q (.bl (decide (a∈xs))) H
theorem vO(c:Cod α)(C:X.A.units+c.n+1<cLine):OpR X (compareOp .In) (Hi c X.K):=by
 intro j s σ H x y v u Q I l o h
 obtain ⟨a,p,us,z,i,rfl,hq,d,q⟩:=h
 cases o
 rcases hq with hq | hq
 .obtain ⟨b,r,pl,m⟩:=I.list hq
  refine SeqAt.in_listAt (eqR c X.K H a) pl.isList (λw e=>kQ I.hok I.kIn (by show X.A.units+1+c.n<cLine;lia) l i d r w (by simpa using e)) ⟨.bl _,H,I,ϱ,?_⟩
  rw [show b.toArray.any (eqR c X.K H a)=b.any (eqR c X.K H a) by simp,lY I.hok I.kIn d r]
  exact q
 .obtain ⟨b,r,pl,m⟩:=I.tuple hq
  refine SeqAt.in_tupleAt (eqR c X.K H a) pl (λw e=>kQ I.hok I.kIn (by show X.A.units+1+c.n<cLine;lia) l i d r w (by simpa using e)) ⟨.bl _,H,I,ϱ,?_⟩
  rw [show b.toArray.any (eqR c X.K H a)=b.any (eqR c X.K H a) by simp,lY I.hok I.kIn d r]
  exact q
end
end L2
namespace L2
open PySem PySem.Spec PyProof.Rows
end L2
namespace L2
open PySem PySem.Spec PyProof.Rows
section
variable {X:Cx}
theorem nH(Z:X.calm=true):CallR X (.builtin "any") (λxs H Q=>∃(p:ã) (bs:Ú Bool),xs=[.ref p]/\SqL X.K H p (bs.map V.bl)/\Q (.bl (bs.any id)) H):=by
 intro C s σ H xs us Q I r h
 obtain ⟨p,bs,rfl,D,q⟩:=h
 obtain ⟨u,rfl,F⟩:=bz r
 cases (show u=Value.ref p from F)
 obtain ⟨a,y,pl,hz⟩:=I.list D
 have o:=pl.isList
 have w:p<s.heap.objs.size:=by obtain ⟨_,e,_⟩:=o;exact η e
 have L:X.A.handled=none:=I.ok.hd Z
 have j:bs.length=a.length:=by have:=y.length;rw [ν] at this;exact this
 refine call_any_walk (wpAny_pyIter_list o ?_)
 refine ⟨s.heap.objs.size,[s.heap.objs.size,p],[s.heap.objs.size],a.toArray.size,_,_,λi=>(bs[i]?).getD false,ϱ,Walks.list (A:=X.A.in1) L _ p (Φ w) a.toArray,
  ⟨⟨_,ϻ _ rfl,ϱ,ϱ⟩,o.push _⟩,λi v N O E' S U=>?_,λh' tk Y=>?_⟩
 .have l:a[i]?=some v:=by simpa using S
  have d:i<a.length:=(ž.mp l).1
  have c:(bs.map V.bl)[i]?=some (V.bl (bs[i]'(by lia))):=by rw [Ź,ξ (by lia)];rfl
  obtain ⟨u',z,G⟩:=y.get c
  rw [l] at z
  cases z
  cases (show v=Value.bool _ from G)
  have m:O ((bs[i]?).getD false) N:=U
  rw [ξ (by lia)] at m
  exact ś m
 .have e:((List.range a.toArray.size).any λi=>(bs[i]?).getD false)=bs.any id:=by
   rw [š,← j,Ģ,Ţ,Ţ]
   constructor
   .rintro ⟨i,d,c⟩
    have n:=ę.mp d
    rw [ξ n] at c
    exact ⟨bs[i],Ī n,c⟩
   .rintro ⟨b,c,x⟩
    obtain ⟨i,d,e⟩:=List.getElem_of_mem c
    refine ⟨i,ę.mpr d,?_⟩
    rw [ξ d,e]
    exact x
  rw [e]
  exact ⟨.bl _,H,I.kept (LSm.kept_iter Y),ϱ,q⟩
noncomputable def zV:KTD.Dat->ß->Bool
 | .flat d,v=>KTD.flatLooks d v
 | _,_=>false
theorem zU:∀(d:KTD.Dat) (v:ß),zV d v=true->d.At h v
 | .flat d,v,e=>KTD.flat_of_looks (d:=d) e
 | .float _,_,e=>by cases e
 | .nums _,_,e=>by cases e
 | .words _,_,e=>by cases e
 | .tup _,_,e=>by cases e
 | .tab _,_,e=>by cases e
def TabK(K:Þ)(a:ã)(D:Ú (Str×KTD.Dat)):Prop:=KTD.tabLook zV (λb=>K.lookup b) a D=true
def TabK.at{K:Þ}{a:ã}{D:Ú (Str×KTD.Dat)}{h:Ý}(t:TabK K a D)(kin:K.In h):KTD.TextTab h a D:=KTD.tab_of_look zU (λa o e=>kin a o e) t
theorem lH{Pr:ß->Prop}:∀{D:Ú (Str×KTD.Dat)} {d:KTD.Dat},KTD.datumAt k D=some d->KTD.Opened h₀ Pr d->KTD.EachL h₀ k Pr D
 | [],_,e,_=>by cases e
 | (x,d')::D,d,e,o=>by
  have e':(if decide (k=x)=true then some d' else KTD.datumAt k D)=some d:=e
  by_cases hx:k=x
  .rw [Ż (τ hx)] at e'
   cases e'
   exact KTD.eachL_hit hx o
  .rw [if_neg (by simp [hx])] at e'
   exact KTD.eachL_miss hx (lH e' o)
def zy:IxR X (λx y H Q=>∃a k i,x=.ref a/\y=.str k/\TabK X.K a D/\KTD.datumAt k D=some (.flat (.int i))/\(D.all λp=>KTD.plain p.2)=true/\Q (.int i) H):=by
 intro b c j s σ H x y v u Q I m n h o
 obtain ⟨a,k,i,rfl,rfl,l,d,hp,q⟩:=h
 cases m
 obtain ⟨t,rfl⟩:=n
 refine KTD.item_textA (h₀:=s.heap) ⟨l.at I.kIn,λ_ _ e=>e⟩ hp ?_ ?_ o
 .rw [← KTD.isSome_datumAt,d];rfl
 .exact lH d (KTD.opened_int λr=>⟨.int i,H,I.tok _,⟨_,ϱ⟩,q⟩)
end
end L2
namespace L2
open PySem PySem.Spec PyProof.Rows PySem.W
def eG(h:H p=none):df H (upd H p o):=λb u e=>by
 rw [ah (aj e h)]
 exact e
def Kp(p:ã)(H H':Hp):Prop:=∀b o,b≠p->H b=some o->H' b=some o
def Kp.of(h:df H H'):Kp p H H':=λb o _ e=>h b o e
def BB(mg:û)(h:Ý):Prop:=∃bm ob,mg "__builtins__"=some (.ref bm)/\bm≠builtinsNs/\h.get? bm=some ob/\ob.cls=.type "module"/\ob.dict=some builtinsNs/\ob.data=.plain
noncomputable def jk(c:ã)(q:Str):HO:=.ext λh=>∃o vs t,h.get? c=some o/\o.data=.fields vs/\vs[1]?=some (.str q t)
noncomputable def jo(p:Pos)(c:ã):æ:=#[]++#[rawInt p.line,rawInt p.col,.ref c]
def uC(p:Pos)(c:ã):(jo p c).toList=[rawInt p.line,rawInt p.col,.ref c]:=by simp [jo]
def uD(p:Pos)(c:ã):codeAmong p (jo p c).toList=some (.ref c):=by
 rw [uC]
 simp [codeAmong,rawInt]
def yb(p:Pos)(c:ã):TriplesOk (jo p c).toList:=by
 rw [uC]
 exact trivial
def Tb(H:Hp)(P:ã)(p:Pos)(q:Str):Prop:=H P=some (.tbl #[])\/∃c,H P=some (.tbl (jo p c))/\H c=some (jk c q)
def noT:HO->Prop
 | .tbl _=>False
 | _=>True
def wN(e:h.get? c=some o)(d:o.data=.fields vs)(v:vs[1]?=some (.str q t)) :
  ObjOk Pg w H h c (jk c q):=⟨⟨o,vs,t,e,d,v⟩,⟨_,e⟩,λ_ _ ⟨o,vs,t,e,r⟩ k=>⟨o,vs,t,k _ e,r⟩⟩
theorem qR{h B a:Ý}:∀{l:ð},h.FunFrames B l->(∀b∈frs l,a.get? b=none)->h.FunFrames a l
 | [],_,_=>trivial
 | env::r,⟨k,⟨L,o,fr,_,e,d⟩,t⟩,n=>by
  have m:frs (env::r)=L::frs r:=by
   show List.filterMap _ (env::r)=_
   rw [List.filterMap_cons,fr]
   rfl
  rw [m] at n
  exact ⟨k,⟨L,o,fr,n L Ω,e,d⟩,qR t λb c=>n b (Θ _ c)⟩
noncomputable def fA(l:ð)(H:Hp)(h:Ý):Ý:=hideAll h (trk h H++frs l)
def gf(e:h.get? b=some o)(n:H b=none)(nf:b∉frs l):(fA l H h).get? b=some o:=hideAll_get _ e λhm=>by
 rcases Ű.mp hm with z | z
 .have q:(H b).isSome=true:=(ŵ.mp z).2
  rw [n] at q
  simp at q
 .exact nf z
def iH(e:(fA l H h).get? b=some o):h.get? b=some o/\H b=none/\b∉frs l:=by
 have a:h.get? b=some o:=of_hideAll _ e
 refine ⟨a,?_,λz=>?_⟩
 .cases q:H b with
  | none=>rfl
  | some x =>
   have c:b∈trk h H++frs l:=List.mem_append_left _ (List.mem_filter.mpr ⟨List.mem_range.mpr (Heap.lt_size a),by simp [q]⟩)
   have z:(fA l H h).get? b=none:=hideAll_none _ c
   rw [z] at e
   cases e
 .have z:(fA l H h).get? b=none:=hideAll_none _ (Ψ _ z)
  rw [z] at e
  cases e
def ue(pp:ý)(cs:Ú (Addr×V))(h:Ý):Prop:=(∀p∈pp,h.get? p.1=some p.2)/\∀c∈cs,∃u,RelV c.2 u/\h.IsCell c.1 (some u)
def pU(X:Cx)(cs:Ú (Addr×V))(σ:St):Prop:=∀c∈cs,∃(i:Nat) (x:Str),X.N[i]?=some x/\σ[i]?=some (some c.2)/\X.env.kindOf x=some .cell/\X.env.cells.lookup x=some c.1/\X.fn x=true
section
variable {X:Cx}{pins:ý}{σ:St}{H:Hp}{s:å}
def Inv.nfr2(I:Inv X pins σ H s){b:ã}{o:Obj}(e:X.base.get? b=some o):b∉frs X.stack:=λz=>by
 rcases ϕ.mp (I.stkSub b z) with z | z
 .have:=η (I.ok.bs b o e).1
  rw [z] at this
  exact absurd this (Nat.not_lt.mpr I.ok.above)
 .exact I.ok.nofr e z
def Inv.baseK(I:Inv X pins σ H s):∀b o,X.base.get? b=some o->(fA X.stack H s.heap).get? b=some o:=λb o e=>gf (I.bs b o e).1 (I.bs b o e).2 (I.nfr2 e)
def Inv.modB(I:Inv X pins σ H s):Mod X.K X.mg (fA X.stack H s.heap):=by
 obtain ⟨b,c,⟨d,e,h⟩,i⟩:=I.ok.mod
 have a:=I.baseK
 exact ⟨b.keeps a,c.keeps a,⟨d,e.keeps a,h⟩,i.keeps a⟩
def Inv.env0B(I:Inv X pins σ H s):Env0 X.prog X.w X.K X.mg (fA X.stack H s.heap) X.A X.stack s H:=by
 refine ⟨I.ok.frames,I.modB,λb o e=>⟨(iH e).1,(iH e).2.1⟩,Nat.le_of_eq (hideAll_size _ _),qR I.stack λb a=>?_,I.stkFree,I.hok,I.bare⟩
 cases z:(fA X.stack H s.heap).get? b with
 | none=>rfl
 | some o=>exact absurd a (iH z).2.2
def Inv.pinB(I:Inv X pins σ H s)(hp:∀p∈pp,p∈X.pn)(w:pU X cs σ):ue pp cs (fA X.stack H s.heap):=by
 refine ⟨λp d=>?_,λc d=>?_⟩
 .obtain ⟨e,n,j,nf,_⟩:=I.pin p (ũ _ (hp p d))
  exact gf e n λz=>(ϕ.mp (I.stkSub _ z)).elim j nf
 .obtain ⟨i,x,h1,l,h,a,q⟩:=w c d
  obtain ⟨m,y,v⟩:=I.loc
  obtain ⟨u,r,lk⟩:=v i x c.2 h1 l (.inr (.inl h))
  rcases lk with ⟨z,_⟩ | ⟨_,c',e,o,ho,hd⟩
  .rw [h] at z
   cases z
  .rw [a] at e
   cases e
   refine ⟨u,r,o,gf ho (I.freeC x _ a) λz=>?_,hd⟩
   rcases ϕ.mp (I.stkSub _ z) with z | z
   .exact I.cne x _ a z
   .obtain ⟨_,C,b,_⟩:=I.ok.funs.mem z
    exact absurd (η b) (Nat.not_lt.mpr (I.ok.cab x _ q a))
end
structure og(N:ó)(x:Str)(sc:Scope)(cl:ö):Prop where
 kind:sc.kind=.function
 co:sc.isCoroutine=false
 gen:sc.isGenerator=false
 nd:N.Nodup
 pre:N[0]?=some x
 par:sc.names.lookup x=some .local
 nocell:∀y∈sc.names,y.2≠.cell
 free:∀y,sc.names.lookup y=some .free->∃c,cl.lookup y=some c
 inj:∀y z c,cl.lookup y=some c->cl.lookup z=some c->y=z
noncomputable def qY(CX:CXT)(P:ä)(w:â)(K:Þ)(mg:û)(base:Ý)(N:ó)(qual:Str)(scope:Scope)(f:ã)(cd:ß)(cl:ö)(A:à)(outer:ð)(s:å)(H:Hp)(E:XK):Cx where
 prog:=P
 w:=w
 K:=K
 mg:=mg
 base:=base
 A:=A.deeper (envX qual scope s.heap.objs.size f cd cl)
 N:=N
 s₀:=s
 H₀:=H
 env:=envX qual scope s.heap.objs.size f cd cl
 outer:=outer
 stack:=envX qual scope s.heap.objs.size f cd cl::outer
 ex:=[]
 calm:=true
 fn:=λ_=>false
 pn:=[]
 xe:=λe s'=>wpAny (model P w) (A.deeper (envX qual scope s.heap.objs.size f cd cl)) (leaving (envX qual scope s.heap.objs.size f cd cl) e) (λ_ s''=>CX outer H s E e s'') (λe' s''=>CX outer H s E e' s'') s'
noncomputable def n9(f:ã)(q:Str)(pr:Arguments)(b:Û)(sc:Scope)(cl:ö)(c:ã):HO:=.ext λh=>∃pm ct,h.get? f=some {cls:=.type "function",data:=.func (kla_fn "<lambda>" q pr b sc cl pm (.ref c) ct)}
def mO{Pg:ä}{w:â}{H:Hp}{h:Ý}{f:ã}{q:Str}{pr:Arguments}{b:Û}{sc:Scope}{cl:ö}{c:ã}{pm ct:ß}(e:h.get? f=some {cls:=.type "function",data:=.func (kla_fn "<lambda>" q pr b sc cl pm (.ref c) ct)}) :
  ObjOk Pg w H h f (n9 f q pr b sc cl c):=⟨⟨pm,ct,e⟩,⟨_,e⟩,λ_ _ ⟨pm,ct,e⟩ k=>⟨pm,ct,k _ e⟩⟩
def uF(P:ã)(p:Pos)(q:Str)(pr:Arguments)(b:Û)(sc:Scope)(cl:ö):TE:=λ_ H Q=>Tb H P p q/\∀f c H',Kp P H H'->H' P=some (.tbl (jo p c))->((H P=some (.tbl #[])/\H c=none)\/H P=some (.tbl (jo p c)))->H f=none->H' f=some (n9 f q pr b sc cl c)->H' c=some (jk c q)->Q (.ref f) H'
def yW{X:Cx}{G:ö}{cc P:ã}{pos:Pos}{q:Str}{S:Arguments}{b:Û}{U:Scope}(F:X.env.code=.ref cc)(hC:codeHdIn X.K cc P=true)(hB:BB X.mg X.base)(hq:X.env.qual++"<lambda>"=q)
  (ak:closureFor U X.env=pure G)(an:defaultsOf S X.env=([],[])):PE X (.Lambda S b U pos) (uF P pos q S b U G):=by
 intro ag s σ H Q I h
 obtain ⟨L,hQ⟩:=h
 subst hq
 refine kla_eval an ?_
 have hg:s.heap.Ns mainGlobals X.mg:=I.ok.mod.glob.keeps I.bk
 have C:CodeHd s.heap cc P:=codeHd_of_K I.kIn hC
 obtain ⟨bm,ob,b1,b2,b3,b4,b5,b6⟩:=hB
 have p:=I.bk _ _ b3
 have a3:bm≠mainGlobals:=λz=>by
  obtain ⟨o,es,ep,e,hd,_⟩:=hg
  rw [z,e] at p
  cases p
  rw [hd] at b6
  cases b6
 have nG:∀ps,s.heap.get? P=some (tabObj ps)->mainGlobals≠P/\bm≠P:=λps e=>by
  refine ⟨λz=>?_,λz=>?_⟩
  .obtain ⟨o,es,ep,e',hd,_⟩:=hg
   rw [z,e] at e'
   cases e'
   cases hd
  .rw [z,e] at p
   cases p
   cases b4
 rcases L with e | ⟨c,e,ec⟩
 .have hP:s.heap.get? P=some (tabObj #[]):=I.hok P _ e
  obtain ⟨n1,n2⟩:=nG _ hP
  refine kla_makeFunction (mg:=X.mg) (clos:=G) ak I.ok.glob hg F C hP trivial rfl n1 ⟨bm,ob,b1,b2,a3,n2,p,b4,b5,b6⟩ λc ct j tk hx x O ab L=>?_
  obtain ⟨c₂,oc,vs,t,e2,bl,hd,hv⟩:=ab
  cases e2
  have ltP:P<s.heap.objs.size:=η hP
  have a4:H c=none:=I.hok.fresh x
  have D:H j.objs.size=none:=I.hok.fresh (ĕ (ź x O))
  have cf:c≠j.objs.size:=Φ O
  have Pc:P≠c:=Φ (Ŷ ltP x)
  have Pf:P≠j.objs.size:=Φ (Ş (Ŷ ltP x) O)
  let H3:Hp:=upd (upd (upd H P (.tbl (jo pos c))) c (jk c (X.env.qual++"<lambda>"))) j.objs.size (n9 j.objs.size (X.env.qual++"<lambda>") S b U G c)
  have Y:∀d,d≠j.objs.size->d≠c->d≠P->H3 d=H d:=λd n1 n2 n3=>(ah n1).trans ((ah n2).trans (ah n3))
  have a6:H3 j.objs.size=some (n9 j.objs.size (X.env.qual++"<lambda>") S b U G c):=ai
  have a8:H3 c=some (jk c (X.env.qual++"<lambda>")):=(ah cf).trans ai
  have Z:H3 P=some (.tbl (jo pos c)):=(ah Pf).trans ((ah Pc).trans ai)
  have w:∀d o,d≠P->H d=some o->H3 d=some o:=λd o n z=>(Y d (aj z D) (aj z a4) n).trans z
  have kp:∀d o,d≠P->s.heap.get? d=some o->(j.push (kla_obj "<lambda>" (X.env.qual++"<lambda>") S b U G ((X.mg "__name__").getD .none) c ct)).get? d=some o:=λd o n z=>ϸ _ (hx d o n z)
  have N:∀d,H d=none->d≠P:=λd z y=>by
   rw [y,e] at z
   cases z
  have i:∀d o,noT o->H d=some o->d≠P:=λd o n z y=>by
   rw [y,e] at z
   cases z
   exact n
  have I3:Inv X ag σ H3 {s with heap:=j.push (kla_obj "<lambda>" (X.env.qual++"<lambda>") S b U G ((X.mg "__name__").getD .none) c ct),toks:=tk}:=by
   refine I.step (g':=s.gens) (d':=s.drawn) (t':=tk) (ch:=[]) (λ_ z=>nomatch z) (λd o _ _ _ z n=>kp d o (N d n) z) (λd o _ _ _ z n=>⟨o.slots,kp d o (N d n) z⟩) (λd o _ z n=>?_) (λd o _ z=>?_)
    (λd xs z=>w d _ (i d (.tup xs) trivial z) z) (λd o u z=>w d _ (i d (.frz o u) trivial z) z) (λd ps z=>?_) (λm hm=>?_) (λd u z=>?_) I.bare
   .have l:=η z
    exact (Y d (Φ (Ŷ l (ĕ (ź x O)))) (Φ (Ŷ l x)) (N d n)).trans n
   .by_cases y:d=P
    .rw [y]
     exact ⟨_,ϸ _ L⟩
    .exact ⟨o,kp d o y z⟩
   .by_cases y:d=P
    .subst y
     rw [e] at z
     cases z
     exact ⟨#[rawInt pos.line,rawInt pos.col,.ref c],Z⟩
    .exact ⟨#[],by rw [w d _ y z];simp⟩
   .obtain ⟨o,es,ep,ho,r⟩:=hm
    exact ⟨o,es,ep,kp _ o (N _ I.free) ho,r⟩
   .by_cases y1:d=j.objs.size
    .subst y1
     rw [a6] at z
     cases z
     exact mO (ϻ _ rfl)
    .by_cases y2:d=c
     .subst y2
      rw [a8] at z
      cases z
      exact wN (ϸ _ bl) hd hv
     .by_cases y3:d=P
      .subst y3
       rw [Z] at z
       cases z
       exact ϸ _ L
      .rw [Y d y1 y2 y3] at z
       refine (I.hok d u z).stay (λa v ha q=>kp a v ?_ q) (λa q=>w a _ (i a (.own d) trivial q) q) λa xs q=>w a _ (i a (.tup xs) trivial q) q
       rcases ha with ha | ha
       .rw [ha]
        exact y3
       .exact i a (.own d) trivial ha
  exact ⟨.ref j.objs.size,H3,I3,ϱ,hQ _ c H3 (λd o n z=>w d o n z) Z (.inl ⟨e,a4⟩) D a6 a8⟩
 .have hP:s.heap.get? P=some (tabObj (jo pos c)):=I.hok P _ e
  obtain ⟨n1,n2⟩:=nG _ hP
  refine kla_makeFunctionHit (mg:=X.mg) (clos:=G) (cv:=.ref c) ak I.ok.glob hg F C hP (yb _ _) (uD _ _) ⟨bm,ob,b1,b2,a3,n2,p,b4,b5,b6⟩ λct j tk hk hz=>?_
  have D:H j.objs.size=none:=I.hok.fresh hz
  have sm:=eG (o:=n9 j.objs.size (X.env.qual++"<lambda>") S b U G c) D
  exact ⟨.ref j.objs.size,_,I.laid (o:=n9 j.objs.size (X.env.qual++"<lambda>") S b U G c) (t':=tk) (λd o z=>ϸ _ (hk d o z)) hz (mO (ϻ _ rfl)),ϱ,
   hQ _ c _ (Kp.of sm) (sm _ _ e) (.inr e) D ai (sm _ _ ec)⟩
theorem v4{P:ä}{w:â}{K:Þ}{mg:û}{m:Ý}{A:à}{d:ð}{s:å}{H:Hp}{k:Nat}{f c:ã}{q:Str}{pr:Arguments}{b:Û}{C:Scope}{D:ö}{N:ó}{x:Str}{fvs:Ú V}{cs:Ú (Addr×V)}{u:ß}{v:V}{Q:VK}
  (hr:Room (k+1) A)(e0:Env0 P w K mg m A d s H)(hB:ue [] cs m)(S:og N x C D)(a0:N.length=fvs.length+1)(ak:∀y a,D.lookup y=some a->∃v,(a,v)∈cs)
  (an:∀(j:Nat) (y:Str) (v:V),N[j+1]?=some y->fvs[j]?=some v->C.names.lookup y=some .free/\∃a,D.lookup y=some a/\∀v',(a,v')∈cs->v'=v)(hf:H f=some (n9 f q pr b C D c))(hc:H c=some (jk c q))(r:RelV v u)
  (hb:∀pm ct,BindsTo s (kla_fn "<lambda>" q pr b C D pm (.ref c) ct) ⟨[u],[]⟩ [(x,u)])(X:∃t,PE (qY CX0 P w K mg m N q C f (.ref c) D A d s H E0) b t/\t ((v::fvs).map some) H Q) :
  codeAny (model P w) A (.call (.ref f) ⟨[u],[]⟩) (CR CX0 d P w H s Q E0) s:=by
 have a8:s.heap.NoLimit:=e0.mod.nolimit.keeps λb o e=>(e0.bs b o e).1
 obtain ⟨⟨pm,ct,G⟩,_⟩:=(show ObjOk P w H s.heap f (n9 f q pr b C D c) from e0.hok f _ hf)
 obtain ⟨⟨oc,ws,t,a1,hd,hv⟩,_⟩:=(show ObjOk P w H s.heap c (jk c q) from e0.hok c _ hc)
 obtain ⟨_,a3⟩:=hB
 refine kla_callFunE (by have:=hr.dp;lia) G rfl S.co S.gen rfl ⟨c,oc,ws,t,ϱ,a1,hd,hv⟩ (hb pm ct _ _ _ _ ?_)
 refine wpAny_newFunctionEnv S.nocell (λy hy=>by obtain rfl:=ϵ.mp hy;exact S.par) (λh₁ aa Z=>⟨a8.fresh _ Z,kla_codeExpr ?_⟩) S.kind
 have F:∀b o,s.heap.get? b=some o->h₁.get? b=some o:=λb o e=>Z.extBut b o (Φ (η e)) (ϸ _ e)
 obtain ⟨t,ht,hq⟩:=X
 have l:∀y a,D.lookup y=some a->∃v,(a,v)∈cs/\∃u,RelV v u/\s.heap.IsCell a (some u)/\H a=none:=λy a e=>by
  obtain ⟨v,Y⟩:=ak y a e
  obtain ⟨u,ru,o,G,hd⟩:=a3 _ Y
  exact ⟨v,Y,u,ru,⟨o,(e0.bs _ _ G).1,hd⟩,(e0.bs _ _ G).2⟩
 have O:∀b:ã,b∉(qY CX0 P w K mg m N q C f (.ref c) D A d s H E0).ex:=λb z=>absurd (show b∈([]:ô) from z) (by simp)
 have I:Inv (qY CX0 P w K mg m N q C f (.ref c) D A d s H E0) [] ((v::fvs).map some) H {s with heap:=h₁,toks:=s.toks+[(x,u)].length}:=by
  refine ⟨⟨e0.mod,S.kind,ϱ,ϱ,ι _,S.inj,λy hy=>?_,λy c h _=>absurd h (by show ¬(false=true);decide),λ_=>hr.hd,Around.frames_deeper e0.frames,.inr ⟨ϱ,ϱ⟩,λb z=>absurd z (O b),e0.bs,e0.bsz,λb _ _=>O b,λb z=>absurd z (O b),e0.funs,e0.frf⟩,
   rfl,e0.bare,Un.kept F,⟨_,aa,λi y v' h1 h2 h3=>?_⟩,λy a e=>?_,e0.hok.fresh (Nat.le_refl _),λy a e=>?_,λp hp=>absurd (show p∈([]:ý) from hp) (by simp),e0.hok.kept F,?_⟩
  .have hy:C.names.lookup y=some .cell\/C.names.lookup y=some .free:=hy
   rcases hy with hy | hy
   .exact absurd rfl (S.nocell _ (Ū hy))
   .exact S.free y hy
  .cases i with
   | zero =>
    have e1:some x=some y:=S.pre.symm.trans h1
    cases e1
    have U:some (some v)=some (some v'):=h2
    cases U
    exact ⟨u,r,.inl ⟨S.par,by simp⟩⟩
   | succ j =>
    have U:(fvs.map some)[j]?=some (some v'):=h2
    rw [Ź] at U
    cases e3:fvs[j]? with
    | none =>
     rw [e3] at U
     cases U
    | some v2 =>
     rw [e3] at U
     cases U
     obtain ⟨hf,a,ea,hu⟩:=an j y _ h1 e3
     obtain ⟨v3,Y,u3,r3,⟨o,G,L⟩,_⟩:=l y a ea
     obtain rfl:=hu _ Y
     exact ⟨u3,r3,.inr ⟨.inr hf,a,ea,o,F _ _ G,L⟩⟩
  .obtain ⟨v3,Y,u3,r3,⟨o,G,L⟩,_⟩:=l y a e
   exact ⟨_,o,F _ _ G,L⟩
  .obtain ⟨v3,Y,u3,r3,_,n⟩:=l y a e
   exact n
  .show _=N.length
   rw [a0]
   simp
 refine Š (ht [] _ _ H Q I hq) (λu s' hs=>?_) λe s' hs=>hs
 obtain ⟨v,H',J,rv,q⟩:=hs
 exact ⟨v,H',J.os,J.bare,J.base,J.hok,rv,q⟩
def Fun.okC{P:ä}{w:â}{K:Þ}{mg:û}{c:Ý}{x b:Str}{st:Ü}{f:ã}{e:á}{N ps:ó}{k:Nat}{sp:Sp}(F:Fun K x b st f e)(S:dv N ps (au st))(len:∀vs H Q E,sp vs H Q E->vs.length=ps.length)
  (d:∀(A:à) (a:ð) (s:å) (H:Hp) (vs:Ú V) (Q:VK) (E:XK),Room k (A.deeper (envOfC b (au st) s.heap.objs.size f e.code))->sp vs H Q E ->
   ∃t,PSs (pD CX0 P w K mg c N b (au st) f e.code A a s H E).nox (aW st) t/\t {nx:=λ_ H'=>Q .non H',rt:=Q} (start N vs) H):dW P w K mg c CX0 (k+1) f e ps sp:=by
 obtain ⟨p,r,kV,l,u,v,m,y,n,rfl,lk,i⟩:=F.ex
 refine F4 lk i S len λA a s H vs Q E o j=>?_
 obtain ⟨t,h,q⟩:=d A a s H vs Q E o j
 exact ⟨t,h.nox,q⟩
end L2
namespace M
open PySem PySem.Spec L2
open PyProof.Rows hiding St
abbrev Nm:=Nat×ò
inductive AV where
 | non | bl (b:Bool) | int (i:Int) | str (x:Str) | tup (xs:(List) AV) | ref (n:Nm)
 | frl (xs:(List) AV) | frK (ks:List Key) (xs:(List) AV) | frT (ks:(List) (List Key)) (xs:(List) AV) | fzl (xs:(List) AV) | obj (c:Nat) (fs:(List Nat)) (xs:(List) AV) | clo (k:Nat) (xs:(List) AV)
inductive AO where
 | lst (xs:Ú AV) | dK (ks:List Key) (xs:Ú AV) | dT (ks:Ú (List Key)) (xs:Ú AV) | ins (c:Nat) (fs:ñ) (xs:Ú AV) | dead | tb (k:Nat) (p:Pos) (q:Str)
noncomputable def lg:AV->Bool
 | .frl _=>true
 | .frK _ _=>true
 | .frT _ _=>true
 | _=>false
def aT:AV->Bool
 | .clo _ _=>true
 | x=>lg x
def bw(h:aT x=false):lg x=false:=by cases x<;>first | exact h | rfl
noncomputable def zE:AV->Bool
 | .clo _ _=>true
 | _=>false
def qI(h:aT x=false):zE x=false:=by cases x<;>first | rfl | cases h
def LkO:HO->Prop
 | .lst _=>True
 | .dK _=>True
 | .dT _=>True
 | _=>False
abbrev AH:=Nm->Option AO
abbrev Rho:=Nm->Option ã
noncomputable def dig:Nat->Nat->ñ
 | 0,_=>[]
 | k+1,n=>if n=0 then [] else n%128::dig k (n/128)
noncomputable def und:ñ->Nat
 | []=>0
 | d::r=>d+128*und r
theorem kh:∀k n,n<=k->und (dig k n)=n
 | 0, n, h => by have : n = 0 := by lia
                 subst this;rfl
 | k+1,n,h=>by
  unfold dig
  split
  .rename_i e;subst e;rfl
  .show n%128+128*und (dig k (n/128))=n
   rw [kh k (n/128) (by lia)];lia
def nm(n:Nat):Str:=⟨(dig n n).toArray⟩
def fL(h:nm m=nm n):m=n:=by
 have e:dig m m=dig n n:=congrArg (λx:Str=>x.cps.toList) h
 rw [← kh m m (ι _),e,kh n n (ι _)]
structure Tab where
 K:Þ
 cl:Nat->ã
 crB:Ý->Nat->ã->ã->(Ý->Prop)->(Ý->Prop)->Ú V->Prop
 ta:Nat->ã
 bs:Ý
def CF(T:Tab)(c:Nat)(fs:ñ):Prop:=Cls T.K (T.cl c)/\∀f∈fs,NoAttr T.K (T.cl c) (nm f)
def NR(ρ:Rho)(a:ã):Prop:=∀n,ρ n≠some a
def FzL(K:Þ)(H:Hp)(a:ã)(xs:Ú V):Prop :=
 (∃o,H a=some (.frz o (.lst xs))) \/
  ∃(o:Obj) (its:æ) (n:Nat),K.lookup a=some o/\o.cls=.type "list"/\o.dict=none/\o.data=.seq its n/\its.size<=sizeLine/\Vals xs its.toList
def FzL.sq{K:Þ}{H:Hp}{a:ã}{xs:Ú V}(h:FzL K H a xs):SqL K H a xs:=h.imp (λ⟨o,e⟩=>.inr ⟨o,e⟩) id
section
variable (T:Tab)
mutual
def RV(ρ:Rho)(H:Hp):AV->V->Prop
 | .non,v=>v=.non
 | .bl b,v=>v=.bl b
 | .int i,v=>v=.int i
 | .str x,v=>v=.str x
 | .tup xs,v=>∃a vs,v=.ref a/\H a=some (.tup vs)/\RVs ρ H xs vs
 | .ref n,v=>∃a,v=.ref a/\ρ n=some a
 | .frl xs,v=>∃a vs,v=.ref a/\NR ρ a/\H a=some (.lst vs)/\RVs ρ H xs vs
 | .frK ks xs,v=>∃a vs,v=.ref a/\NR ρ a/\H a=some (.dK (ks.zip vs))/\ks.length=xs.length/\RVs ρ H xs vs
 | .frT ks xs,v=>∃a vs,v=.ref a/\NR ρ a/\H a=some (.dT (ks.zip vs))/\ks.length=xs.length/\RVs ρ H xs vs
 | .fzl xs,v=>∃a vs,v=.ref a/\FzL T.K H a vs/\RVs ρ H xs vs
 | .obj c fs xs,v=>∃a dx vs,v=.ref a/\NR ρ a/\H a=some (.ins (T.cl c) dx ((fs.map nm).zip vs))/\(fs.length=xs.length/\CF T c fs)/\RVs ρ H xs vs
 | .clo k xs,v=>∃f c φ ψ vs,v=.ref f/\H f=some (.ext φ)/\H c=some (.ext ψ)/\T.crB T.bs k f c φ ψ vs/\RVs ρ H xs vs
def RVs(ρ:Rho)(H:Hp):Ú AV->Ú V->Prop
 | [],vs=>vs=[]
 | x::xs,vs=>∃v ws,vs=v::ws/\(aT x=false/\RV ρ H x v)/\RVs ρ H xs ws
end
def OM(ρ:Rho)(H:Hp):AO->ã->Prop
 | .lst xs,a=>∃vs,H a=some (.lst vs)/\RVs T ρ H xs vs
 | .dK ks xs,a=>∃vs,H a=some (.dK (ks.zip vs))/\ks.length=xs.length/\RVs T ρ H xs vs
 | .dT ks xs,a=>∃vs,H a=some (.dT (ks.zip vs))/\ks.length=xs.length/\RVs T ρ H xs vs
 | .ins c fs xs,a=>∃dx vs,H a=some (.ins (T.cl c) dx ((fs.map nm).zip vs))/\(fs.length=xs.length/\CF T c fs)/\RVs T ρ H xs vs
 | .dead,_=>True
 | .tb k p q,a=>a=T.ta k/\Tb H a p q
def MK:Option HO->Prop
 | some (.lst _)=>True
 | some (.dK _)=>True
 | some (.dT _)=>True
 | some (.ins _ _ _)=>True
 | some (.tbl _)=>True
 | _=>False
structure Rl(ρ:Rho)(A:AH)(H:Hp):Prop where
 inj:∀m n a,ρ m=some a->ρ n=some a->m=n
 kd:∀n a,ρ n=some a->MK (H a)
 obj:∀n o,A n=some o->∃a,ρ n=some a/\OM T ρ H o a
 fre:∀n,A n=none->ρ n=none
end
structure Ext(ρ:Rho)(H:Hp)(ρ':Rho)(H':Hp):Prop where
 sub:∀n a,ρ n=some a->ρ' n=some a
 new:∀n a,ρ' n=some a->ρ n=some a\/H a=none
 kp:∀a o,H a=some o->NR ρ a->H' a=some o
 dom:∀a,H' a=none->H a=none
def Ext.refl(ρ:Rho)(H:Hp):Ext ρ H ρ H:=⟨λ_ _ h=>h,λ_ _ h=>.inl h,λ_ _ h _=>h,λ_ h=>h⟩
def Ext.nr(e:Ext ρ H ρ' H')(h:H a=some o)(n:NR ρ a):NR ρ' a:=λm q=>by
 rcases e.new m a q with z | z
 .exact n m z
 .rw [h] at z;cases z
def Ext.trans(a:Ext ρ H ρ1 H1)(b:Ext ρ1 H1 ρ2 H2):Ext ρ H ρ2 H2 :=
 ⟨λn x h=>b.sub n x (a.sub n x h),λn x h=>(b.new n x h).elim (a.new n x) λz=>.inr (a.dom x z),λx o h n=>b.kp x o (a.kp x o h n) (a.nr h n),λx h=>a.dom x (b.dom x h)⟩
section
variable {T:Tab}{ρ ρ':Rho}{A A':AH}{H H':Hp}
def Rl.nr(r:Rl T ρ A H)(h:¬MK (H a)):NR ρ a:=λn e=>h (r.kd n a e)
def x6(mk:∀n a,ρ n=some a->MK (H a))(e:Ext ρ H ρ' H')(h:H a=some (.tup vs)):H' a=some (.tup vs) :=
 e.kp a _ h λn q=>by have:=mk n a q;rw [h] at this;exact this
def ly(mk:∀n a,ρ n=some a->MK (H a))(e:Ext ρ H ρ' H'){φ:Ý->Prop}(h:H a=some (.ext φ)):H' a=some (.ext φ) :=
 e.kp a _ h λn q=>by have:=mk n a q;rw [h] at this;exact this
def zP(b:∀n a,ρ n=some a->MK (H a))(e:Ext ρ H ρ' H')(h:FzL T.K H a vs):FzL T.K H' a vs:=by
 rcases h with ⟨o,h⟩ | h
 .exact .inl ⟨o,e.kp a _ h λn q=>by have:=b n a q;rw [h] at this;exact this⟩
 .exact .inr h
mutual
def wf(P:Nm->Prop)(q c:Prop):AV->Prop
 | .ref n=>P n
 | .tup xs=>wfs P xs
 | .fzl xs=>wfs P xs
 | .obj _ _ xs=>wfs P xs
 | .clo _ xs=>c/\wfs P xs
 | .frl xs=>q/\wfs P xs
 | .frK _ xs=>q/\wfs P xs
 | .frT _ xs=>q/\wfs P xs
 | _=>True
def wfs(P:Nm->Prop):Ú AV->Prop
 | []=>True
 | x::xs=>wf P False False x/\wfs P xs
end
structure Mv(T:Tab)(ρ:Rho)(H:Hp)(B:Ý)(ρ':Rho)(H':Hp)(P:Nm->Prop)(q c:Prop):Prop where
 one:∀a o,H a=some o->¬LkO o->(MK (some o)->NR ρ a)->H' a=some o
 ref:∀n a,P n->ρ n=some a->ρ' n=some a
 nr:∀a o,H a=some o->(LkO o->q)->NR ρ a->NR ρ' a
 fr:q->∀a o,H a=some o->NR ρ a->H' a=some o
 clo:c->B=T.bs
def Mv.low{P:Nm->Prop}(m:Mv T ρ H B ρ' H' P q c):Mv T ρ H B ρ' H' P False False :=
 ⟨m.one,m.ref,λa o h k=>m.nr a o h λz=>(k z).elim,False.elim,False.elim⟩
def Mv.fz{P:Nm->Prop}(m:Mv T ρ H B ρ' H' P q c)(h:FzL T.K H a vs):FzL T.K H' a vs:=h.imp (λ⟨o,e⟩=>⟨o,m.one a _ e id False.elim⟩) id
mutual
theorem RV.tr{P:Nm->Prop}(m:Mv T ρ H B ρ' H' P q c):∀{x:AV} {v:V},wf P q c x->RV T ρ H x v->RV {T with bs:=B} ρ' H' x v
 | .non,_,_,h=>h
 | .bl _,_,_,h=>h
 | .int _,_,_,h=>h
 | .str _,_,_,h=>h
 | .tup xs,_,w,h=>let ⟨a,vs,h1,h2,h3⟩:=h;⟨a,vs,h1,m.one _ _ h2 id False.elim,RVs.tr m.low w h3⟩
 | .ref n,_,w,h=>let ⟨a,h1,h2⟩:=h;⟨a,h1,m.ref n a w h2⟩
 | .frl xs,_,w,h=>let ⟨a,vs,h1,h2,h3,h4⟩:=h;⟨a,vs,h1,m.nr _ _ h3 (λ_=>w.1) h2,m.fr w.1 _ _ h3 h2,RVs.tr m.low w.2 h4⟩
 | .frK ks xs,_,w,h=>let ⟨a,vs,h1,h2,h3,h5,h4⟩:=h;⟨a,vs,h1,m.nr _ _ h3 (λ_=>w.1) h2,m.fr w.1 _ _ h3 h2,h5,RVs.tr m.low w.2 h4⟩
 | .frT ks xs,_,w,h=>let ⟨a,vs,h1,h2,h3,h5,h4⟩:=h;⟨a,vs,h1,m.nr _ _ h3 (λ_=>w.1) h2,m.fr w.1 _ _ h3 h2,h5,RVs.tr m.low w.2 h4⟩
 | .fzl xs,_,w,h=>let ⟨a,vs,h1,h2,h3⟩:=h;⟨a,vs,h1,m.fz h2,RVs.tr m.low w h3⟩
 | .obj cc fs xs,_,w,h=>let ⟨a,dx,vs,h1,h2,h3,h5,h4⟩:=h;⟨a,dx,vs,h1,m.nr _ _ h3 False.elim h2,m.one _ _ h3 id λ_=>h2,h5,RVs.tr m.low w h4⟩
 | .clo k xs,_,w,h=>let ⟨f,cc,φ,ψ,vs,h0,h1,h2,h3,h4⟩:=h;⟨f,cc,φ,ψ,vs,h0,m.one _ _ h1 id False.elim,m.one _ _ h2 id False.elim,by have e:=m.clo w.1;subst e;exact h3,RVs.tr m.low w.2 h4⟩
theorem RVs.tr{P:Nm->Prop}(m:Mv T ρ H B ρ' H' P False False):∀{xs:Ú AV} {vs:Ú V},wfs P xs->RVs T ρ H xs vs->RVs {T with bs:=B} ρ' H' xs vs
 | [],_,_,h=>h
 | x::xs,_,w,h=>let ⟨v,ws,h0,h1,h2⟩:=h;⟨v,ws,h0,⟨h1.1,RV.tr m w.1 h1.2⟩,RVs.tr m w.2 h2⟩
end
mutual
theorem RV.wf:∀{x:AV} {v:V},RV T ρ H x v->(lg x=true->q)->(zE x=true->c)->wf (λn=>ρ n≠none) q c x
 | .non,_,_,_,_=>trivial
 | .bl _,_,_,_,_=>trivial
 | .int _,_,_,_,_=>trivial
 | .str _,_,_,_,_=>trivial
 | .tup xs,_,h,_,_=>let ⟨_,_,_,_,g⟩:=h;RVs.wf g
 | .ref n,_,h,_,_=>let ⟨a,_,g⟩:=h;by show ρ n≠none;rw [g];nofun
 | .frl xs,_,h,f,_=>let ⟨_,_,_,_,_,g⟩:=h;⟨f rfl,RVs.wf g⟩
 | .frK _ xs,_,h,f,_=>let ⟨_,_,_,_,_,_,g⟩:=h;⟨f rfl,RVs.wf g⟩
 | .frT _ xs,_,h,f,_=>let ⟨_,_,_,_,_,_,g⟩:=h;⟨f rfl,RVs.wf g⟩
 | .fzl xs,_,h,_,_=>let ⟨_,_,_,_,g⟩:=h;RVs.wf g
 | .obj _ _ xs,_,h,_,_=>let ⟨_,_,_,_,_,_,_,g⟩:=h;RVs.wf g
 | .clo _ xs,_,h,_,f=>let ⟨_,_,_,_,_,_,_,_,_,g⟩:=h;⟨f rfl,RVs.wf g⟩
theorem RVs.wf:∀{xs:Ú AV} {vs:Ú V},RVs T ρ H xs vs->wfs (λn=>ρ n≠none) xs
 | [],_,_=>trivial
 | x::xs,_,h=>let ⟨_,_,_,h1,h2⟩:=h;⟨RV.wf h1.2 (λz=>by rw [bw h1.1] at z;cases z) (λz=>by rw [qI h1.1] at z;cases z),RVs.wf h2⟩
end
def Ext.mv{P:Nm->Prop}(mk:∀n a,ρ n=some a->MK (H a))(e:Ext ρ H ρ' H'):Mv T ρ H T.bs ρ' H' P q c :=
 ⟨λa o h _ n=>e.kp a o h λm z=>by have:=mk m a z;rw [h] at this;exact n this m z,λn a _=>e.sub n a,λa o h _=>e.nr h,λ_ a o h n=>e.kp a o h n,λ_=>rfl⟩
def RV.ext(mk:∀n a,ρ n=some a->MK (H a))(e:Ext ρ H ρ' H')(h:RV T ρ H x v):RV T ρ' H' x v:=RV.tr (e.mv mk) (h.wf (λ_=>trivial) λ_=>trivial) h
def RVs.ext(mk:∀n a,ρ n=some a->MK (H a))(e:Ext ρ H ρ' H')(h:RVs T ρ H xs vs):RVs T ρ' H' xs vs:=RVs.tr (e.mv mk) h.wf h
theorem RVs.len:∀{xs:Ú AV} {vs:Ú V},RVs T ρ H xs vs->xs.length=vs.length
 | [],_,h=>by cases (show _=[] from h);rfl
 | x::xs,_,⟨v,ws,h0,h1,h2⟩=>by subst h0;simp [RVs.len h2]
theorem RVs.app:∀{xs ys:Ú AV} {vs ws:Ú V},RVs T ρ H xs vs->RVs T ρ H ys ws->RVs T ρ H (xs++ys) (vs++ws)
 | [],_,_,_,h,k=>by cases (show _=[] from h);exact k
 | x::xs,_,_,_,⟨v,us,h0,h1,h2⟩,k=>by subst h0;exact ⟨v,us++_,rfl,h1,RVs.app h2 k⟩
theorem RVs.get:∀{xs:Ú AV} {vs:Ú V} {i:Nat} {x:AV},RVs T ρ H xs vs->xs[i]?=some x->∃v,vs[i]?=some v/\RV T ρ H x v
 | [],_,_,_,_,e=>by simp at e
 | x::xs,_,0,_,⟨v,us,h0,h1,h2⟩,e=>by subst h0;simp at e;subst e;exact ⟨v,rfl,h1.2⟩
 | x::xs,_,i+1,_,⟨v,us,h0,h1,h2⟩,e=>by subst h0;obtain ⟨w,q,r⟩:=RVs.get (i:=i) h2 (by simpa using e);exact ⟨w,by simpa using q,r⟩
theorem RVs.nf:∀{xs:Ú AV} {vs:Ú V},RVs T ρ H xs vs->∀x∈xs,aT x=false
 | [],_,_,_,h=>nomatch h
 | x::xs,_,⟨v,us,h0,h1,h2⟩,y,h=>by
  rcases ϕ.mp h with rfl | h
  .exact h1.1
  .exact RVs.nf h2 y h
theorem RVs.set(hy:aT y=false/\RV T ρ H y w):∀{xs:Ú AV} {vs:Ú V} (i:Nat),RVs T ρ H xs vs->RVs T ρ H (xs.set i y) (vs.set i w)
 | [],_,_,h=>by cases (show _=[] from h);rfl
 | x::xs,_,0,⟨v,us,h0,h1,h2⟩=>by subst h0;exact ⟨w,us,rfl,hy,h2⟩
 | x::xs,_,i+1,⟨v,us,h0,h1,h2⟩=>by subst h0;exact ⟨v,us.set i w,rfl,h1,RVs.set hy i h2⟩
theorem RVs.take:∀{xs:Ú AV} {vs:Ú V} (n:Nat),RVs T ρ H xs vs->RVs T ρ H (xs.take n) (vs.take n)
 | _,_,0,h=>by simp [RVs]
 | [],_,n+1,h=>by cases (show _=[] from h);rfl
 | x::xs,_,n+1,⟨v,us,h0,h1,h2⟩=>by subst h0;exact ⟨v,us.take n,rfl,h1,RVs.take n h2⟩
theorem RVs.drop:∀{xs:Ú AV} {vs:Ú V} (n:Nat),RVs T ρ H xs vs->RVs T ρ H (xs.drop n) (vs.drop n)
 | _,_,0,h=>h
 | [],_,n+1,h=>by cases (show _=[] from h);rfl
 | x::xs,_,n+1,⟨v,us,h0,h1,h2⟩=>by subst h0;exact RVs.drop n h2
def OM.ext(j:∀n a,ρ n=some a->MK (H a))(e:Ext ρ H ρ' H')(k:∀u,H a=some u->H' a=some u)(h:OM T ρ H o a):OM T ρ' H' o a:=by
 cases o with
 | lst xs=>obtain ⟨b,h1,d⟩:=h;exact ⟨b,k _ h1,d.ext j e⟩
 | dK ks xs=>obtain ⟨b,h1,i,d⟩:=h;exact ⟨b,k _ h1,i,d.ext j e⟩
 | dT ks xs=>obtain ⟨b,h1,i,d⟩:=h;exact ⟨b,k _ h1,i,d.ext j e⟩
 | ins c fs xs=>obtain ⟨l,b,h1,i,d⟩:=h;exact ⟨l,b,k _ h1,i,d.ext j e⟩
 | dead=>trivial
 | tb _ p q =>
  obtain ⟨h0,h⟩:=h
  exact ⟨h0,h.elim (λz=>.inl (k _ z)) λ⟨c,z,y⟩=>.inr ⟨c,k _ z,ly j e y⟩⟩
noncomputable def ac(A:AH)(n:Nm)(o:AO):AH:=λm=>if m=n then some o else A m
def bI:ac A n o n=some o:=Ż rfl
def cW(h:m≠n):ac A n o m=A m:=Ž h
noncomputable def cO(ρ:Rho)(n:Nm)(a:ã):Rho:=λm=>if m=n then some a else ρ m
def Ext.new1(ha:H a=none):Ext ρ H ρ (upd H a o) :=
 ⟨λ_ _ h=>h,λ_ _ h=>.inl h,λb u h _=>by rw [ah (aj h ha)];exact h,λb h=>by
  by_cases e:b=a
  .subst e;exact ha
  .rw [ah e] at h;exact h⟩
theorem Rl.same(r:Rl T ρ A H)(e:Ext ρ H ρ H')(k:∀a u,H a=some u->H' a=some u):Rl T ρ A H' :=
 ⟨r.inj,λn a h=>by
  have q:=r.kd n a h
  cases z:H a with
  | none=>rw [z] at q;exact q.elim
  | some u=>rw [k a u z];rw [z] at q;exact q,
  λn o h=>let ⟨a,h1,h2⟩:=r.obj n o h;⟨a,h1,h2.ext r.kd e λu=>k a u⟩,r.fre⟩
def Rl.new1(r:Rl T ρ A H)(ha:H a=none):Rl T ρ A (upd H a o) :=
 r.same (Ext.new1 ha) λb u h=>by rw [ah (aj h ha)];exact h
def Ext.put(hn:ρ n=some a)(hm:H a≠none):Ext ρ H ρ (upd H a o) :=
 ⟨λ_ _ h=>h,λ_ _ h=>.inl h,λb u h nr=>by rw [ah (λz=>nr n (by rw [z];exact hn))];exact h,λb h=>by
  by_cases e:b=a
  .subst e;rw [ai] at h;cases h
  .rw [ah e] at h;exact h⟩
def Rl.put(r:Rl T ρ A H)(c:ρ n=some a)(j:MK (some o))(l:OM T ρ (upd H a o) u a):Rl T ρ (ac A n u) (upd H a o):=by
 have i:Ext ρ H ρ (upd H a o):=Ext.put c λz=>by have:=r.kd n a c;rw [z] at this;exact this
 refine ⟨r.inj,λm b h=>?_,λm v h=>?_,λm h=>?_⟩
 .by_cases e:b=a
  .subst e;rw [ai];exact j
  .rw [ah e];exact r.kd m b h
 .by_cases e:m=n
  .subst e;rw [bI] at h;cases h;exact ⟨a,c,l⟩
  .rw [cW e] at h
   obtain ⟨b,h1,d⟩:=r.obj m v h
   exact ⟨b,h1,d.ext r.kd i λw q=>by rw [ah (λz=>e (r.inj m n a (by rw [← z];exact h1) c))];exact q⟩
 .by_cases e:m=n
  .subst e;rw [bI] at h;cases h
  .rw [cW e] at h;exact r.fre m h
def Ext.name(e:Ext ρ0 H0 ρ H)(hn:ρ n=none)(ha:H0 a=none):Ext ρ0 H0 (cO ρ n a) H :=
 ⟨λm b h=>by
   have q:=e.sub m b h
   unfold cO
   split
   .rename_i z;subst z;rw [hn] at q;cases q
   .exact q,λm b h=>by
   unfold cO at h
   split at h
   .cases h;exact .inr ha
   .exact e.new m b h,e.kp,e.dom⟩
end
abbrev ASt:=Ú (Option AV)
abbrev AQ:=AV->AH->Prop
abbrev ATE:=ASt->AH->AQ->Prop
abbrev ATA:=ASt->AH->(Ú AV->AH->Prop)->Prop
abbrev ATT:=ASt->AH->(Bool->AH->Prop)->Prop
structure AEnds where
 nx:ASt->AH->Prop
 rt:AQ
 bk:ASt->AH->Prop
 ct:ASt->AH->Prop
abbrev ATS:=AEnds->ASt->AH->Prop
structure Rs(T:Tab)(ρ:Rho)(σ:ASt)(A:AH)(σv:St)(H:Hp):Prop where
 rl:Rl T ρ A H
 len:σ.length=σv.length
 at_:∀(i:Nat) (x:AV),σ[i]?=some (some x)->∃v,σv[i]?=some (some v)/\lg x=false/\RV T ρ H x v
def FrOk(H:Hp)(x:AV)(v:V):Prop:=lg x=true->∀a,v=.ref a->H a=none
def nfq(h:lg x=false):FrOk H x v:=λz=>by rw [h] at z;cases z
def nfr(h:aT x=false):FrOk H x v:=nfq (bw h)
def FrOk.dom(f:FrOk H' x v)(e:Ext ρ H ρ' H'):FrOk H x v:=λz a q=>e.dom a (f z a q)
inductive lE (T:Tab) (t:ATE) (σv:St) (H:Hp) (Q:VK):Prop
|mk (ρ:Rho) (σ:ASt) (A:AH) (QA:AQ) (_:Rs T ρ σ A σv H) (_:t σ A QA) (_:∀ρ' x v A' H',Ext ρ H ρ' H'->Rl T ρ' A' H'->RV T ρ' H' x v->FrOk H x v->QA x A'->Q v H'):lE T t σv H Q
inductive lT (T:Tab) (t:ATT) (σv:St) (H:Hp) (Q:Bool->Hp->Prop):Prop
|mk (ρ:Rho) (σ:ASt) (A:AH) (QA:Bool->AH->Prop) (_:Rs T ρ σ A σv H) (_:t σ A QA) (_:∀ρ' b A' H',Ext ρ H ρ' H'->Rl T ρ' A' H'->QA b A'->Q b H'):lT T t σv H Q
def RVa(T:Tab)(ρ:Rho)(H0 H:Hp):Ú AV->Ú V->Prop
 | [],vs=>vs=[]
 | x::xs,vs=>∃v ws,vs=v::ws/\(RV T ρ H x v/\FrOk H0 x v)/\RVa T ρ H0 H xs ws
inductive lA (T:Tab) (t:ATA) (σv:St) (H:Hp) (Q:Ú V->Hp->Prop):Prop
|mk (ρ:Rho) (σ:ASt) (A:AH) (QA:Ú AV->AH->Prop) (_:Rs T ρ σ A σv H) (_:t σ A QA) (_:∀ρ' xs vs A' H',Ext ρ H ρ' H'->Rl T ρ' A' H'->RVa T ρ' H H' xs vs->QA xs A'->Q vs H'):lA T t σv H Q
structure LD(T:Tab)(ρ:Rho)(H:Hp)(DA:AEnds)(D:uf):Prop where
 nx:∀ρ' σ' A' σv' H',Ext ρ H ρ' H'->Rs T ρ' σ' A' σv' H'->DA.nx σ' A'->D.nx σv' H'
 rt:∀ρ' x v A' H',Ext ρ H ρ' H'->Rl T ρ' A' H'->RV T ρ' H' x v->FrOk H x v->DA.rt x A'->D.rt v H'
 bk:∀ρ' σ' A' σv' H',Ext ρ H ρ' H'->Rs T ρ' σ' A' σv' H'->DA.bk σ' A'->D.bk σv' H'
 ct:∀ρ' σ' A' σv' H',Ext ρ H ρ' H'->Rs T ρ' σ' A' σv' H'->DA.ct σ' A'->D.ct σv' H'
inductive lS (T:Tab) (t:ATS) (D:uf) (σv:St) (H:Hp):Prop
|mk (ρ:Rho) (σ:ASt) (A:AH) (DA:AEnds) (_:Rs T ρ σ A σv H) (_:t DA σ A) (_:LD T ρ H DA D):lS T t D σv H
abbrev AE(X:Cx)(T:Tab)(e:Û)(t:ATE):Prop:=PE X e (lE T t)
abbrev AT(X:Cx)(T:Tab)(e:Û)(t:ATT):Prop:=PT X e (lT T t)
abbrev AA(X:Cx)(T:Tab)(es:ï)(t:ATA):Prop:=PA X es (lA T t)
abbrev AS(X:Cx)(T:Tab)(st:Ü)(t:ATS):Prop:=PS X st (lS T t)
abbrev ASs(X:Cx)(T:Tab)(sts:Ú Ü)(t:ATS):Prop:=PSs X sts (lS T t)
def _root_.L2.PE.imp(h:PE X e t)(f:∀σ H Q,t' σ H Q->t σ H Q):PE X e t':=λpins s σ H Q I q=>h pins s σ H Q I (f σ H Q q)
def _root_.L2.PT.imp(h:PT X e t)(f:∀σ H Q,t' σ H Q->t σ H Q):PT X e t':=λpins s σ H Q I q=>h pins s σ H Q I (f σ H Q q)
def _root_.L2.PA.imp(h:PA X e t)(f:∀σ H Q,t' σ H Q->t σ H Q):PA X e t':=λpos pins s σ H Q I q=>h pos pins s σ H Q I (f σ H Q q)
def _root_.L2.PS.imp(h:PS X e t)(f:∀D σ H,t' D σ H->t D σ H):PS X e t':=λpins s σ H Q I q=>h pins s σ H Q I (f Q σ H q)
def _root_.L2.PSs.imp(h:PSs X e t)(f:∀D σ H,t' D σ H->t D σ H):PSs X e t':=λpins s σ H Q I q=>h pins s σ H Q I (f Q σ H q)
section
variable {T:Tab}{ρ ρ' ρ1:Rho}{σ:ASt}{A A' A1:AH}{σv:St}{H H' H1:Hp}
def Rs.ext(r:Rs T ρ σ A σv H)(e:Ext ρ H ρ' H')(l:Rl T ρ' A' H'):Rs T ρ' σ A' σv H' :=
 ⟨l,r.len,λi x h=>let ⟨v,h1,h3,h2⟩:=r.at_ i x h;⟨v,h1,h3,h2.ext r.rl.kd e⟩⟩
def LD.ext(d:LD T ρ H DA D)(e:Ext ρ H ρ' H'):LD T ρ' H' DA D :=
 ⟨λa b c f g h=>d.nx a b c f g (e.trans h),λa b c f g h i j k=>d.rt a b c f g (e.trans h) i j (k.dom e),λa b c f g h=>d.bk a b c f g (e.trans h),λa b c f g h=>d.ct a b c f g (e.trans h)⟩
def ao(rs:Rs T ρ σ A σv H)(h:ta σ A QA)(f:∀ρ' x v A' H',Ext ρ H ρ' H'->Rs T ρ' σ A' σv H'->RV T ρ' H' x v->FrOk H x v->QA x A'->Kk v H'):lE T ta σv H Kk :=
 ⟨ρ,σ,A,QA,rs,h,fun ρ' x v A' H' e l r z q=>f ρ' x v A' H' e (rs.ext e l) r z q⟩
def cy{Kk:Bool->Hp->Prop}{QA:Bool->AH->Prop}(rs:Rs T ρ σ A σv H)(h:ta σ A QA)(f:∀ρ' b A' H',Ext ρ H ρ' H'->Rs T ρ' σ A' σv H'->QA b A'->Kk b H'):lT T ta σv H Kk :=
 ⟨ρ,σ,A,QA,rs,h,fun ρ' b A' H' e l q=>f ρ' b A' H' e (rs.ext e l) q⟩
def kY{Kk:Ú V->Hp->Prop}{QA:Ú AV->AH->Prop}(rs:Rs T ρ σ A σv H)(h:ta σ A QA)(f:∀ρ' x v A' H',Ext ρ H ρ' H'->Rs T ρ' σ A' σv H'->RVa T ρ' H H' x v->QA x A'->Kk v H'):lA T ta σv H Kk :=
 ⟨ρ,σ,A,QA,rs,h,fun ρ' x v A' H' e l r q=>f ρ' x v A' H' e (rs.ext e l) r q⟩
end
def ok{α:Type}(o:Option α)(k:α->Prop):Prop:=match o with
 | some x=>k x
 | none=>False
def ok.of{α:Type}{o:Option α}{k:α->Prop}(h:ok o k):∃x,o=some x/\k x:=by
 cases o with
 | none=>exact h.elim
 | some x=>exact ⟨x,rfl,h⟩
def okI{α:Type}{o:Option α}{x:α}{k:α->Prop}(h:o=some x)(q:k x):ok o k:=by rw [h];exact q
def nd(P:Prop) [Decidable P](Q:Prop):Prop:=match decide P with
 | true=>Q
 | false=>False
def nd.of [d:Decidable P](h:nd P Q):P/\Q:=by
 unfold nd at h
 split at h
 .rename_i e;exact ⟨Ξ e,h⟩
 .exact h.elim
def ndI [d:Decidable P](p:P)(q:Q):nd P Q:=by unfold nd;rw [decide_eq_true p];exact q
def ifB(c:Bool)(A B:Prop):Prop:=match c with
 | true=>A
 | false=>B
def ifB.t(h:ifB true A B):A:=h
def ifB.f(h:ifB false A B):B:=h
def ifT(h:c=true)(q:A):ifB c A B:=by rw [h];exact q
def ifF(h:c=false)(q:B):ifB c A B:=by rw [h];exact q
def if2(a:c=true->A)(b:c=false->B):ifB c A B:=by
 cases h:c with
 | true=>exact a h
 | false=>exact b h
def EC(i:Nat):ATE:=fun σ A Q=>match σ[i]? with
 | some (some x)=>Q x A
 | _=>False
def aC(x:AV):ATE:=λ_ A Q=>Q x A
noncomputable def lk:ñ->Ú AV->Nat->Option AV
 | k::ks,x::xs,f=>if f=k then some x else lk ks xs f
 | _,_,_=>none
noncomputable def iw:ñ->Ú AV->Nat->AV->Ú AV
 | k::ks,x::xs,f,y=>if f=k then y::xs else x::iw ks xs f y
 | _,xs,_,y=>xs++[y]
noncomputable def eJ:ñ->Nat->ñ
 | k::ks,f=>if f=k then k::ks else k::eJ ks f
 | [],f=>[f]
noncomputable def fX(x:AV)(f:Nat)(A:AH):Option AV :=
 match x with
 | .ref n=>match A n with
  | some (.ins _ fs xs)=>lk fs xs f
  | _=>none
 | .obj _ fs xs=>lk fs xs f
 | _=>none
section
variable {T:Tab}{ρ:Rho}{A:AH}{H:Hp}
theorem oY:∀{fs:ñ} {xs:Ú AV} {f:Nat} {y:AV},lk fs xs f=some y->f∈fs
 | [],_,_,_,h=>by simp [lk] at h
 | k::ks,[],_,_,h=>by simp [lk] at h
 | k::ks,x::xs,f,y,h=>by
  unfold lk at h
  split at h
  .rename_i e;rw [e];exact Ω
  .exact Θ _ (oY h)
theorem vY:∀{fs:ñ} {xs:Ú AV} {f:Nat} {y:AV},lk fs xs f=some y->y∈xs
 | [],_,_,_,h=>by simp [lk] at h
 | k::ks,[],_,_,h=>by simp [lk] at h
 | k::ks,x::xs,f,y,h=>by
  unfold lk at h
  split at h
  .cases h;exact Ω
  .exact Θ _ (vY h)
theorem oZ:∀{fs:ñ} {xs:Ú AV} {vs:Ú V} {f:Nat} {y:AV},RVs T ρ H xs vs->lk fs xs f=some y->∃w,((fs.map nm).zip vs).lookup (nm f)=some w/\RV T ρ H y w
 | [],_,_,_,_,_,h=>by simp [lk] at h
 | k::ks,[],_,_,_,_,h=>by simp [lk] at h
 | k::ks,x::xs,_,f,y,⟨v,ws,e,h1,h2⟩,h=>by
  subst e
  unfold lk at h
  show ∃w,List.lookup (nm f) ((nm k,v)::(ks.map nm).zip ws)=some w/\_
  rw [ė]
  split at h
  .rename_i e;subst e;cases h;exact ⟨v,by simp,h1.2⟩
  .rename_i e
   rw [show (nm f==nm k)=false from ū.mpr λz=>e (fL z)]
   exact oZ h2 h
theorem mz:∀{fs:ñ} {xs:Ú AV} {vs:Ú V} {f:Nat} {y:AV} {w:V},fs.length=xs.length->RVs T ρ H xs vs->(aT y=false/\RV T ρ H y w) ->
  ∃vs',bK (nm f) w ((fs.map nm).zip vs)=((eJ fs f).map nm).zip vs'/\RVs T ρ H (iw fs xs f y) vs'/\(eJ fs f).length=(iw fs xs f y).length
 | [],[],_,f,y,w,_,h,hy=>by cases (show _=[] from h);exact ⟨[w],rfl,⟨w,[],rfl,hy,rfl⟩,rfl⟩
 | k::ks,x::xs,_,f,y,w,hl,⟨v,ws,e,h1,h2⟩,hy=>by
  subst e
  obtain ⟨vs',e1,e2,e3⟩:=mz (f:=f) (by simpa using hl) h2 hy
  by_cases z:f=k
  .subst z
   refine ⟨w::ws,?_,?_,?_⟩
   .simp [bK,eJ]
   .simp only [iw,if_true];exact ⟨w,ws,ϱ,hy,h2⟩
   .simp only [iw,eJ,if_true];exact hl
  .have zn:¬nm k=nm f:=λq=>z (fL q).symm
   have zn':¬nm f=nm k:=λq=>z (fL q)
   refine ⟨v::vs',?_,?_,?_⟩
   .simp only [eJ,if_neg z,List.map_cons,List.zip_cons_cons]
    rw [← e1]
    simp [bK,zn,zn']
   .simp only [iw,if_neg z];exact ⟨v,vs',ϱ,h1,e2⟩
   .simp only [iw,eJ,if_neg z,List.length_cons,e3]
theorem mB:∀{fs:ñ} {f g:Nat},g∈eJ fs f->g=f\/g∈fs
 | [],f,g,h=>by simp [eJ] at h;exact .inl h
 | k::ks,f,g,h=>by
  unfold eJ at h
  split at h
  .exact .inr h
  .rcases ϕ.mp h with z | z
   .exact .inr (by rw [z];exact Ω)
   .exact (mB z).imp id λz=>Θ _ z
def gU(l:Rl T ρ A H)(r:RV T ρ H x v)(h:fX x f A=some y) :
  ∃a C dx fs w,v=.ref a/\H a=some (.ins C dx fs)/\Cls T.K C/\NoAttr T.K C (nm f)/\fs.lookup (nm f)=some w/\aT y=false/\RV T ρ H y w:=by
 unfold fX at h
 cases x with
 | ref n =>
  obtain ⟨a,rfl,q⟩:=r
  simp only [] at h
  cases e:A n with
  | none=>rw [e] at h;cases h
  | some o =>
   rw [e] at h
   cases o with
   | ins c fs xs =>
    obtain ⟨D,h1,dx,u,d,⟨z,i,j⟩,b⟩:=l.obj n _ e
    rw [q] at h1;cases h1
    obtain ⟨w,m,p⟩:=oZ b h
    exact ⟨a,_,dx,_,w,ϱ,d,i,j f (oY h),m,b.nf _ (vY h),p⟩
   | _=>cases h
 | obj c fs xs =>
  obtain ⟨a,dx,u,rfl,h1,d,⟨z,i,j⟩,b⟩:=r
  obtain ⟨w,m,p⟩:=oZ b h
  exact ⟨a,_,dx,_,w,ϱ,d,i,j f (oY h),m,b.nf _ (vY h),p⟩
 | _=>cases h
end
def GQ(ta:ATE)(f:Nat):ATE:=fun σ A Q=>ta σ A λx A1=>ok (fX x f A1) λy=>Q y A1
section
variable {X:Cx}{T:Tab}{e a b c:Û}{ta tb tc:ATE}{pos:Pos}
def Eh(j:X.N[i]?=some x)(l:Vis X.env.scope x)(m:(x==("__debug__":Str))=false)(a:(x==("__classdict__":Str))=false):AE X T (.Name x pos) (EC i) :=
 (oH j l m a).imp fun σv H Q ⟨ρ,σ,A,QA,rs,h,fin⟩=>by
  obtain ⟨y,h1,h⟩:∃y,σ[i]?=some (some y)/\QA y A:=by
   unfold EC at h
   split at h
   .rename_i y e;exact ⟨y,e,h⟩
   .exact h.elim
  obtain ⟨v,b,c,d⟩:=rs.at_ i y h1
  exact ⟨v,b,fin ρ y v A H (Ext.refl _ _) rs.rl d (nfq c) h⟩
def xI(h:PE X e (tC v))(r:∀ρ H,RV T ρ H x v)(hn:aT x=false):AE X T e (aC x) :=
 h.imp fun σv H Q ⟨ρ,σ,A,QA,rs,h,fin⟩=>fin ρ x v A H (Ext.refl _ _) rs.rl (r ρ H) (nfr hn) h
def En{f:Nat}(hK:X.K=T.K)(he:AE X T e ta)(hb:attributeBase e (nm f) X.env (eval e X.env)=eval e X.env):AE X T (.Attribute e (nm f) pos) (GQ ta f) :=
 (kH he hb).imp fun σv H Q ⟨ρ,σ,A,QA,rs,h,fin⟩=>by
  refine ao rs h fun ρ1 x v A1 H1 e1 rs1 rv fz q=>?_
  obtain ⟨y,h1,q⟩:=q.of
  obtain ⟨a,C,dx,fs,w,h2,h3,h4,h5,h6,h8,h7⟩:=gU rs1.rl rv h1
  rw [hK]
  exact ⟨a,C,dx,fs,w,h2,h3,h4,h5,h6,fin ρ1 y w A1 H1 e1 rs1.rl h7 (nfr h8) q⟩
def rN:ATS:=λD σ A=>D.nx σ A
noncomputable def AEnds.thn(D:AEnds)(u:ATS):AEnds:=⟨u D,D.rt,D.bk,D.ct⟩
def AEnds.lp(D:AEnds)(K:ASt->AH->Prop):AEnds:=⟨K,D.rt,D.nx,K⟩
def GI(t u:ATS):ATS:=λD σ A=>t (D.thn u) σ A
def xi:ASs X T [] rN:=pss_nil.imp λD σv H ⟨ρ,σ,A,DA,rs,h,d⟩=>d.nx ρ σ A σv H (Ext.refl _ _) rs h
def rE{st:Ü}{sts:Ú Ü}{t u:ATS}(h1:AS X T st t)(h2:ASs X T sts u):ASs X T (st::sts) (GI t u) :=
 (vg h1 h2).imp λD σv H ⟨ρ,σ,A,DA,rs,h,d⟩ =>
  ⟨ρ,σ,A,DA.thn u,rs,h,fun ρ' σ' A' σv' H' e r q=>⟨ρ',σ',A',DA,r,q,d.ext e⟩,d.rt,d.bk,d.ct⟩
def GJ(te:ATE):ATS:=λD σ A=>te σ A D.rt
def BI:ATS:=λD _ A=>D.rt .non A
def BM(te:ATE):ATS:=λD σ A=>te σ A λ_ A1=>D.nx σ A1
def GN(tc:ATT)(t u:ATS):ATS:=λD σ A=>tc σ A λb A1=>ifB b (t D σ A1) (u D σ A1)
def Al:AS X T (.Pass pos) rN:=ps_pass.imp λD σv H ⟨ρ,σ,A,DA,rs,h,d⟩=>d.nx ρ σ A σv H (Ext.refl _ _) rs h
def xj:AS X T (.Break pos) (λD σ A=>D.bk σ A):=ps_break.imp λD σv H ⟨ρ,σ,A,DA,rs,h,d⟩=>d.bk ρ σ A σv H (Ext.refl _ _) rs h
def xh(he:AE X T e ta):AS X T (.Return (some e) pos) (GJ ta) :=
 (CL he).imp λD σv H ⟨ρ,σ,A,DA,rs,h,d⟩=>ao rs h fun ρ1 x v A1 H1 e1 rs1 rv fz q=>d.rt ρ1 x v A1 H1 e1 rs1.rl rv fz q
def Ak:AS X T (.Return none pos) BI:=ps_retN.imp λD σv H ⟨ρ,σ,A,DA,rs,h,d⟩=>d.rt ρ .non .non A H (Ext.refl _ _) rs.rl rfl (nfr rfl) h
def Am(he:AE X T e ta)(hs:swapsWith e none pos.line X.env=pure false):AS X T (.Expr e pos) (BM ta) :=
 (yL he hs).imp λD σv H ⟨ρ,σ,A,DA,rs,h,d⟩=>ao rs h fun ρ1 x v A1 H1 e1 rs1 rv fz q=>d.nx ρ1 σ A1 σv H1 e1 rs1 q
theorem Gs(hc:AT X T c tt)(ha:ASs X T x t)(hb:ASs X T y u):AS X T (.If c x y pos) (GN tt t u) :=
 (Fg hc ha hb).imp λD σv H ⟨ρ,σ,A,DA,rs,h,d⟩=>cy rs h fun ρ1 b A1 H1 e1 rs1 q=>by
  cases b with
  | true=>exact ⟨ρ1,σ,A1,DA,rs1,q.t,d.ext e1⟩
  | false=>exact ⟨ρ1,σ,A1,DA,rs1,q.f,d.ext e1⟩
def aB(ta:ATE):ATT:=fun σ A Q=>ta σ A λx A1=>match x with
 | .bl c=>Q c A1
 | _=>False
def GT(t u:ATT):ATT:=fun σ A Q=>t σ A λc A1=>ifB c (u σ A1 Q) (Q false A1)
def aOr(t u:ATT):ATT:=fun σ A Q=>t σ A λc A1=>ifB c (Q true A1) (u σ A1 Q)
def EE(t:ATT):ATT:=fun σ A Q=>t σ A λc A1=>Q (!c) A1
theorem GS{Q:Bool->Hp->Prop}{QA:Bool->AH->Prop}(rs:Rs T ρ σ A σv H)(h:aB ta σ A QA)(fin:∀ρ' b A' H',Ext ρ H ρ' H'->Rl T ρ' A' H'->QA b A'->Q b H') :
  tB (lE T ta) σv H Q:=ao rs h fun ρ1 x v A1 H1 e1 rs1 rv fz q=>by
 cases x with
 | bl c=>exact ⟨c,rv,fin ρ1 c A1 H1 e1 rs1.rl q⟩
 | _=>exact q.elim
def DZ(he:AE X T e ta)(hp:∀whole,isTrue e X.env whole=(do let v ← whole;standAt e.pos;holding [v] (truthy v))):AT X T e (aB ta) :=
 (CH he hp).imp fun σv H Q ⟨ρ,σ,A,QA,rs,h,fin⟩=>GS rs h fin
def D0(h:AT X T a t):AT X T (.UnaryOp .Not a pos) (EE t) :=
 (CI h).imp fun σv H Q ⟨ρ,σ,A,QA,rs,h,fin⟩=>cy rs h fun ρ1 b A1 H1 e1 rs1 q=>fin ρ1 _ A1 H1 e1 rs1.rl q
abbrev AW(X:Cx)(T:Tab)(e:Û)(t:ATT):Prop:=PW X e (lT T t)
def Ab(h:AT X T a t):AW X T (.BoolOp .And [a] pos) t:=yI h
def DW(h:AT X T a t):AW X T (.BoolOp .Or [a] pos) t:=CD h
theorem DX{t u:ATT}{rest:ï}(h:AT X T a t)(k:AW X T (.BoolOp .And (b::rest) pos) u):AW X T (.BoolOp .And (a::b::rest) pos) (GT t u):=λwh pins s σ H Q I ⟨ρ,σ',A,QA,rs,h',fin⟩ =>
 CG h k wh pins s σ H Q I (cy rs h' fun ρ1 b A1 H1 e1 rs1 q=>by
  cases b with
  | true=>exact ⟨ρ1,σ',A1,QA,rs1,q.t,fun ρ2 b A2 H2 e2=>fin ρ2 b A2 H2 (e1.trans e2)⟩
  | false=>exact fin ρ1 _ A1 H1 e1 rs1.rl q.f)
theorem Gr{t u:ATT}{rest:ï}(h:AT X T a t)(k:AW X T (.BoolOp .Or (b::rest) pos) u):AW X T (.BoolOp .Or (a::b::rest) pos) (aOr t u):=λwh pins s σ H Q I ⟨ρ,σ',A,QA,rs,h',fin⟩ =>
 Ff h k wh pins s σ H Q I (cy rs h' fun ρ1 b A1 H1 e1 rs1 q=>by
  cases b with
  | false=>exact ⟨ρ1,σ',A1,QA,rs1,q.f,fun ρ2 b A2 H2 e2=>fin ρ2 b A2 H2 (e1.trans e2)⟩
  | true=>exact fin ρ1 _ A1 H1 e1 rs1.rl q.t)
def BP(ta tb:ATE):ATE:=fun σ A Q=>ta σ A λx A1=>match x with
 | .bl c=>ifB c (tb σ A1 Q) (Q (.bl false) A1)
 | _=>False
def GK(ta tb:ATE):ATE:=fun σ A Q=>ta σ A λx A1=>match x with
 | .bl c=>ifB c (Q (.bl true) A1) (tb σ A1 Q)
 | _=>False
def BK(ta:ATE):ATE:=fun σ A Q=>ta σ A λx A1=>match x with
 | .bl c=>Q (.bl (!c)) A1
 | _=>False
theorem Ep{rest:ï}(ha:AE X T a ta)(hb:AE X T (.BoolOp .And (b::rest) pos) tb):AE X T (.BoolOp .And (a::b::rest) pos) (BP ta tb) :=
 (CZ ha hb).imp fun σv H Q ⟨ρ,σ,A,QA,rs,h,fin⟩=>ao rs h fun ρ1 x v A1 H1 e1 rs1 rv fz q=>by
  cases x with
  | bl c =>
   refine ⟨c,rv,?_⟩
   cases c with
   | true=>exact ⟨ρ1,σ,A1,QA,rs1,q.t,fun ρ2 y w A2 H2 e2 l2 r2 z2=>fin ρ2 y w A2 H2 (e1.trans e2) l2 r2 (z2.dom e1)⟩
   | false=>exact fin ρ1 (.bl false) _ A1 H1 e1 rs1.rl rfl (nfr rfl) q.f
  | _=>exact q.elim
theorem GF{rest:ï}(ha:AE X T a ta)(hb:AE X T (.BoolOp .Or (b::rest) pos) tb):AE X T (.BoolOp .Or (a::b::rest) pos) (GK ta tb) :=
 (Fk ha hb).imp fun σv H Q ⟨ρ,σ,A,QA,rs,h,fin⟩=>ao rs h fun ρ1 x v A1 H1 e1 rs1 rv fz q=>by
  cases x with
  | bl c =>
   refine ⟨c,rv,?_⟩
   cases c with
   | false=>exact ⟨ρ1,σ,A1,QA,rs1,q.f,fun ρ2 y w A2 H2 e2 l2 r2 z2=>fin ρ2 y w A2 H2 (e1.trans e2) l2 r2 (z2.dom e1)⟩
   | true=>exact fin ρ1 (.bl true) _ A1 H1 e1 rs1.rl rfl (nfr rfl) q.t
  | _=>exact q.elim
theorem Ek(ha:AE X T a ta):AE X T (.UnaryOp .Not a pos) (BK ta) :=
 (CV ha).imp fun σv H Q ⟨ρ,σ,A,QA,rs,h,fin⟩=>ao rs h fun ρ1 x v A1 H1 e1 rs1 rv fz q=>by
  cases x with
  | bl c=>exact ⟨c,rv,fin ρ1 (.bl !c) _ A1 H1 e1 rs1.rl rfl (nfr rfl) q⟩
  | _=>exact q.elim
def aIf(tc:ATT)(ta tb:ATE):ATE:=fun σ A Q=>tc σ A λb A1=>ifB b (ta σ A1 Q) (tb σ A1 Q)
theorem BC(hc:AT X T c tt)(ha:AE X T a ta)(hb:AE X T b tb):AE X T (.IfExp c a b pos) (aIf tt ta tb) :=
 (vB hc ha hb).imp fun σv H Q ⟨ρ,σ,A,QA,rs,h,fin⟩=>cy rs h fun ρ1 b A1 H1 e1 rs1 q=>by
  cases b with
  | true=>exact ⟨ρ1,σ,A1,QA,rs1,q.t,fun ρ2 y w A2 H2 e2 l2 r2 z2=>fin ρ2 y w A2 H2 (e1.trans e2) l2 r2 (z2.dom e1)⟩
  | false=>exact ⟨ρ1,σ,A1,QA,rs1,q.f,fun ρ2 y w A2 H2 e2 l2 r2 z2=>fin ρ2 y w A2 H2 (e1.trans e2) l2 r2 (z2.dom e1)⟩
end
noncomputable def ce(f:AV->AV->Option Bool):Ú AV->Ú AV->Option Bool
 | [],[]=>some true
 | x::xs,y::ys=>match f x y,ce f xs ys with
  | some a,some b=>some (a&&b)
  | _,_=>none
 | _,_=>some false
noncomputable def eqN:Nat->AV->AV->Option Bool
 | _,.int i,.int j=>some (decide (i=j))
 | _,.str x,.str y=>some (decide (x=y))
 | _,.bl x,.bl y=>some (decide (x=y))
 | _,.non,.non=>some true
 | _,.non,.tup _=>some false
 | _,.tup _,.non=>some false
 | k+1,.tup xs,.tup ys=>ce (eqN k) xs ys
 | _,_,_=>none
theorem lD{f:AV->AV->Option Bool}:∀{xs ys:Ú AV} {b:Bool},ce f xs ys=some b->∀(j:Nat) (x y:AV),xs[j]?=some x->ys[j]?=some y->∃c,f x y=some c
 | [],_,_,_,j,x,y,h1,_=>by simp at h1
 | _::_,[],_,_,j,x,y,_,h2=>by simp at h2
 | x::xs,y::ys,b,h,j,u,v,h1,h2=>by
  unfold ce at h
  cases e1:f x y with
  | none=>rw [e1] at h;cases h
  | some a =>
   cases e2:ce f xs ys with
   | none=>rw [e1,e2] at h;cases h
   | some c =>
    cases j with
    | zero=>simp at h1 h2;subst h1 h2;exact ⟨a,e1⟩
    | succ j=>exact lD e2 j u v (by simpa using h1) (by simpa using h2)
noncomputable def eAt(f:AV->AV->Option Bool)(xs ys:Ú AV)(j:Nat):Bool:=match xs[j]?,ys[j]? with
 | some x,some y=>(f x y).getD false
 | _,_=>false
theorem i0{f:AV->AV->Option Bool}:∀{xs ys:Ú AV} {b:Bool},ce f xs ys=some b->((List.range (min xs.length ys.length)).all (eAt f xs ys)&&xs.length==ys.length)=b
 | [],[],_,h=>by cases h;rfl
 | [],_::_,_,h=>by cases h;simp
 | _::_,[],_,h=>by cases h;simp
 | x::xs,y::ys,b,h=>by
  unfold ce at h
  cases e1:f x y with
  | none=>rw [e1] at h;cases h
  | some a =>
   cases e2:ce f xs ys with
   | none=>rw [e1,e2] at h;cases h
   | some c =>
    rw [e1,e2] at h
    cases h
    have ih:=i0 e2
    have em:min (x::xs).length (y::ys).length=min xs.length ys.length+1:=by simp [Nat.succ_min_succ]
    rw [em,List.range_succ_eq_map,List.all_cons,List.all_map,← ih]
    have e0:eAt f (x::xs) (y::ys) 0=a:=by simp [eAt,e1]
    have ee:(eAt f (x::xs) (y::ys)∘Nat.succ)=eAt f xs ys:=by funext j;simp [eAt]
    rw [e0,ee]
    simp [Bool.and_assoc]
section
variable {T:Tab}{ρ:Rho}{H:Hp}
def B9{K:Þ}{a b:ã}{n:Nat}{us vs:Ú V}{e:Nat->Bool}(ha:H a=some (.tup us))(hb:H b=some (.tup vs))(he:∀(j:Nat) x y,us[j]?=some x->vs[j]?=some y->EqIs K n H x y (e j)) :
  l8 K (n+1) H (.ref a) (.ref b) ((List.range (min us.length vs.length)).all e&&us.length==vs.length)/\n6 K (n+1) H (.ref a) (.ref b) ((List.range (min us.length vs.length)).all e&&us.length==vs.length):=by
 have d:∀(P:ä) (w:â) (A:à) (s:å) (u v:ß),A.units+(n+1)<cLine->HOk P w H s.heap->K.In s.heap->RelV (.ref a) u->RelV (.ref b) v ->
   SeqAt.RcAt A s u v ((List.range (min us.length vs.length)).all e&&us.length==vs.length)/\SeqAt.RcNeAt A s u v (!((List.range (min us.length vs.length)).all e&&us.length==vs.length)):=by
  intro P w A s u v hA h i r1 r2
  cases r1
  cases r2
  obtain ⟨m,F,G,_⟩:=bS h i (SqT.of (K:=K) ha)
  obtain ⟨o,I,L,_⟩:=bS h i (SqT.of (K:=K) hb)
  have Z:=F.length
  have l2:=I.length
  have c:∀j (h1:j<m.toArray.size) (l:j<o.toArray.size),SeqAt.EqAt A.in1 s m.toArray[j] o.toArray[j] (e j):=λj h1 l=>by
   have p:j<m.length:=by simpa using h1
   have r:j<o.length:=by simpa using l
   have O:us[j]?=some us[j]:=ξ ω
   have Q:vs[j]?=some vs[j]:=ξ ω
   obtain ⟨u,N,X⟩:=F.get O
   obtain ⟨v,ev,Y⟩:=I.get Q
   have q:=he j _ _ O Q P w A.in1 s u v (by show A.units+1+n<cLine;omega) h i X Y
   have z1:m.toArray[j]=u:=by
    rw [ξ p] at N
    simpa using Option.some.inj N
   have z2:o.toArray[j]=v:=by
    rw [ξ r] at ev
    simpa using Option.some.inj ev
   rw [z1,z2]
   exact q
  have S:m.toArray.size=us.length:=by simp [Z]
  have U:o.toArray.size=vs.length:=by simp [l2]
  constructor
  .have q:=SeqAt.RcAt.tuples (A:=A) (s:=s) (e:=e) G L ω c
   rw [S,U] at q
   exact q
  .have q:=SeqAt.RcNeAt.tuples (A:=A) (s:=s) (e:=e) G L ω c
   rw [S,U] at q
   exact q
 exact ⟨λP w A s u v h1 l z C D=>(d P w A s u v h1 l z C D).1,λP w A s u v h1 l z C D=>(d P w A s u v h1 l z C D).2⟩
theorem jT{f:AV->AV->Option Bool}(hf:∀x y v b,RV T ρ H x v->RV T ρ H y v->f x y=some b->b=true):∀{xs ys:Ú AV} {vs:Ú V} {b:Bool},RVs T ρ H xs vs->RVs T ρ H ys vs->ce f xs ys=some b->b=true
 | [],[],_,_,_,_,h=>by cases h;rfl
 | [],y::ys,_,_,h1,⟨v,ws,e,_⟩,h=>by cases (show _=[] from h1);cases e
 | x::xs,[],_,_,⟨v,ws,e,_⟩,h1,h=>by cases (show _=[] from h1);cases e
 | x::xs,y::ys,_,b,⟨v,ws,e,h1,h2⟩,⟨v',ws',e',h1',h2'⟩,h=>by
  subst e
  cases e'
  unfold ce at h
  cases e1:f x y with
  | none=>rw [e1] at h;cases h
  | some a =>
   cases e2:ce f xs ys with
   | none=>rw [e1,e2] at h;cases h
   | some c =>
    rw [e1,e2] at h
    cases h
    rw [hf x y v a h1.2 h1'.2 e1,jT hf h2 h2' e2];rfl
def wx:∀(k:Nat) (x y:AV) (v:V) (b:Bool),RV T ρ H x v->RV T ρ H y v->eqN k x y=some b->b=true:=by
 intro k
 induction k with
 | zero =>
  intro x y v b h1 c h
  cases x<;>cases y<;>simp only [eqN] at h<;>first | cases h | skip
  all_goals first
   | (cases (show v=_ from h1);cases (show _=_ from c);simp)
   | (cases (show v=_ from h1);obtain ⟨_,_,e,_⟩:=c;cases e)
   | (cases (show v=_ from c);obtain ⟨_,_,e,_⟩:=h1;cases e)
 | succ k ih =>
  intro x y v b h1 c h
  cases x<;>cases y<;>simp only [eqN] at h
  all_goals first
   | (obtain ⟨a, vs, rfl, ha, r1⟩ := h1
      obtain ⟨l,i,e,d,j⟩:=c
      cases e
      rw [ha] at d
      cases d
      exact jT (λx y v b=>ih x y v b) r1 j h)
   | (cases h;cases (show v=_ from h1);cases (show _=_ from c);simp)
   | (cases h;cases (show v=_ from h1);obtain ⟨_,_,e,_⟩:=c;cases e)
   | (cases h;cases (show v=_ from c);obtain ⟨_,_,e,_⟩:=h1;cases e)
   | cases h
def Is3(K:Þ)(n:Nat)(H:Hp)(v w:V)(b:Bool):Prop:=EqIs K n H v w b/\l8 K n H v w b/\n6 K n H v w b
def b9{K:Þ}{n:Nat}{v w:V}{b:Bool}
  (h:∀(P:ä) (wo:â) (A:à) (s:å) (x y:ß),A.units<cLine->HOk P wo H s.heap->K.In s.heap->RelV v x->RelV w y->SeqAt.EqAt A s x y b/\SeqAt.RcAt A s x y b/\SeqAt.RcNeAt A s x y (!b)):Is3 K n H v w b :=
 ⟨λP wo A s x y h0 h1 h2 h3 h4=>(h P wo A s x y ω h1 h2 h3 h4).1,λP wo A s x y h0 h1 h2 h3 h4=>(h P wo A s x y ω h1 h2 h3 h4).2.1,λP wo A s x y h0 h1 h2 h3 h4=>(h P wo A s x y ω h1 h2 h3 h4).2.2⟩
def m9(k:Nat)(K:Þ):∀(x y:AV) (v w:V) (b:Bool),RV T ρ H x v->RV T ρ H y w->eqN 0 x y=some b->Is3 K k H v w b:=by
 intro x y v w b h1 m h
 cases x<;>cases y<;>simp only [eqN] at h<;>cases h
 .cases (show v=_ from h1);cases (show w=_ from m)
  exact b9 λP n A s x y e c d i j=>by cases i;cases j;exact ⟨SeqAt.EqAt.same _,.none_none,.none_none⟩
 .cases (show v=_ from h1)
  obtain ⟨a,p,rfl,o,_⟩:=m
  exact b9 λP n A s x y e c d i j=>by
   cases i;cases j
   obtain ⟨q,r,l,_⟩:=bS c d (SqT.of (K:=K) o)
   exact ⟨.none_tuple l e,.none_tuple l e,.none_tuple l e⟩
 .cases (show v=_ from h1);cases (show w=_ from m)
  exact b9 λP n A s x y e c d i j=>by cases i;cases j;rw [← ċ];exact ⟨.bool_bool _ _,.bool_bool _ _,.bool_bool _ _⟩
 .cases (show v=_ from h1);cases (show w=_ from m)
  exact b9 λP n A s x y e c d i j=>by obtain ⟨t,rfl⟩:=i;obtain ⟨t',rfl⟩:=j;rw [← ċ];exact ⟨.int_int _ t _ t',.int_int _ t _ t',.int_int _ t _ t'⟩
 .cases (show v=_ from h1);cases (show w=_ from m)
  exact b9 λP n A s x y e c d i j=>by obtain ⟨t,rfl⟩:=i;obtain ⟨t',rfl⟩:=j;rw [be];exact ⟨.str_str _ t _ t',.str_str _ t _ t',.str_str _ t _ t'⟩
 .cases (show w=_ from m)
  obtain ⟨a,p,rfl,o,_⟩:=h1
  exact b9 λP n A s x y e c d i j=>by
   cases i;cases j
   obtain ⟨q,r,l,_⟩:=bS c d (SqT.of (K:=K) o)
   exact ⟨.tuple_none l e,.tuple_none l e,.tuple_none l e⟩
theorem RVs.get2:∀{xs:Ú AV} {vs:Ú V} {i:Nat} {v:V},RVs T ρ H xs vs->vs[i]?=some v->∃x,xs[i]?=some x/\RV T ρ H x v
 | [],_,_,_,h,e=>by cases (show _=[] from h);simp at e
 | x::xs,_,0,_,⟨v,us,h0,h1,h2⟩,e=>by subst h0;simp at e;subst e;exact ⟨x,rfl,h1.2⟩
 | x::xs,_,i+1,_,⟨v,us,h0,h1,h2⟩,e=>by subst h0;obtain ⟨w,q,r⟩:=RVs.get2 (i:=i) h2 (by simpa using e);exact ⟨w,by simpa using q,r⟩
def pC(K:Þ):∀(k:Nat) (x y:AV) (v w:V) (b:Bool),RV T ρ H x v->RV T ρ H y w->eqN k x y=some b->Is3 K (k+1) H v w b:=by
 intro k
 induction k with
 | zero=>exact λx y v w b=>m9 _ K x y v w b
 | succ k ih =>
  intro x y v w b h1 r h
  by_cases ht:∃d i,x=.tup d/\y=.tup i
  .obtain ⟨d,i,rfl,rfl⟩:=ht
   have I:=wx (T:=T) (ρ:=ρ) (H:=H) (k+1) (.tup d) (.tup i)
   simp only [eqN] at h I
   obtain ⟨a,X,rfl,L,z⟩:=id h1
   obtain ⟨Y,ws,rfl,m,C⟩:=id r
   have q:=B9 (K:=K) (n:=k+1) (e:=eAt (eqN k) d i) L m λj p q O Q=>by
    obtain ⟨u,D,N⟩:=z.get2 O
    obtain ⟨F,l,o⟩:=C.get2 Q
    obtain ⟨c,G⟩:=lD h j u F D l
    have:eAt (eqN k) d i j=c:=by simp [eAt,D,l,G]
    rw [this]
    exact (ih u F p q c N o G).1
   rw [← z.len,← C.len,i0 h] at q
   refine ⟨ng q.1 λP w Z S U e=>?_,q⟩
   subst e
   exact I _ _ h1 r h
  .have h0:eqN 0 x y=some b:=by
    cases x<;>cases y<;>first | exact h | (exfalso;exact ht ⟨_,_,ϱ,ϱ⟩)
   exact m9 _ K x y v w b h1 r h0
end
end M
namespace L2
open PySem PySem.Spec PyProof.Rows
section
variable {κ:Type} [DecidableEq κ]
noncomputable def bC(kvs:Ú (κ×V))(k:κ):Option V:=(kvs.find? λkv=>decide (kv.1=k)).map (·.2)
noncomputable def bE(kvs:Ú (κ×V))(k:κ)(v:V):Ú (κ×V) :=
 if (kvs.any λkv=>decide (kv.1=k))=true then kvs.map (λkv=>if kv.1=k then (kv.1,v) else kv) else kvs++[(k,v)]
noncomputable def bO(kvs:Ú (κ×V))(k:κ):Ú (κ×V):=kvs.filter λkv=>decide (kv.1≠k)
def dY{p:κ×V}{r:Ú (κ×V)}{k:κ}(e:p.1=k):bC (p::r) k=some p.2:=by simp [bC,List.find?_cons,e]
def dZ{p:κ×V}{r:Ú (κ×V)}{k:κ}(e:¬p.1=k):bC (p::r) k=bC r k:=by simp [bC,List.find?_cons,e]
theorem mf(k:κ):∀kvs:Ú (κ×V),(kvs.any λkv=>decide (kv.1=k))=(bC kvs k).isSome
 | []=>rfl
 | p::r=>by
  rw [List.any_cons]
  by_cases e:p.1=k
  .simp only [dY e,decide_eq_true e,Bool.true_or,Option.isSome_some]
  .rw [dZ e,Γ e,Bool.false_or];exact mf k r
theorem cR(a:Ú (κ×V))(k:κ)(v:V):(bE a k v).length<=a.length+1:=by
 unfold bE
 split
 .rw [ν];lia
 .rw [ŷ,Ũ,List.length_nil];lia
def RelO.isSome_eq(r:RelO o u):o.isSome=u.isSome:=by
 cases o with
 | none=>cases u with
  | none=>rfl
  | some _=>exact (show False from r).elim
 | some _=>cases u with
  | none=>exact (show False from r).elim
  | some _=>rfl
def RelO.getD(r:RelO o u)(a:RelV d d'):RelV (o.getD d) (u.getD d'):=by
 cases o with
 | none=>cases u with
  | none=>exact a
  | some _=>exact (show False from r).elim
 | some _=>cases u with
  | none=>exact (show False from r).elim
  | some _=>exact r
def KV.val{a:Ú (κ×V)}{vs:Ú (κ×ß)}(r:KV a vs)(k:κ):RelO (bC a k) (valueAt vs k):=by
 unfold KV at r
 induction r with
 | nil=>exact ϰ
 | @cons p q ps qs h t ih =>
  obtain ⟨h1,d⟩:=h
  by_cases e:p.1=k
  .have c:q.1=k:=h1.symm.trans e
   have b:valueAt (q::qs) k=some q.2:=by simp [valueAt,List.find?_cons,c]
   rw [dY e,b];exact d
  .have c:¬q.1=k:=λz=>e (h1.trans z)
   have b:valueAt (q::qs) k=valueAt qs k:=by simp [valueAt,List.find?_cons,c]
   rw [dZ e,b];exact ih
def KV.any(r:KV kvs vs)(k:κ):(kvs.any λkv=>decide (kv.1=k))=vs.any λkv=>decide (kv.1=k):=by
 unfold KV at r
 induction r with
 | nil=>rfl
 | cons h t ih=>rw [List.any_cons,List.any_cons,ih,h.1]
def KV.repl(r:KV kvs vs)(k:κ)(b:RelV y u) :
  KV (kvs.map λkv=>if kv.1=k then (kv.1,y) else kv) (vs.map λkv=>if kv.1=k then (kv.1,u) else kv):=by
 unfold KV at r ⊢
 induction r with
 | nil=>exact .nil
 | @cons p q ps qs h t ih =>
  rw [Ŵ,Ŵ]
  refine .cons ?_ ih
  obtain ⟨h1,a⟩:=h
  by_cases e:p.1=k
  .rw [Ż e,Ż (h1.symm.trans e)];exact ⟨h1,b⟩
  .rw [Ž e,Ž (λz=>e (h1.trans z))];exact ⟨h1,a⟩
def KV.put(r:KV kvs vs)(k:κ)(a:RelV y u):KV (bE kvs k y) (stored vs k u):=by
 unfold bE stored
 rw [r.any k]
 by_cases e:(vs.any λb=>decide (b.1=k))=true
 .rw [Ż e,Ż e];exact r.repl k a
 .rw [Ž e,Ž e];exact Paired.snoc r ⟨ϱ,a⟩
def KV.drop(r:KV kvs vs)(k:κ):KV (bO kvs k) (without vs k):=by
 unfold KV at r ⊢
 unfold bO without
 induction r with
 | nil=>exact .nil
 | @cons p q ps qs h t ih =>
  obtain ⟨h1,c⟩:=h
  rw [List.filter_cons,List.filter_cons]
  by_cases e:p.1=k
  .have a:¬decide (p.1≠k)=true:=by simp [e]
   have b:¬decide (q.1≠k)=true:=by simp [h1.symm.trans e]
   rw [Ž a,Ž b];exact ih
  .have d:¬q.1=k:=λz=>e (h1.trans z)
   have a:decide (p.1≠k)=true:=by simp [e]
   have b:decide (q.1≠k)=true:=by simp [d]
   rw [Ż a,Ż b];exact .cons ⟨h1,c⟩ ih
def KV.length(r:KV kvs vs):kvs.length=vs.length:=ĝ r
def wH(kvs:Ú (κ×V))(k:κ):(bO kvs k).length<=kvs.length:=ŧ _ _
end
def dD(r:RelV (kV k) u):(ay P w).is k u=true:=by
 cases k with
 | inl i=>obtain ⟨t,e⟩:=(show ∃t,u=Value.int i t from r);subst e;exact mL P w i t
 | inr x=>obtain ⟨t,e⟩:=(show ∃t,u=Value.str x t from r);subst e;exact mK P w x t
theorem jN:∀{ks:List Key} {us:õ},Vals (ks.map kV) us->ItemsAre (ay P w) ks us
 | [],_,r=>by rw [List.map_nil] at r;cases r;exact .nil
 | k::ks,_,r=>by
  rw [Ŵ] at r
  cases r with
  | cons h t=>exact .cons (dD h) (jN t)
abbrev KT(H:Hp):List (List Key×V)->Ú (Ú Key×Addr×ß)->Prop:=Paired λp q=>p.1=q.1/\H q.2.1=some (.tup (p.1.map kV))/\RelV p.2 q.2.2
def KT.val{H:Hp}{a:List (List Key×V)}{xs:Ú (Ú Key×Addr×ß)}(r:KT H a xs)(k:List Key):RelO (bC a k) ((atKey xs k).map (·.2)):=by
 induction r with
 | nil=>exact ϰ
 | @cons p q ps qs h t ih =>
  obtain ⟨h1,_,d⟩:=h
  by_cases e:p.1=k
  .have c:q.1=k:=h1.symm.trans e
   have b:atKey (q::qs) k=some q.2:=by simp [atKey,List.find?_cons,c]
   rw [dY e,b];exact d
  .have c:¬q.1=k:=λz=>e (h1.trans z)
   have b:atKey (q::qs) k=atKey qs k:=by simp [atKey,List.find?_cons,c]
   rw [dZ e,b];exact ih
def KT.repl(r:KT H kvs xs)(k:List Key)(c:RelV y u) :
  KT H (kvs.map λkv=>if kv.1=k then (kv.1,y) else kv) (xs.map (putAt k u)):=by
 induction r with
 | nil=>exact .nil
 | @cons p q ps qs h t ih =>
  rw [Ŵ,Ŵ]
  refine .cons ?_ ih
  obtain ⟨h1,a,b⟩:=h
  unfold putAt
  by_cases e:p.1=k
  .rw [Ż e,Ż (h1.symm.trans e)];exact ⟨h1,a,c⟩
  .rw [Ž e,Ž (λz=>e (h1.trans z))];exact ⟨h1,a,b⟩
def KT.put(r:KT H kvs xs)(k:List Key)(d:H b=some (.tup (k.map kV)))(a:RelV y u) :
  KT H (bE kvs k y) (storedH xs k b u):=by
 have e:(kvs.any λc=>decide (c.1=k))=(atKey xs k).isSome:=by
  rw [mf,(r.val k).isSome_eq,ĉ]
 unfold bE storedH
 rw [e]
 by_cases q:(atKey xs k).isSome=true
 .rw [Ż q,Ż q];exact r.repl k a
 .rw [Ž q,Ž q];exact Paired.snoc r ⟨ϱ,d,a⟩
def KT.keeps(r:KT H kvs xs)(ht:∀b ys,H b=some (.tup ys)->H' b=some (.tup ys)):KT H' kvs xs :=
 Paired.mapP r λ_ _ z=>⟨z.1,ht _ _ z.2.1,z.2.2⟩
section
variable {P:ä}{w:â}{H:Hp}{h:Ý}{a:ã}
def Bc(ok:HOk P w H h)(e:Rd H a u):ObjOk P w H h a u:=e.ok ok
def i5(ok:HOk P w H h)(e:Rd H a (.dK kvs)):kvs.length<=sizeLine/\(a==sysModules)=false/\∃vs,KV kvs vs/\h.DictOf (ay P w) a vs :=
 show ObjOk P w H h a (.dK kvs) from Bc ok e
def nj(ok:HOk P w H h)(e:H a=some (.dK kvs)):kvs.length<=sizeLine/\(a==sysModules)=false/\∃vs,KV kvs vs/\h.DictOf (ay P w) a vs:=i5 ok (.inl e)
def bX(ok:HOk P w H h)(e:H a=some (.tup (ks.map kV))):(tupleKind (ay P w)).is h ks a:=by
 obtain ⟨_,b,r,o,h1,c,_,n,d⟩:=(show ObjOk P w H h a (.tup (ks.map kV)) from ok a _ e)
 exact ⟨o,b.toArray,n,h1,c,d,by simpa using jN r⟩
def i4(ok:HOk P w H h)(e:Rd H a (.dT kvs)):kvs.length<=sizeLine/\(a==sysModules)=false /\
  ∃xs,KT H kvs xs/\h.DictOfH (tupleKind (ay P w)) a xs:=by
 obtain ⟨z,y,xs,r,o,b,c,h1,d,i,j,n⟩:=(show ObjOk P w H h a (.dT kvs) from Bc ok e)
 refine ⟨z,y,xs,r,o,b,c,h1,d,i,j,λx hx=>?_,n⟩
 have all:∀{l:List (List Key×V)} {m:Ú (Ú Key×Addr×ß)},KT H l m->∀x∈m,(tupleKind (ay P w)).is h x.1 x.2.1:=by
  intro l m q
  induction q with
  | nil=>intro x hx;exact nomatch hx
  | @cons p q ps qs hq t ih =>
   intro x hx
   rcases ϕ.mp hx with e | hx
   .subst e
    exact bX ok (by rw [← hq.1];exact hq.2.1)
   .exact ih x hx
 exact all r x hx
def nh(ok:HOk P w H h)(e:H a=some (.dT kvs)):kvs.length<=sizeLine/\(a==sysModules)=false /\
  ∃xs,KT H kvs xs/\h.DictOfH (tupleKind (ay P w)) a xs:=i4 ok (.inl e)
end
def DGet(H:Hp)(a:ã)(y:V)(r:Option V):Prop :=
 (∃kvs k,Rd H a (.dK kvs)/\y=kV k/\r=bC kvs k)\/∃kvs k b,Rd H a (.dT kvs)/\y=.ref b/\H b=some (.tup (k.map kV))/\r=bC kvs k
def DPut(H:Hp)(a:ã)(y v:V)(H':Hp):Prop :=
 (∃kvs k,H a=some (.dK kvs)/\y=kV k/\kvs.length<sizeLine/\H'=upd H a (.dK (bE kvs k v))) \/
 ∃kvs k b,H a=some (.dT kvs)/\y=.ref b/\H b=some (.tup (k.map kV))/\kvs.length<sizeLine/\H'=upd H a (.dT (bE kvs k v))
def DGet.k{H:Hp}{a:ã}{kvs:List (Key×V)}{k:Key}(e:H a=some (.dK kvs)):DGet H a (kV k) (bC kvs k):=.inl ⟨kvs,k,.inl e,ϱ,ϱ⟩
def DGet.t{H:Hp}{a b:ã}{kvs:List (List Key×V)}{k:List Key}(e:H a=some (.dT kvs))(eb:H b=some (.tup (k.map kV))):DGet H a (.ref b) (bC kvs k):=.inr ⟨kvs,k,b,.inl e,ϱ,eb,ϱ⟩
def DPut.k{H:Hp}{a:ã}{kvs:List (Key×V)}{k:Key}{v:V}(e:H a=some (.dK kvs))(hl:kvs.length<sizeLine):DPut H a (kV k) v (upd H a (.dK (bE kvs k v))):=.inl ⟨kvs,k,e,ϱ,hl,ϱ⟩
def DPut.t{H:Hp}{a b:ã}{kvs:List (List Key×V)}{k:List Key}{v:V}(e:H a=some (.dT kvs))(eb:H b=some (.tup (k.map kV)))(hl:kvs.length<sizeLine) :
  DPut H a (.ref b) v (upd H a (.dT (bE kvs k v))):=.inr ⟨kvs,k,b,e,ϱ,eb,hl,ϱ⟩
section
variable {X:Cx}{pins:ý}{σ:St}{H:Hp}{s:å}{a:ã}{y v:V}{u r:ß}{o:Option V}{A:à}{E:ü}
def Inv.big(I:Inv X pins σ H s):sysModules<s.heap.objs.size:=by
 have h:mainGlobals<s.heap.objs.size:=(I.mod.glob.keeps I.bk).lt
 exact Ş ζ h
def tT{Q:ü}(C:A.units+1<cLine)(I:Inv X pins σ H s)(g:DGet H a y (some v))(n:RelV y u)(h:∀w' s',Inv X pins σ H s'->RelV v w'->Q w' s') :
  wpAny (model X.prog X.w) A (getItem (.ref a) u) Q E s:=by
 rcases g with ⟨kvs,k,e,ey,l⟩ | ⟨kvs,k,b,e,ey,eb,l⟩
 .subst ey
  obtain ⟨z,q,r,c,i⟩:=i5 I.hok e
  obtain ⟨w',j,d⟩:=RelO.some_of (v:=v) (o:=valueAt r k) (by rw [l];exact c.val k)
  exact wpAny_getItem_of (dD n) i.mapOf j (h w' _ (I.tok _) d)
 .subst ey
  cases (show u=Value.ref b from n)
  obtain ⟨z,q,x,c,i⟩:=i4 I.hok e
  obtain ⟨w',j,d⟩:=RelO.some_of (v:=v) (o:=(atKey x k).map (·.2)) (by rw [l];exact c.val k)
  obtain ⟨p,hp,m⟩:=ſ.mp j
  refine wpAny_getItem_heap (œ C) (bX I.hok eb) i hp ?_
  rw [m]
  exact h w' _ (I.tok _) d
def HM{Q:ü}(m:A.units+1<cLine)(I:Inv X pins σ H s)(g:DGet H a y o)(j:RelV y u)(h:∀s',Inv X pins σ H s'->Q (.bool o.isSome) s') :
  wpAny (model X.prog X.w) A (compareOp .In u (.ref a)) Q E s:=by
 rcases g with ⟨kvs,k,e,ey,l⟩ | ⟨kvs,k,b,e,ey,eb,l⟩
 .subst ey
  obtain ⟨z,d,n,c,i⟩:=i5 I.hok e
  refine wpAny_in_of (dD j) d i.mapOf ?_
  rw [← (c.val k).isSome_eq,← l]
  exact h _ (I.tok _)
 .subst ey
  cases (show u=Value.ref b from j)
  obtain ⟨z,d,p,c,i⟩:=i4 I.hok e
  refine wpAny_in_heap (œ m) (bX I.hok eb) d i ?_
  have q:=(c.val k).isSome_eq
  rw [ĉ] at q
  rw [← q,← l]
  exact h _ (I.tok _)
def qX{Q:ü}(m:A.units+1<cLine)(I:Inv X pins σ H s)(g:DGet H a y o)(j:RelV y u)(h:∀s',Inv X pins σ H s'->Q (.bool (!o.isSome)) s') :
  wpAny (model X.prog X.w) A (compareOp .NotIn u (.ref a)) Q E s:=by
 rcases g with ⟨kvs,k,e,ey,l⟩ | ⟨kvs,k,b,e,ey,eb,l⟩
 .subst ey
  obtain ⟨z,d,n,c,i⟩:=i5 I.hok e
  refine wpAny_notIn_of (dD j) d i.mapOf ?_
  rw [← (c.val k).isSome_eq,← l]
  exact h _ (I.tok _)
 .subst ey
  cases (show u=Value.ref b from j)
  obtain ⟨z,d,p,c,i⟩:=i4 I.hok e
  refine wpAny_notIn_heap (œ m) (bX I.hok eb) d i ?_
  have q:=(c.val k).isSome_eq
  rw [ĉ] at q
  rw [← q,← l]
  exact h _ (I.tok _)
def cE(I:Inv X pins σ H s)(mu:Mut (H a))(hs:Heap.SameBut a s.heap h')(he:∃q,h'.get? a=some q)(new:ObjOk X.prog X.w (upd H a ob) h' a ob) :
  Inv X pins σ (upd H a ob) {s with heap:=h',toks:=t'} :=
 I.write (x:=a) (e:=a) mu (.inl rfl) (λb q hb z=>(hs.2 b hb).trans z) he new
def lJ(z:kvs.length<=sizeLine)(hd:(a==sysModules)=false)(rel:KV kvs vs)(dd:h'.DictOf (ay P w) a vs) :
  ObjOk P w H' h' a (.dK kvs):=⟨z,hd,vs,rel,dd⟩
theorem tS{Q:Unit->å->Prop}(hu:A.units+1<cLine)(I:Inv X pins σ H s)(g:DPut H a y v H')(F:RelV y u)(G:RelV v r)(h:∀s',Inv X pins σ H' s'->Q () s') :
  wpAny (model X.prog X.w) A (setItem (.ref a) u r) Q E s:=by
 rcases g with ⟨kvs,k,e,ey,l,eH⟩ | ⟨kvs,k,b,e,ey,eb,l,eH⟩
 .subst ey eH
  obtain ⟨z,m,K,d,n⟩:=nj I.hok e
  have o:K.length<=sizeLine:=by rw [← d.length];exact z
  have p:(bE kvs k v).length<=sizeLine:=by have:=cR kvs k v;lia
  refine wpAny_setItem_pairs (hsz:=o) (dD F) n λC i x=>h _ ?_
  have he:∃q,C.get? a=some q:=let ⟨q,_,_,j,_⟩:=i;⟨q,j⟩
  exact cE I (by rw [e];exact ϰ) x he (lJ p m (d.put k G) i)
 .subst ey eH
  cases (show u=Value.ref b from F)
  obtain ⟨z,m,L,d,n⟩:=nh I.hok e
  have o:L.length<=sizeLine:=by rw [← ĝ d];exact z
  have p:(bE kvs k v).length<=sizeLine:=by have:=cR kvs k v;lia
  refine wpAny_setItem_heap (hsz:=o) (œ hu) (bX I.hok eb) n λC i x=>h _ ?_
  obtain ⟨q,N,O,j,S,U,Y,_,Z⟩:=i
  refine cE I (by rw [e];exact ϰ) x ⟨q,j⟩ ⟨p,m,_,(d.put k eb G).keeps λc ys D=>?_,q,N,O,j,S,U,Y,Z⟩
  rw [ah (qC D e (λz=>nomatch z))]
  exact D
end
section
variable {X:Cx}{pins:ý}{σ:St}{H:Hp}{s:å}{a:ã}{kvs:List (Key×V)}{k:Key}{u:ß}{A:à}{E:ü}
def F7{Q:ü}(I:Inv X pins σ H s)(e:H a=some (.dK kvs))(j:RelV (kV k) u)(l:bC kvs k=some v)(p:more=[]\/∃x,more=[x])
  (h:∀w' s',Inv X pins σ (upd H a (.dK (bO kvs k))) s'->RelV v w'->Q w' s'):wpAny (model X.prog X.w) A (call (.builtin "dict.pop") (.ref a::u::more)) Q E s:=by
 obtain ⟨z,r,m,b,n⟩:=nj I.hok e
 obtain ⟨w',y,d⟩:=RelO.some_of (v:=v) (o:=valueAt m k) (by rw [← l];exact b.val k)
 have hp:(keyPart u).isSome=true:=by
  cases k with
  | inl i=>obtain ⟨t,q⟩:=(show ∃t,u=Value.int i t from j);subst q;rfl
  | inr x=>obtain ⟨t,q⟩:=(show ∃t,u=Value.str x t from j);subst q;rfl
 have C:argsOk "dict.pop" ⟨.ref a::u::more,[]⟩:=by
  rcases p with q | ⟨x,q⟩
  .subst q;exact PySem.F.args_dict_pop_2 _ _
  .subst q;exact PySem.F.args_dict_pop_3 _ _ _
 refine Į Ċ n.typeIs PySem.F.entry_dict_pop C (meets_dict_pop_there (ay X.prog X.w) a (dD j) more p hp)
  ⟨m,w',n,by rw [← b.length];exact z,y,λG c K=>h w' _ ?_ d⟩
 have D:∃q,G.get? a=some q:=let ⟨q,_,_,hq,_⟩:=c;⟨q,hq⟩
 exact cE I (by rw [e];exact ϰ) K D (lJ (Λ (wH kvs k) z) r (b.drop k) c)
def DJ{Q:ü}(I:Inv X pins σ H s)(e:H a=some (.dK kvs))(c:RelV (kV k) u)(l:bC kvs k=none)(h:∀s',Inv X pins σ H s'->Q r s') :
  wpAny (model X.prog X.w) A (call (.builtin "dict.pop") [.ref a,u,r]) Q E s:=by
 obtain ⟨z,m,d,b,j⟩:=nj I.hok e
 have n:valueAt d k=none:=RelO.none_of (by rw [← l];exact b.val k)
 have hp:(keyPart u).isSome=true:=by
  cases k with
  | inl i=>obtain ⟨t,q⟩:=(show ∃t,u=Value.int i t from c);subst q;rfl
  | inr x=>obtain ⟨t,q⟩:=(show ∃t,u=Value.str x t from c);subst q;rfl
 exact Į Ċ j.typeIs PySem.F.entry_dict_pop (PySem.F.args_dict_pop_3 _ _ _) (meets_dict_pop_default (ay X.prog X.w) a (dD c) m hp r) ⟨d,j,n,h _ (I.tok _)⟩
end
def GX(i:Û):Prop:=∀ov iv,subscripted i false ov iv=operate [ov,iv] (getItem ov iv)
def yd{prog:ä}{w:â}{A:à}{E:ü}{s:å}{env:Env}{b a:Û}{pos:Pos}{T id:String}{Q:ü}
  (n:typeLookup (.type T) "__getitem__"=pure (some (.builtin id)))(p:GX a)
  (h:wpAny (model prog w) A (eval b env) (λo s₁=>wpAny (model prog w) A (eval a env) (λi s₂=>s₂.TypeIs o T/\wpAny (model prog w) A (getItem o i) Q E s₂) E s₁) E s) :
  wpAny (model prog w) A (eval (.Subscript b a pos) env) Q E s:=by
 refine Subscript_ (Š h (λo s₁ l=>Š l (λi s₂ d=>?_) λ_ _ x=>x) λ_ _ x=>x)
 obtain ⟨e,d⟩:=d
 unfold subscriptTail
 refine ε ?_
 rw [getitemInPython_of_ne e.not_modules]
 refine ε (wpAny_specialOf e n ?_)
 have c:wpAny (model prog w) A (subscripted a false o i) (λr j=>wpAny (model prog w) A (letTemporaryGo b o r >>= λ_=>pure r) Q E j) E s₂:=by
  rw [p o i]
  exact wpAny_operating (Š d (λr j m=>ε (wpAny_letTemporaryGo (π m))) λ_ _ x=>x)
 first
  | exact π (ε c)
  | exact ε (π (ε c))
  | exact ε c
def qa(ty td:TE):TE:=fun σ H Q=>ty σ H λy H1=>td σ H1 λx H2=>∃a o,x=.ref a/\DGet H2 a y o/\Q (.bl (!o.isSome)) H2
section
variable {X:Cx}{o i e value:Û}{pos pos' tpos:Pos}{td ty tv:TE}
def sP(w:X.A.units+1<cLine)(z:PE X i ty)(C:PE X o td):PC X .NotIn i o (qa ty td):=by
 intro b s σ H Q I h
 refine thn (z b s σ H _ I h) λD c ⟨y,H1,d,e,j⟩=>thn (C b c σ H1 _ d j) λu F ⟨x,l,m,n,a,p,q,g,r⟩=>?_
 subst q
 obtain rfl:u=Value.ref a:=n
 exact qX w m g e λG v=>⟨.bl (!p.isSome),l,v,ϱ,r⟩
end
def wK(h:Ý)(hb:sysModules<h.objs.size):ObjOk P w H (h.push {cls:=.type "dict",data:=.dict #[]}) h.objs.size (.dK []) :=
 ⟨ϖ _,ū.mpr (Ne.symm (Φ hb)),[],.nil,Heap.DictOf.new h⟩
def wG(h:Ý)(hb:sysModules<h.objs.size):ObjOk P w H (h.push {cls:=.type "dict",data:=.dict #[]}) h.objs.size (.dT []) :=
 ⟨ϖ _,ū.mpr (Ne.symm (Φ hb)),[],.nil,_,#[],0,ϻ _ rfl,⟨ϱ,ϱ,ϱ⟩,ϱ,ϱ,ŭ⟩
def Ce:TE:=λ_ H Q=>∀p,H p=none->Q (.ref p) (upd H p (.dK []))
def Cd:TE:=λ_ H Q=>∀p,H p=none->Q (.ref p) (upd H p (.dT []))
section
variable {X:Cx}{pos:Pos}
def vD:PE X (.Dict [] [] pos) Ce:=λpins s σ H Q I h =>
 wpAny_Dict_empty ⟨.ref s.heap.objs.size,_,I.laid (a:=s.heap.objs.size) (o:=.dK []) (t':=s.toks) (λ_ _ q=>ϸ _ q) (ι _) (wK s.heap I.big),ϱ,h _ (I.hok.fresh (ι _))⟩
def vC:PE X (.Dict [] [] pos) Cd:=λpins s σ H Q I h =>
 wpAny_Dict_empty ⟨.ref s.heap.objs.size,_,I.laid (a:=s.heap.objs.size) (o:=.dT []) (t':=s.toks) (λ_ _ q=>ϸ _ q) (ι _) (wG s.heap I.big),ϱ,h _ (I.hok.fresh (ι _))⟩
end
noncomputable def bV(kvs more:List (Key×V)):List (Key×V):=more.foldl (λacc kv=>bE acc kv.1 kv.2) kvs
def KV.merge:∀{a:List (Key×V)} {rs:Ú (Key×ß)} {b:List (Key×V)} {vs:Ú (Key×ß)},KV a rs->KV b vs->KV (bV b a) (merged vs rs):=by
 intro a rs b vs r
 unfold KV at r
 induction r generalizing b vs with
 | nil=>intro q;exact q
 | @cons p q ps qs h t ih =>
  intro c
  have e:KV (bE b p.1 p.2) (stored vs q.1 q.2):=by
   have:=c.put p.1 h.2
   rw [← h.1];exact this
  exact ih e
theorem bW:∀(more kvs:List (Key×V)),(bV kvs more).length<=kvs.length+more.length
 | [],kvs=>by show kvs.length<=kvs.length+0;lia
 | p::r,kvs=>by
  have h1:=bW r (bE kvs p.1 p.2)
  have h2:=cR kvs p.1 p.2
  show (bV (bE kvs p.1 p.2) r).length<=_
  rw [Ũ];lia
structure M1(X:Cx)(o:Û)(m:Str)(apos:Pos)(e:Û)(cpos:Pos):Prop where
 base:attributeBase o m X.env (eval o X.env)=eval o X.env
 few:((backTo cpos (starEach [e] X.env)).all (λx=>!x.1)&&(backToKw cpos (keywordEach [] X.env)).all (λx=>x.1.isSome)
  && decide (([e]:ï).length+([]:Ú Keyword).length+(if ([]:Ú Keyword).isEmpty then 0 else 1)<30))=true
 line:(apos.endLine==cpos.line)=true
 trees:backTo cpos (starEach [e] X.env)=[(false,eval e X.env)]
def IsD(H:Hp)(a:ã):Prop:=(∃kvs,Rd H a (.dK kvs))\/∃kvs,Rd H a (.dT kvs)
def v7(I:Inv X pins σ H s)(d:IsD H a) :
  s.TypeIs (.ref a) "dict"/\(∀b,Value.ref a=.ref b->∃ob,s.heap.get? b=some ob/\ob.dict=none)/\(a==sysModules)=false:=by
 rcases d with ⟨kvs,e⟩ | ⟨kvs,e⟩
 .obtain ⟨_,h,j,_,c⟩:=i5 I.hok e
  refine ⟨c.typeIs,λb q=>?_,h⟩
  cases q
  obtain ⟨ob,_,_,h1,i,_⟩:=c
  exact ⟨ob,h1,i.2.1⟩
 .obtain ⟨_,h,l,_,c⟩:=i4 I.hok e
  refine ⟨c.typeIs,λb q=>?_,h⟩
  cases q
  obtain ⟨ob,_,_,h1,i,_⟩:=c
  exact ⟨ob,h1,i.2.1⟩
section
variable {X:Cx}{pins:ý}{σ:St}{H:Hp}{s:å}{a:ã}{y d:V}{u r:ß}{o:Option V}{A:à}{E:ü}
def DL{Q:ü}(n:A.units+1<cLine)(I:Inv X pins σ H s)(g:DGet H a y o)(j:RelV y u)(h:∀w' s',Inv X pins σ H s'->RelV (o.getD .non) w'->Q w' s') :
  wpAny (model X.prog X.w) A (call (.builtin "dict.get") [.ref a,u]) Q E s:=by
 rcases g with ⟨kvs,k,e,ey,l⟩ | ⟨kvs,k,b,e,ey,eb,l⟩
 .subst ey
  obtain ⟨z,i,p,c,d⟩:=i5 I.hok e
  refine Į ľ d.typeIs ē (PySem.F.args_dict_get_2 _ _) (meets_dict_get (ay X.prog X.w) a (dD j) i) ⟨_,d.mapOf,h _ _ (I.tok _) ?_⟩
  rw [l]
  exact (c.val k).getD rfl
 .subst ey
  cases (show u=Value.ref b from j)
  obtain ⟨z,i,m,c,d⟩:=i4 I.hok e
  refine Į ľ d.typeIs ē (PySem.F.args_dict_get_2 _ _) (meetsH_dict_get (tupleKind (ay X.prog X.w)) a b i) ⟨œ n,k,m,bX I.hok eb,d,h _ _ (I.tok _) ?_⟩
  rw [l]
  exact (c.val k).getD rfl
def DK{Q:ü}(q:A.units+1<cLine)(I:Inv X pins σ H s)(g:DGet H a y o)(m:RelV y u)(n:RelV d r)(h:∀w' s',Inv X pins σ H s'->RelV (o.getD d) w'->Q w' s') :
  wpAny (model X.prog X.w) A (call (.builtin "dict.get") [.ref a,u,r]) Q E s:=by
 rcases g with ⟨kvs,k,e,ey,l⟩ | ⟨kvs,k,b,e,ey,eb,l⟩
 .subst ey
  obtain ⟨z,j,v,c,i⟩:=i5 I.hok e
  refine Į ľ i.typeIs ē (PySem.F.args_dict_get_3 _ _ _) (meets_dict_get_default (ay X.prog X.w) a (dD m) j r) ⟨_,i.mapOf,h _ _ (I.tok _) ?_⟩
  rw [l]
  exact (c.val k).getD n
 .subst ey
  cases (show u=Value.ref b from m)
  obtain ⟨z,j,p,c,i⟩:=i4 I.hok e
  refine Į ľ i.typeIs ē (PySem.F.args_dict_get_3 _ _ _) (meetsH_dict_get_default (tupleKind (ay X.prog X.w)) a b j r) ⟨œ q,k,p,bX I.hok eb,i,h _ _ (I.tok _) ?_⟩
  rw [l]
  exact (c.val k).getD n
end
end L2
namespace M
open PySem PySem.Spec L2
open PyProof.Rows hiding St
abbrev A2:=AV->AV->AH->AQ->Prop
abbrev Fin(T:Tab)(ρ:Rho)(H:Hp)(QA:AQ)(Q:VK):Prop:=∀ρ' x v A' H',Ext ρ H ρ' H'->Rl T ρ' A' H'->RV T ρ' H' x v->FrOk H x v->QA x A'->Q v H'
def l2(T:Tab)(p:A2):R2:=λv w H Q=>∃ρ A x y QA,Rl T ρ A H/\RV T ρ H x v/\RV T ρ H y w/\p x y A QA/\Fin T ρ H QA Q
abbrev AOp(X:Cx)(T:Tab)(f:ß->ß->Sem ß)(p:A2):Prop:=OpR X f (l2 T p)
abbrev AIx(X:Cx)(T:Tab)(p:A2):Prop:=IxR X (l2 T p)
def aOp(p:A2)(ta tb:ATE):ATE:=fun σ A Q=>ta σ A λx A1=>tb σ A1 λy A2=>p x y A2 Q
section
variable {T:Tab}{ρ:Rho}{A:AH}{H:Hp}{QA:AQ}{Q:VK}
def Fin.here(f:Fin T ρ H QA Q)(l:Rl T ρ A H)(r:RV T ρ H x v)(q:QA x A)(hn:aT x=false:=by rfl):Q v H:=f ρ x v A H (Ext.refl _ _) l r (nfr hn) q
def Fin.after(f:Fin T ρ H QA Q)(e:Ext ρ H ρ1 H1):Fin T ρ1 H1 QA Q:=fun ρ2 x v A2 H2 e2 l r z=>f ρ2 x v A2 H2 (e.trans e2) l r (z.dom e)
def Rl.nrN(l:Rl T ρ A H)(h:H a=none):NR ρ a:=l.nr (by rw [h];exact id)
def Fin.tup(f:Fin T ρ H QA Q)(l:Rl T ρ A H)(ha:H a=none)(r:RVs T ρ H xs vs)(q:QA (.tup xs) A):Q (.ref a) (upd H a (.tup vs)) :=
 f ρ (.tup xs) _ A _ (Ext.new1 ha) (l.new1 ha) ⟨a,vs,ϱ,ai,r.ext l.kd (Ext.new1 ha)⟩ (nfr rfl) q
def Fin.lst(f:Fin T ρ H QA Q)(l:Rl T ρ A H)(ha:H a=none)(r:RVs T ρ H xs vs)(q:QA (.frl xs) A):Q (.ref a) (upd H a (.lst vs)) :=
 f ρ (.frl xs) _ A _ (Ext.new1 ha) (l.new1 ha) ⟨a,vs,ϱ,l.nrN ha,ai,r.ext l.kd (Ext.new1 ha)⟩ (λ_ b e=>by cases e;exact ha) q
end
section
variable {X:Cx}{T:Tab}{a b:Û}{ta tb:ATE}{pos:Pos}{p:A2}
def ou(rs:Rs T ρ σ A σv H)(h:aOp p ta tb σ A QA)(fin:Fin T ρ H QA Q):tOp (l2 T p) (lE T ta) (lE T tb) σv H Q :=
 ao rs h fun ρ1 x v A1 H1 e1 rs1 rv fz q=>ao rs1 q fun ρ2 y w A2 H2 e2 rs2 rw fw q2 =>
  ⟨ρ2,A2,x,y,QA,rs2.rl,rv.ext rs1.rl.kd e2,rw,q2,fin.after (e1.trans e2)⟩
def j8(ho:AOp X T (binaryOp op) p)(ha:AE X T a ta)(hb:AE X T b tb):AE X T (.BinOp a op b pos) (aOp p ta tb) :=
 (Fl ho ha hb).imp fun σv H Q ⟨ρ,σ,A,QA,rs,h,fin⟩=>ou rs h fin
def xD(ho:AOp X T (compareOp op) p)(ha:AE X T a ta)(hb:AE X T b tb)(hm:behindInMarks op b=false):AE X T (.Compare a [op] [b] pos) (aOp p ta tb) :=
 (qt ho ha hb hm).imp fun σv H Q ⟨ρ,σ,A,QA,rs,h,fin⟩=>ou rs h fin
def Af(ho:AOp X T (compareOp op) p)(ha:AE X T a ta)(hb:AE X T b tb)(hm:behindInMarks op b=false):AT X T (.Compare a [op] [b] pos) (aB (aOp p ta tb)) :=
 (qo ho ha hb hm).imp fun σv H Q ⟨ρ,σ,A,QA,rs,h,fin⟩=>ao rs h fun ρ1 x v A1 H1 e1 rs1 rv fz q=>ao rs1 q fun ρ2 y w A2 H2 e2 rs2 rw fw q2 =>
  ⟨ρ2,A2,x,y,_,rs2.rl,rv.ext rs1.rl.kd e2,rw,q2,fun ρ3 z u A3 H3 e3 l3 r3 f3 q3=>by
   cases z with
   | bl c=>exact ⟨c,r3,fin ρ3 c A3 H3 (e1.trans (e2.trans e3)) l3 q3⟩
   | _=>exact q3.elim⟩
def GG(hr:AIx X T p)(ha:AE X T a ta)(hb:AE X T b tb)(hs:hE b):AE X T (.Subscript a b pos) (aOp p ta tb) :=
 (Bg hr ha hb hs).imp fun σv H Q ⟨ρ,σ,A,QA,rs,h,fin⟩=>ou rs h fin
def pI(C:Int->Int->Prop) [∀i j,Decidable (C i j)](g:Int->Int->AV):A2:=λx y A Q=>match x,y with
 | .int i,.int j=>nd (C i j) (Q (g i j) A)
 | _,_=>False
def nN{f:ß->ß->Sem ß}{C:Int->Int->Prop} [∀i j,Decidable (C i j)]{g:Int->Int->V}{g':Int->Int->AV}(h:OpR X f (rI C g))(hg:∀ρ H i j,RV T ρ H (g' i j) (g i j))(hn:∀i j,aT (g' i j)=false:=by intros;rfl):AOp X T f (pI C g') :=
 λpins s σ H v w vv uu Q I rx ry ⟨ρ,A,x,y,QA,rl,rvx,rvy,q,fin⟩=>by
  cases x<;>first | (cases q;done) | skip
  cases y<;>first | (cases q;done) | skip
  cases (show v=_ from rvx)
  cases (show w=_ from rvy)
  exact h pins s σ H _ _ vv uu Q I rx ry ⟨_,_,ϱ,ϱ,(nd.of q).1,fin.here rl (hg ρ H _ _) (nd.of q).2 (hn _ _)⟩
def pIa(C:Int->Int->Prop)(g:Int->Int->AV):A2:=λx y A Q=>match x,y with
 | .int i,.int j=>C i j/\Q (g i j) A
 | _,_=>False
def GC{f:ß->ß->Sem ß}{C:Int->Int->Prop}{g:Int->Int->V}{g':Int->Int->AV}(h:OpR X f (rI C g))(hg:∀ρ H i j,RV T ρ H (g' i j) (g i j))(hn:∀i j,aT (g' i j)=false:=by intros;rfl):AOp X T f (pIa C g') :=
 λpins s σ H v w vv uu Q I rx ry ⟨ρ,A,x,y,QA,rl,rvx,rvy,q,fin⟩=>by
  cases x<;>first | (cases q;done) | skip
  cases y<;>first | (cases q;done) | skip
  cases (show v=_ from rvx)
  cases (show w=_ from rvy)
  exact h pins s σ H _ _ vv uu Q I rx ry ⟨_,_,ϱ,ϱ,q.1,fin.here rl (hg ρ H _ _) q.2 (hn _ _)⟩
def iu{f:ß->ß->Sem ß}{g:Int->Int->V}(h:OpR X f (rI0 g)):OpR X f (rI (λ_ _=>True) g):=λpins s σ H x y v u Q I rx ry ⟨i,j,a,b,_,q⟩=>h pins s σ H x y v u Q I rx ry ⟨i,j,a,b,q⟩
instance (i j:Int):Decidable (xS i j):=by unfold xS;exact inferInstance
instance (i j:Int):Decidable (oh i j):=by unfold oh;exact inferInstance
abbrev TT2:Int->Int->Prop:=λ_ _=>True
def D7:AOp X T (binaryOp .Sub) (pI TT2 λi j=>.int (i-j)):=nN (iu C1) λ_ _ _ _=>rfl
def D9:AOp X T (binaryOp .Mult) (pIa CMul λi j=>.int (i*j)):=GC C3 λ_ _ _ _=>rfl
def As:AOp X T (binaryOp .FloorDiv) (pI oh λi j=>.int (i/j)):=nN vP λ_ _ _ _=>rfl
def Ea:AOp X T (binaryOp .Mod) (pI (λ_ j=>0<j) λi j=>.int (i%j)):=nN C4 λ_ _ _ _=>rfl
def D8:AOp X T (binaryOp .Pow) (pI xS λi j=>.int (i ^ j.toNat)):=nN C2 λ_ _ _ _=>rfl
def Gv:AOp X T (compareOp .Lt) (pI TT2 λi j=>.bl (decide (i<j))):=nN (iu FA) λ_ _ _ _=>rfl
def Gw:AOp X T (compareOp .LtE) (pI TT2 λi j=>.bl (decide (i<=j))):=nN (iu FB) λ_ _ _ _=>rfl
def Gz:AOp X T (compareOp .Gt) (pI TT2 λi j=>.bl (decide (j<i))):=nN (iu FC) λ_ _ _ _=>rfl
def GA:AOp X T (compareOp .GtE) (pI TT2 λi j=>.bl (decide (j<=i))):=nN (iu FD) λ_ _ _ _=>rfl
noncomputable def listOf(x:AV)(A:AH):Option (Ú AV):=match x with
 | .frl xs=>some xs
 | .fzl xs=>some xs
 | .ref n=>match A n with
  | some (.lst xs)=>some xs
  | _=>none
 | _=>none
def aN(l:Rl T ρ A H)(r:RV T ρ H x v)(h:listOf x A=some xs):∃a vs,v=.ref a/\SqL T.K H a vs/\RVs T ρ H xs vs:=by
 cases x with
 | frl ys=>cases h;obtain ⟨a,vs,h1,c,b,d⟩:=r;exact ⟨a,vs,h1,.of b,d⟩
 | fzl ys=>cases h;obtain ⟨a,vs,h1,c,b⟩:=r;exact ⟨a,vs,h1,c.sq,b⟩
 | ref n =>
  obtain ⟨a,rfl,i⟩:=r
  unfold listOf at h
  simp only [] at h
  cases e:A n with
  | none=>rw [e] at h;cases h
  | some o =>
   rw [e] at h
   cases o with
   | lst ys =>
    cases h
    obtain ⟨j,h1,vs,c,b⟩:=l.obj n _ e
    rw [i] at h1;cases h1
    exact ⟨a,vs,ϱ,.of c,b⟩
   | _=>cases h
 | _=>cases h
def Fx:A2:=λx y A Q=>match x,y with
 | .int i,.int j=>Q (.int (i+j)) A
 | .str i,.str j=>nd (i.length+j.length<=sizeLine) (Q (.str (i++j)) A)
 | .tup xs,.tup ys=>nd (xs.length≠0/\ys.length≠0/\xs.length+ys.length<=sizeLine) (Q (.tup (xs++ys)) A)
 | _,_=>False
def Eb(hK:X.K=T.K):AOp X T (binaryOp .Add) Fx :=
 λpins s σ H v w vv uu Q I rx ry ⟨ρ,A,x,y,QA,rl,rvx,rvy,q,fin⟩=>by
  cases x<;>first | (cases q;done) | skip
  all_goals (cases y<;>first | (cases q;done) | skip)
  .cases (show v=_ from rvx)
   cases (show w=_ from rvy)
   exact C6 pins s σ H _ _ vv uu Q I rx ry ⟨_,_,ϱ,ϱ,fin.here rl (x:=.int _) rfl q⟩
  .cases (show v=_ from rvx)
   cases (show w=_ from rvy)
   exact oM pins s σ H _ _ vv uu Q I rx ry ⟨_,_,ϱ,ϱ,(nd.of q).1,fin.here rl (x:=.str _) rfl (nd.of q).2⟩
  .obtain ⟨a,vs,rfl,ha,ra⟩:=rvx
   obtain ⟨b,ws,rfl,hb,rb⟩:=rvy
   obtain ⟨⟨q1,q2,q3⟩,q⟩:=nd.of q
   have n1:vs≠[]:=λz=>q1 (by have:=ra.len;rw [z] at this;exact this)
   have n2:ws≠[]:=λz=>q2 (by have:=rb.len;rw [z] at this;exact this)
   exact y9 pins s σ H _ _ vv uu Q I rx ry ⟨a,b,vs,ws,ϱ,ϱ,.of ha,.of hb,n1,by rw [← ra.len,← rb.len];exact q3,λz=>absurd z n2,λ_ c hc=>fin.tup rl hc (ra.app rb) q⟩
noncomputable def eqX(x y:AV)(A:AH):Option Bool:=match listOf x A,listOf y A with
 | some xs,some ys=>ce (eqN 8) xs ys
 | _,_=>eqN 8 x y
def pEq(neg:Bool):A2:=λx y A Q=>ok (eqX x y A) λb=>Q (.bl (xor neg b)) A
theorem Dg{ρ:Rho}{H:Hp}{K:Þ}{a b:ã}{us vs:Ú V}{xs ys:Ú AV}{r:Bool}(ha:SqL K H a us)(hb:SqL K H b vs)(px:RVs T ρ H xs us)(py:RVs T ρ H ys vs)(h:ce (eqN 8) xs ys=some r) :
  l8 K 10 H (.ref a) (.ref b) r/\n6 K 10 H (.ref a) (.ref b) r:=by
 have l:∀(P:ä) (w:â) (A:à) (s:å) (u v:ß),A.units+10<cLine->HOk P w H s.heap->K.In s.heap->RelV (.ref a) u->RelV (.ref b) v->SeqAt.RcAt A s u v r/\SeqAt.RcNeAt A s u v (!r):=by
  intro P w A s u v hA n o r1 r2
  cases r1
  cases r2
  obtain ⟨i,Q,D,_⟩:=qe n o ha
  obtain ⟨p,S,F,_⟩:=qe n o hb
  have l1:=Q.length
  have l2:=S.length
  have m1:=px.len
  have m2:=py.len
  have m:=i0 h
  by_cases hl:i.length=p.length
  .have d:∀j (h1:j<i.toArray.size) (z:j<p.toArray.size),SeqAt.EqAt A.in1 s i.toArray[j] p.toArray[j] (eAt (eqN 8) xs ys j):=λj h1 z=>by
    have G:j<i.length:=by simpa using h1
    have I:j<p.length:=by simpa using z
    have e1:us[j]?=some us[j]:=ξ (by lia)
    have e2:vs[j]?=some vs[j]:=ξ (by lia)
    obtain ⟨u,U,ru⟩:=Q.get e1
    obtain ⟨v,ev,rv⟩:=S.get e2
    obtain ⟨x,X,rx⟩:=px.get2 e1
    obtain ⟨y,Y,ry⟩:=py.get2 e2
    obtain ⟨c,Z⟩:=lD h j x y X Y
    have q:=(pC K 8 x y _ _ c rx ry Z).1 P w A.in1 s u v (by show A.units+1+9<cLine;lia) n o ru rv
    have z1:i.toArray[j]=u:=by
     rw [ξ G] at U
     simpa using Option.some.inj U
    have z2:p.toArray[j]=v:=by
     rw [ξ I] at ev
     simpa using Option.some.inj ev
    have:eAt (eqN 8) xs ys j=c:=by simp [eAt,X,Y,Z]
    rw [z1,z2,this]
    exact q
   have ez:(List.range i.toArray.size).all (eAt (eqN 8) xs ys)=r:=by
    rw [← m,List.size_toArray,show xs.length=i.length by lia,show ys.length=i.length by lia,Nat.min_self];simp
   constructor
   .have q:=SeqAt.RcAt.lists (A:=A) (s:=s) D.isList F.isList (by simpa using hl) (by lia) d
    rw [ez] at q
    exact q
   .have q:=SeqAt.RcNeAt.lists (A:=A) (s:=s) D.isList F.isList (by simpa using hl) (by lia) d
    rw [ez] at q
    exact q
  .have C:(i.toArray.size != p.toArray.size)=true:=by simpa using hl
   have e:r=false:=by
    rw [← m,show (xs.length==ys.length)=false from beq_eq_false_iff_ne.mpr (by lia)];simp
   rw [e]
   exact ⟨SeqAt.RcAt.lists_lengths D.isList F.isList C (by lia),SeqAt.RcNeAt.lists_lengths D.isList F.isList C (by lia)⟩
 exact ⟨λP w A s u v h1 z L N O=>(l P w A s u v h1 z L N O).1,λP w A s u v h1 z L N O=>(l P w A s u v h1 z L N O).2⟩
theorem wv{ρ:Rho}{A:AH}{H:Hp}(l:Rl T ρ A H){x y:AV}{v w:V}{b:Bool}(d:RV T ρ H x v)(e:RV T ρ H y w)(h:eqX x y A=some b):l8 T.K 10 H v w b/\n6 T.K 10 H v w b:=by
 have c:eqN 8 x y=some b->l8 T.K 10 H v w b/\n6 T.K 10 H v w b:=λh =>
  have q:=(pC T.K 8 x y v w b d e h).2
  ⟨λP w A s u v h0=>q.1 P w A s u v (by lia),λP w A s u v h0=>q.2 P w A s u v (by lia)⟩
 unfold eqX at h
 cases e1:listOf x A with
 | none=>rw [e1] at h;exact c h
 | some xs =>
  cases e2:listOf y A with
  | none=>rw [e1,e2] at h;exact c h
  | some ys =>
   rw [e1,e2] at h
   obtain ⟨a,us,rfl,i,j⟩:=aN l d e1
   obtain ⟨b,o,rfl,m,n⟩:=aN l e e2
   exact Dg i m j n h
def GB(hK:X.K=T.K)(hu:X.A.units+10<cLine):AOp X T (compareOp .Eq) (pEq false) :=
 λpins s σ H v w vv uu Q I rx ry ⟨ρ,A,x,y,QA,rl,rvx,rvy,q,fin⟩=>by
  obtain ⟨b,e,q⟩:=q.of
  exact (wv rl rvx rvy e).1 X.prog X.w X.A s vv uu hu I.hok (hK▸I.kIn) rx ry X.prog X.w X.xe _ ⟨.bl b,H,I,ϱ,fin.here rl (x:=.bl b) rfl (by rw [Ŝ] at q;exact q)⟩
def Gu(hK:X.K=T.K)(hu:X.A.units+10<cLine):AOp X T (compareOp .NotEq) (pEq true) :=
 λpins s σ H v w vv uu Q I rx ry ⟨ρ,A,x,y,QA,rl,rvx,rvy,q,fin⟩=>by
  obtain ⟨b,e,q⟩:=q.of
  exact (wv rl rvx rvy e).2 X.prog X.w X.A s vv uu hu I.hok (hK▸I.kIn) rx ry X.prog X.w X.xe _ ⟨.bl (!b),H,I,ϱ,fin.here rl (x:=.bl (!b)) rfl (by rw [Ĝ] at q;exact q)⟩
def iQ:AV->Bool
 | .non=>true
 | _=>false
def mU(r:RV T ρ H x v)(a:∀k xs,x≠.clo k xs):decide (v=.non)=iQ x:=by
 cases x<;>first
  | (cases (show v=_ from r);simp [iQ];done)
  | (obtain ⟨_,_,_,rfl,_⟩:=r;simp [iQ];done)
  | (obtain ⟨_,_,rfl,_⟩:=r;simp [iQ];done)
  | (obtain ⟨_,rfl,_⟩:=r;simp [iQ];done)
  | exact absurd rfl (a _ _)
end
section
variable {κ:Type} [DecidableEq κ]
noncomputable def glk:Ú κ->Ú AV->κ->Option AV
 | k::ks,x::xs,f=>if k=f then some x else glk ks xs f
 | _,_,_=>none
noncomputable def cb:Ú κ->Ú AV->κ->AV->Ú κ×Ú AV
 | k::ks,x::xs,f,y=>if k=f then (k::ks,y::xs) else let r:=cb ks xs f y;(k::r.1,x::r.2)
 | ks,xs,f,y=>(ks++[f],xs++[y])
noncomputable def dF:Ú κ->Ú AV->κ->Ú κ×Ú AV
 | k::ks,x::xs,f=>if k=f then dF ks xs f else let r:=dF ks xs f;(k::r.1,x::r.2)
 | _,_,_=>([],[])
variable {T:Tab}{ρ:Rho}{H:Hp}
theorem fW:∀{fs:Ú κ} {xs:Ú AV} {f:κ} {y:AV},glk fs xs f=some y->y∈xs
 | [],_,_,_,h=>by simp [glk] at h
 | k::ks,[],_,_,h=>by simp [glk] at h
 | k::ks,x::xs,f,y,h=>by
  unfold glk at h
  split at h
  .cases h;exact Ω
  .exact Θ _ (fW h)
theorem dO:∀{ks:Ú κ} {xs:Ú AV} {vs:Ú V} {k:κ},ks.length=xs.length->RVs T ρ H xs vs->(glk ks xs k=none->bC (ks.zip vs) k=none)/\∀y,glk ks xs k=some y->∃w,bC (ks.zip vs) k=some w/\RV T ρ H y w
 | [],[],_,k,_,h=>by cases (show _=[] from h);exact ⟨λ_=>rfl,λy e=>by cases e⟩
 | a::ks,x::xs,_,k,hl,⟨v,ws,e,h1,h2⟩=>by
  subst e
  obtain ⟨i1,i2⟩:=dO (k:=k) (by simpa using hl) h2
  unfold glk
  by_cases z:a=k
  .subst z
   simp only [if_true]
   exact ⟨(λe=>nomatch e),λy e=>by cases e;exact ⟨v,dY rfl,h1.2⟩⟩
  .simp only [if_neg z,List.zip_cons_cons]
   rw [dZ (show ¬(a,v).1=k from z)]
   exact ⟨i1,i2⟩
def sE{κ:Type} [DecidableEq κ](a k:κ)(v w:V)(r:Ú (κ×V))(z:¬a=k):bE ((a,v)::r) k w=(a,v)::bE r k w:=by
 unfold bE
 simp only [List.any_cons,decide_eq_false z,Bool.false_or]
 split
 .simp [z]
 .rfl
def sD{κ:Type} [DecidableEq κ](k:κ)(v w:V)(r:Ú (κ×V))(nd:k∉r.map (·.1)):bE ((k,v)::r) k w=(k,w)::r:=by
 unfold bE
 simp only [List.any_cons,decide_true,Bool.true_or,if_true,List.map_cons]
 congr 1
 conv=>rhs;rw [← List.map_id r]
 refine List.map_congr_left λp hp=>?_
 rw [Ž (λe:p.1=k=>nd (ϑ.mpr ⟨p,hp,e⟩))];rfl
theorem gQ:∀{ks:Ú κ} {xs:Ú AV} {vs:Ú V} {k:κ} {y:AV} {w:V},ks.Nodup->ks.length=xs.length->RVs T ρ H xs vs->(aT y=false/\RV T ρ H y w) ->
  ∃vs',bE (ks.zip vs) k w=(cb ks xs k y).1.zip vs'/\RVs T ρ H (cb ks xs k y).2 vs'/\(cb ks xs k y).1.length=(cb ks xs k y).2.length
 | [],[],_,k,y,w,_,_,h,hy=>by cases (show _=[] from h);exact ⟨[w],rfl,⟨w,[],rfl,hy,rfl⟩,rfl⟩
 | a::ks,x::xs,_,k,y,w,nd,hl,⟨v,ws,e,h1,h2⟩,hy=>by
  subst e
  obtain ⟨n1,n2⟩:=ŝ.mp nd
  obtain ⟨vs',e1,e2,e3⟩:=gQ (k:=k) n2 (by simpa using hl) h2 hy
  unfold cb
  by_cases z:a=k
  .subst z
   simp only [if_true]
   refine ⟨w::ws,?_,⟨w,ws,ϱ,hy,h2⟩,by simpa using hl⟩
   rw [ş,sD _ _ _ _ (λq=>n1 ?_),ş]
   obtain ⟨p,hp,rfl⟩:=ϑ.mp q
   exact (List.of_mem_zip hp).1
  .simp only [if_neg z]
   refine ⟨v::vs',?_,⟨v,vs',ϱ,h1,e2⟩,by simp [e3]⟩
   rw [ş,sE _ _ _ _ _ z,e1,ş]
theorem iW:∀{ks:Ú κ} {xs:Ú AV} {vs:Ú V} {k:κ},ks.length=xs.length->RVs T ρ H xs vs ->
  ∃vs',bO (ks.zip vs) k=(dF ks xs k).1.zip vs'/\RVs T ρ H (dF ks xs k).2 vs'/\(dF ks xs k).1.length=(dF ks xs k).2.length
 | [],[],_,k,_,h=>by cases (show _=[] from h);exact ⟨[],rfl,rfl,rfl⟩
 | a::ks,x::xs,_,k,hl,⟨v,ws,e,h1,h2⟩=>by
  subst e
  obtain ⟨vs',e1,e2,e3⟩:=iW (k:=k) (by simpa using hl) h2
  unfold dF
  by_cases z:a=k
  .simp only [if_pos z]
   refine ⟨vs',?_,e2,e3⟩
   rw [ş]
   unfold bO at e1 ⊢
   rw [List.filter_cons_of_neg (by simp [z]),e1]
  .simp only [if_neg z]
   refine ⟨v::vs',?_,⟨v,vs',ϱ,h1,e2⟩,by simp [e3]⟩
   rw [ş,ş]
   unfold bO at e1 ⊢
   rw [List.filter_cons_of_pos (by simp [z]),e1]
end
noncomputable def toK:AV->Option Key
 | .int i=>some (.inl i)
 | .str x=>some (.inr x)
 | _=>none
noncomputable def uz:Ú AV->Option (List Key)
 | []=>some []
 | x::xs=>match toK x,uz xs with
  | some k,some ks=>some (k::ks)
  | _,_=>none
noncomputable def kj:AV->Option (List Key)
 | .tup xs=>uz xs
 | _=>none
inductive Dc where
 | k (ks:List Key) (xs:Ú AV) | t (ks:Ú (List Key)) (xs:Ú AV)
noncomputable def bB(x:AV)(A:AH):Option Dc:=match x with
 | .frK ks xs=>some (.k ks xs)
 | .frT ks xs=>some (.t ks xs)
 | .ref n=>match A n with
  | some (.dK ks xs)=>some (.k ks xs)
  | some (.dT ks xs)=>some (.t ks xs)
  | _=>none
 | _=>none
noncomputable def Dc.get(d:Dc)(y:AV):Option (Option AV):=match d with
 | .k ks xs=>(toK y).map (glk ks xs)
 | .t ks xs=>(kj y).map (glk ks xs)
def DcAt(T:Tab)(ρ:Rho)(H:Hp)(a:ã):Dc->Prop
 | .k ks xs=>∃vs,H a=some (.dK (ks.zip vs))/\ks.length=xs.length/\RVs T ρ H xs vs
 | .t ks xs=>∃vs,H a=some (.dT (ks.zip vs))/\ks.length=xs.length/\RVs T ρ H xs vs
section
variable {T:Tab}{ρ:Rho}{A:AH}{H:Hp}
def hV(r:RV T ρ H y w)(h:toK y=some k):w=kV k:=by
 cases y<;>first | (cases h;done) | skip
 .cases h;exact r
 .cases h;exact r
theorem pZ:∀{xs:Ú AV} {vs:Ú V} {ks:List Key},RVs T ρ H xs vs->uz xs=some ks->vs=ks.map kV
 | [],_,_,h,e=>by cases (show _=[] from h);cases e;rfl
 | x::xs,_,ks,⟨v,ws,e0,h1,h2⟩,e=>by
  subst e0
  unfold uz at e
  cases e1:toK x with
  | none=>rw [e1] at e;cases e
  | some k =>
   cases e2:uz xs with
   | none=>rw [e1,e2] at e;cases e
   | some r =>
    rw [e1,e2] at e
    cases e
    rw [hV h1.2 e1,pZ h2 e2];rfl
def gK(r:RV T ρ H y w)(h:kj y=some k):∃b,w=.ref b/\H b=some (.tup (k.map kV)):=by
 cases y<;>first | (cases h;done) | skip
 obtain ⟨a,d,rfl,h1,c⟩:=r
 exact ⟨a,ϱ,by rw [h1,pZ c h]⟩
def cS(l:Rl T ρ A H)(r:RV T ρ H x v)(h:bB x A=some d):∃a,v=.ref a/\DcAt T ρ H a d:=by
 cases x with
 | frK ks xs=>cases h;obtain ⟨a,c,h1,b,i,j,m⟩:=r;exact ⟨a,h1,c,i,j,m⟩
 | frT ks xs=>cases h;obtain ⟨a,c,h1,b,i,j,m⟩:=r;exact ⟨a,h1,c,i,j,m⟩
 | ref n =>
  obtain ⟨a,rfl,p⟩:=r
  unfold bB at h
  simp only [] at h
  cases e:A n with
  | none=>rw [e] at h;cases h
  | some o =>
   rw [e] at h
   obtain ⟨q,h1,b⟩:=l.obj n _ e
   rw [p] at h1;cases h1
   cases o with
   | dK ks xs=>cases h;exact ⟨a,rfl,b⟩
   | dT ks xs=>cases h;exact ⟨a,rfl,b⟩
   | _=>cases h
 | _=>cases h
def RO(T:Tab)(ρ:Rho)(H:Hp):Option AV->Option V->Prop
 | some y,w=>∃u,w=some u/\(aT y=false/\RV T ρ H y u)
 | none,w=>w=none
def DcAt.get(h:DcAt T ρ H a d)(r:RV T ρ H y w)(e:d.get y=some o):∃ov,DGet H a w ov/\RO T ρ H o ov:=by
 have m:∀{κ:Type} [DecidableEq κ] {c:Ú κ} {i:Ú AV} {l:Ú V} {k:κ},c.length=i.length->RVs T ρ H i l->glk c i k=o->RO T ρ H o (bC (c.zip l) k):=by
  intro κ _ c i l k F x v
  obtain ⟨z,C⟩:=dO (k:=k) F x
  cases o with
  | none=>exact z v
  | some y=>obtain ⟨u,h1,j⟩:=C y v;exact ⟨u,h1,x.nf _ (fW v),j⟩
 cases d with
 | k c i =>
  obtain ⟨l,h1,j,n⟩:=h
  obtain ⟨k,p,q⟩:=ſ.mp (show (toK y).map (glk c i)=some o from e)
  rw [hV r p]
  exact ⟨_,.k h1,m j n q⟩
 | t c i =>
  obtain ⟨l,h1,j,n⟩:=h
  obtain ⟨k,p,q⟩:=ſ.mp (show (kj y).map (glk c i)=some o from e)
  obtain ⟨b,rfl,D⟩:=gK r p
  exact ⟨_,.t h1 D,m j n q⟩
end
noncomputable def ixA(xs:Ú AV):Int->Option AV
 | .ofNat n=>xs[n]?
 | .negSucc n=>if n<xs.length then xs[xs.length-(n+1)]? else none
theorem v5(xs:Ú AV)(i:Int):ixA xs i=atI xs i:=by
 unfold ixA atI ixN
 cases i with
 | ofNat n =>
  have h:(0:Int)<=Int.ofNat n:=Int.natCast_nonneg n
  rw [Ż h]
  by_cases h2:n<xs.length
  .rw [Ż (show Int.ofNat n<(xs.length:Int) from Int.ofNat_lt.mpr h2)];rfl
  .rw [if_neg (show ¬Int.ofNat n<(xs.length:Int) from λz=>h2 (Int.ofNat_lt.mp z))];simp only [];rw [List.getElem?_eq_none (by lia)];rfl
 | negSucc n =>
  rw [Ž (show ¬(0:Int)<=Int.negSucc n by lia)]
  by_cases h2:n<xs.length
  .rw [Ż (show -(xs.length:Int)<=Int.negSucc n by lia)]
   simp only [if_pos h2,Option.bind_some]
   congr 1
   lia
  .rw [if_neg (show ¬-(xs.length:Int)<=Int.negSucc n by lia)];simp only [if_neg h2];rfl
noncomputable def ixL(x y:AV)(A:AH):Option AV:=match bB x A with
 | some d=>(d.get y).join
 | none=>match listOf x A,y with
  | some xs,.int i=>ixA xs i
  | _,_=>none
noncomputable def ixV(x y:AV)(A:AH):Option AV:=match x,y with
 | .tup xs,.int i=>ixA xs i
 | .str z,.int i=>if z.length<=sizeLine then (atI z.cps.toList i).map λc=>.str ⟨#[c]⟩ else none
 | _,_=>ixL x y A
def pIx:A2:=λx y A Q=>ok (ixV x y A) λz=>Q z A
section
variable {X:Cx}{T:Tab}{ρ:Rho}{A:AH}{H:Hp}
def w9(r:RVs T ρ H xs vs)(h:atI xs i=some z):∃w,atI vs i=some w/\aT z=false/\RV T ρ H z w:=by
 unfold atI at h ⊢
 rw [← r.len]
 cases e:ixN xs.length i with
 | none=>rw [e] at h;cases h
 | some j=>rw [e] at h;obtain ⟨w,h1,a⟩:=r.get h;exact ⟨w,h1,r.nf _ (Ÿ h),a⟩
def Fc:R2:=λx y H Q=>∃a u,x=.ref a/\DGet H a y (some u)/\Q u H
def zA(r:X.A.units+1<cLine):IxR X Fc:=by
 intro d i j s σ H x y v u Q I n o h p
 obtain ⟨a,w,rfl,g,q⟩:=h
 cases n
 have c:IsD H a:=by
  rcases id g with ⟨kvs,k,e,_⟩ | ⟨kvs,k,b,e,_⟩
  .exact .inl ⟨kvs,e⟩
  .exact .inr ⟨kvs,e⟩
 exact tail_any (v7 I c).1 PySem.F.slot_dict_getitem.lookup (tT r I g o λz C l m=>⟨w,H,l,m,q⟩) p
def pd(j:Rl T ρ A H)(c:RV T ρ H x v)(i:RV T ρ H y w)(e:ixL x y A=some z)(q:QA z A)(fin:Fin T ρ H QA Q):rIx T.K v w H Q\/Fc v w H Q:=by
 unfold ixL at e
 cases e1:bB x A with
 | some d =>
  rw [e1] at e
  obtain ⟨a,rfl,n⟩:=cS j c e1
  have b:d.get y=some (some z):=by
   cases h:d.get y with
   | none=>simp [h] at e
   | some o=>simp [h] at e;rw [e]
  obtain ⟨D,g,u,rfl,l,m⟩:=n.get i b
  exact .inr ⟨a,u,ϱ,g,fin.here j m q l⟩
 | none =>
  rw [e1] at e
  cases b:listOf x A with
  | none=>rw [b] at e;cases e
  | some xs =>
   rw [b] at e
   cases y<;>first | (cases e;done) | skip
   cases (show w=_ from i)
   obtain ⟨a,p,rfl,h1,r⟩:=aN j c b
   obtain ⟨u,C,l,m⟩:=w9 r ((v5 _ _).symm.trans e)
   exact .inl (.inl ⟨a,p,_,u,ϱ,ϱ,h1,C,fin.here j m q l⟩)
theorem GD(hK:X.K=T.K)(hu:X.A.units+1<cLine):AIx X T pIx :=
 λvalue slice pins s σ H v w vv uu Q I rx ry ⟨ρ,A,x,y,QA,rl,rvx,rvy,q0,fin⟩ hs=>by
  obtain ⟨z,e,q⟩:=q0.of
  clear q0
  refine ((Do (X:=X)).or (zA hu)) value slice pins s σ H v w vv uu Q I rx ry ?_ hs
  rw [hK]
  cases x with
  | tup xs =>
   cases y with
   | int i =>
    cases (show w=_ from rvy)
    obtain ⟨a,vs,rfl,h1,h2⟩:=rvx
    obtain ⟨u,eu,fu,ru⟩:=w9 h2 ((v5 _ _).symm.trans (show ixA xs i=some z from e))
    exact .inl (.inr (.inl ⟨a,vs,i,u,ϱ,ϱ,.of h1,eu,fin.here rl ru q fu⟩))
   | _=>exact pd rl rvx rvy e q fin
  | str x =>
   cases y with
   | int i =>
    cases (show w=_ from rvy)
    cases (show v=_ from rvx)
    have e:(if x.length<=sizeLine then (atI x.cps.toList i).map (λc=>AV.str ⟨#[c]⟩) else none)=some z:=e
    split at e
    .rename_i hz
     obtain ⟨c,e1,rfl⟩:=ſ.mp e
     exact .inl (.inr (.inr ⟨x,i,c,ϱ,ϱ,hz,e1,fin.here rl (x:=.str _) rfl q⟩))
    .cases e
   | _=>exact pd rl rvx rvy e q fin
  | _=>exact pd rl rvx rvy e q fin
noncomputable def cx(x:AV):Ú AV->Option Bool
 | []=>some false
 | y::ys=>match eqN 8 y x,cx x ys with
  | some a,some b=>some (a||b)
  | _,_=>none
noncomputable def dA(x:AV)(A:AH):Option (Ú AV):=match x with
 | .tup xs=>some xs
 | _=>listOf x A
def eE(l:Rl T ρ A H)(r:RV T ρ H x v)(h:dA x A=some xs):∃a vs,v=.ref a/\(SqL T.K H a vs\/SqT T.K H a vs)/\RVs T ρ H xs vs:=by
 unfold dA at h
 split at h
 .cases h
  obtain ⟨a,vs,h1,b,c⟩:=r
  exact ⟨a,vs,h1,.inr (.of b),c⟩
 .obtain ⟨a,vs,h1,b,c⟩:=aN l r h
  exact ⟨a,vs,h1,.inl b,c⟩
noncomputable def inV(x y:AV)(A:AH):Option Bool:=match bB y A with
 | some d=>(d.get x).map (·.isSome)
 | none=>match dA y A with
  | some ys=>cx x ys
  | none=>none
def pIn(neg:Bool):A2:=λx y A Q=>ok (inV x y A) λb=>Q (.bl (xor neg b)) A
theorem iZ{f:AV->AV->Option Bool}(hf:∀y y' x v c c',RV T ρ H y v->RV T ρ H y' v->f y x=some c->f y' x=some c'->c=c'):∀{xs xs' ys:Ú AV} {vs:Ú V} {b b':Bool},RVs T ρ H xs vs->RVs T ρ H xs' vs->ce f xs ys=some b->ce f xs' ys=some b'->b=b'
 | [],[],ys,_,_,_,_,_,h,h'=>Δ (h.symm.trans h')
 | [],x::xs,ys,_,_,_,h1,⟨v,ws,e,_⟩,h,h'=>by cases (show _=[] from h1);cases e
 | x::xs,[],ys,_,_,_,⟨v,ws,e,_⟩,h1,h,h'=>by cases (show _=[] from h1);cases e
 | x::xs,x'::xs',[],_,_,_,_,_,h,h'=>by cases h;cases h';rfl
 | x::xs,x'::xs',y::ys,_,b,b',⟨v,ws,e,h1,h2⟩,⟨v',ws',e',h1',h2'⟩,h,h'=>by
  subst e
  cases e'
  unfold ce at h h'
  cases e1:f x y with
  | none=>rw [e1] at h;cases h
  | some a =>
   cases e2:ce f xs ys with
   | none=>rw [e1,e2] at h;cases h
   | some c =>
    cases e3:f x' y with
    | none=>rw [e3] at h';cases h'
    | some a' =>
     cases e4:ce f xs' ys with
     | none=>rw [e3,e4] at h';cases h'
     | some c' =>
      rw [e1,e2] at h
      rw [e3,e4] at h'
      cases h
      cases h'
      rw [hf x x' y v a a' h1.2 h1'.2 e1 e3,iZ hf h2 h2' e2 e4]
noncomputable def fl1:AV->Option V
 | .non=>some .non
 | .bl b=>some (.bl b)
 | .int i=>some (.int i)
 | .str x=>some (.str x)
 | _=>none
def wy(e:eqN k y x=some c):(∃u,fl1 y=some u)\/∃xs,y=.tup xs:=by
 cases y<;>first | exact .inl ⟨_,ϱ⟩ | exact .inr ⟨_,ϱ⟩ | (unfold eqN at e;cases e)
def lu(h:fl1 y=some u)(r:RV T ρ H y v):v=u:=by
 cases y<;>first | (cases h;exact r) | cases h
def zR(h:fl1 y=some u)(h':fl1 y'=some u):y=y':=by
 cases y<;>first | (cases h;cases y'<;>first | (cases h';rfl) | cases h') | cases h
def qQ(h:fl1 y=some (.ref a)):False:=by cases y<;>cases h
def qj(h:RV T ρ H y v)(h':RV T ρ H y' v)(e:eqN k y x=some c)(b:eqN k y' x=some c'):y=y'\/∃xs xs',y=.tup xs/\y'=.tup xs':=by
 rcases wy e with ⟨u,z⟩ | ⟨xs,rfl⟩<;>rcases wy b with ⟨u',z'⟩ | ⟨xs',rfl⟩
 .cases lu z h;cases lu z' h';exact .inl (zR z z')
 .obtain ⟨a,_,rfl,_⟩:=h';cases lu z h;exact (qQ z).elim
 .obtain ⟨a,_,rfl,_⟩:=h;cases lu z' h';exact (qQ z').elim
 .exact .inr ⟨_,_,ϱ,ϱ⟩
def tO:∀(k:Nat) (y y' x:AV) (v:V) (c d:Bool),RV T ρ H y v->RV T ρ H y' v->eqN k y x=some c->eqN k y' x=some d->c=d:=by
 intro k
 induction k with
 | zero =>
  intro y y' x v c d h j e b
  rcases qj h j e b with rfl | ⟨xs,xs',rfl,rfl⟩
  .exact Δ (e.symm.trans b)
  .cases x<;>cases e<;>cases b;rfl
 | succ k ih =>
  intro y y' x v c d h j e b
  rcases qj h j e b with rfl | ⟨xs,xs',rfl,rfl⟩
  .exact Δ (e.symm.trans b)
  .cases x<;>first | (cases e;done) | (cases e;cases b;rfl) | skip
   obtain ⟨a,p,rfl,l,m⟩:=h
   obtain ⟨q,n,z,i,o⟩:=j
   cases z
   rw [l] at i
   cases i
   simp only [eqN] at e b
   exact iZ (λy y' x v c d=>ih y y' x v c d) m o e b
noncomputable def eqW(T:Tab)(ρ:Rho)(H:Hp)(x:AV)(ys:Ú AV)(u:ß):Bool:=@decide (∃y w,y∈ys/\RelV w u/\RV T ρ H y w/\eqN 8 y x=some true) (Classical.propDecidable _)
theorem qD:∀{ys:Ú AV} {b:Bool},cx x ys=some b->(∀y∈ys,∃c,eqN 8 y x=some c)/\(b=true↔∃y∈ys,eqN 8 y x=some true)
 | [],_,h=>by cases h;simp
 | y::ys,b,h=>by
  unfold cx at h
  cases e1:eqN 8 y x with
  | none=>rw [e1] at h;cases h
  | some a =>
   cases e2:cx x ys with
   | none=>rw [e1,e2] at h;cases h
   | some c =>
    rw [e1,e2] at h
    cases h
    obtain ⟨i1,i2⟩:=qD e2
    refine ⟨λz hz=>?_,?_⟩
    .rcases ϕ.mp hz with rfl | hz
     .exact ⟨a,e1⟩
     .exact i1 z hz
    .simp only [Bool.or_eq_true,i2,List.mem_cons,exists_eq_or_imp,e1,Option.some.injEq]
def lB(hB:B.units+9<cLine)(I:HOk P w H s.heap)(L:T.K.In s.heap)(rx:RV T ρ H x xv)(N:RelV xv xu)(O:RVs T ρ H ys vs)(Q:Vals vs its)
  (h:cx x ys=some b):its.any (eqW T ρ H x ys)=b/\∀u∈its,SeqAt.EqAt B s u xu (eqW T ρ H x ys u):=by
 obtain ⟨S,U⟩:=qD h
 have one:∀(j:Nat) (y:AV) (u:ß),ys[j]?=some y->its[j]?=some u->SeqAt.EqAt B s u xu (eqW T ρ H x ys u)/\(eqW T ρ H x ys u=true↔eqN 8 y x=some true):=by
  intro j y u i l
  obtain ⟨v,X,C⟩:=O.get i
  obtain ⟨u',o,D⟩:=Q.get X
  rw [l] at o;cases o
  obtain ⟨c,n⟩:=S y (Ÿ i)
  have q:=(pC T.K 8 y x v xv c C rx n).1 P w B s u xu hB I L D N
  have e:(∃p F,p∈ys/\RelV F u/\RV T ρ H p F/\eqN 8 p x=some true)↔eqN 8 y x=some true:=by
   constructor
   .rintro ⟨p,F,hm,Z,G,m⟩
    cases D.inj Z
    rw [n,tO 8 y p x v c true C G n m]
   .exact λm=>⟨y,v,Ÿ i,D,C,m⟩
  have Y:eqW T ρ H x ys u=c:=by
   unfold eqW
   cases c with
   | true=>exact @decide_eq_true _ (Classical.propDecidable _) (e.mpr n)
   | false=>exact @decide_eq_false _ (Classical.propDecidable _) λz=>by have:=e.mp z;rw [n] at this;cases this
  rw [Y]
  exact ⟨q,by rw [n];simp⟩
 refine ⟨?_,λu l=>?_⟩
 .have r:ys.length=its.length:=O.len.trans Q.length
  rw [Ģ,Ţ,U]
  constructor
  .rintro ⟨u,l,m⟩
   obtain ⟨j,d⟩:=ķ l
   have a:j<ys.length:=by rw [r];exact (ž.mp d).1
   have i:ys[j]?=some ys[j]:=ξ a
   exact ⟨ys[j],Ī a,(one j _ u i d).2.mp m⟩
  .rintro ⟨y,i,m⟩
   obtain ⟨j,d⟩:=ķ i
   have a:j<its.length:=by rw [← r];exact (ž.mp d).1
   have l:its[j]?=some its[j]:=ξ a
   exact ⟨its[j],Ī a,(one j y _ d l).2.mpr m⟩
 .have r:ys.length=its.length:=O.len.trans Q.length
  obtain ⟨j,d⟩:=ķ l
  have a:j<ys.length:=by rw [r];exact (ž.mp d).1
  exact (one j _ u (ξ a) d).1
def RO.some_eq(r:RO T ρ H o ov):ov.isSome=o.isSome:=by
 cases o with
 | none=>rw [show ov=none from r];rfl
 | some y=>obtain ⟨u,rfl,_⟩:=r;rfl
theorem Gy(hK:X.K=T.K)(hu:X.A.units+11<cLine):AOp X T (compareOp .In) (pIn false) :=
 λpins s σ H v w vv uu Q I rx ry ⟨ρ,A,x,y,QA,rl,rvx,rvy,q,fin⟩=>by
  obtain ⟨b,e,q1⟩:=q.of
  rw [Ŝ] at q1
  have kin:T.K.In s.heap:=hK▸I.kIn
  unfold inV at e
  cases e1:bB y A with
  | some d =>
   rw [e1] at e
   obtain ⟨a,rfl,hd⟩:=cS rl rvy e1
   cases ry
   obtain ⟨o,e2,rfl⟩:=ſ.mp e
   obtain ⟨ov,g,ro⟩:=hd.get rvx e2
   exact HM (by lia) I g rx λs' I'=>⟨.bl _,H,I',ϱ,by rw [ro.some_eq];exact fin.here rl (x:=.bl _) rfl q1⟩
  | none =>
   rw [e1] at e
   cases e2:dA y A with
   | none=>rw [e2] at e;cases e
   | some ys =>
    rw [e2] at e
    obtain ⟨a,vs,rfl,hq,rv⟩:=eE rl rvy e2
    cases ry
    rcases hq with hq | hq
    .obtain ⟨its,r,pl,hz⟩:=I.list (hK▸hq)
     obtain ⟨z1,z2⟩:=lB (B:=X.A.in1) (by show X.A.units+1+9<cLine;lia) I.hok kin rvx rx rv r e
     refine SeqAt.in_listAt (eqW T ρ H x ys) pl.isList (λu hu=>z2 u (by simpa using hu)) ⟨.bl b,H,I,?_,fin.here rl (x:=.bl b) rfl q1⟩
     rw [show its.toArray.any (eqW T ρ H x ys)=its.any (eqW T ρ H x ys) by simp,z1];rfl
    .obtain ⟨its,r,pl,hz⟩:=I.tuple (hK▸hq)
     obtain ⟨z1,z2⟩:=lB (B:=X.A.in1) (by show X.A.units+1+9<cLine;lia) I.hok kin rvx rx rv r e
     refine SeqAt.in_tupleAt (eqW T ρ H x ys) pl (λu hu=>z2 u (by simpa using hu)) ⟨.bl b,H,I,?_,fin.here rl (x:=.bl b) rfl q1⟩
     rw [show its.toArray.any (eqW T ρ H x ys)=its.any (eqW T ρ H x ys) by simp,z1];rfl
theorem xm(hK:X.K=T.K)(hu:X.A.units+11<cLine):AOp X T (compareOp .NotIn) (pIn true) :=
 λpins s σ H v w vv uu Q I rx ry ⟨ρ,A,x,y,QA,rl,rvx,rvy,q,fin⟩=>by
  obtain ⟨b,e,q1⟩:=q.of
  rw [Ĝ] at q1
  have kin:T.K.In s.heap:=hK▸I.kIn
  unfold inV at e
  cases e1:bB y A with
  | some d =>
   rw [e1] at e
   obtain ⟨a,rfl,hd⟩:=cS rl rvy e1
   cases ry
   obtain ⟨o,e2,rfl⟩:=ſ.mp e
   obtain ⟨ov,g,ro⟩:=hd.get rvx e2
   exact qX (by lia) I g rx λs' I'=>⟨.bl _,H,I',ϱ,by rw [ro.some_eq];exact fin.here rl (x:=.bl _) rfl q1⟩
  | none =>
   rw [e1] at e
   cases e2:dA y A with
   | none=>rw [e2] at e;cases e
   | some ys =>
    rw [e2] at e
    obtain ⟨a,vs,rfl,hq,rv⟩:=eE rl rvy e2
    cases ry
    rcases hq with hq | hq
    .obtain ⟨its,r,pl,hz⟩:=I.list (hK▸hq)
     obtain ⟨z1,z2⟩:=lB (B:=X.A.in1) (by show X.A.units+1+9<cLine;lia) I.hok kin rvx rx rv r e
     refine SeqAt.notIn_listAt (eqW T ρ H x ys) pl.isList (λu hu=>z2 u (by simpa using hu)) ⟨.bl (!b),H,I,?_,fin.here rl (x:=.bl (!b)) rfl q1⟩
     rw [show its.toArray.any (eqW T ρ H x ys)=its.any (eqW T ρ H x ys) by simp,z1];rfl
    .obtain ⟨its,r,pl,hz⟩:=I.tuple (hK▸hq)
     obtain ⟨z1,z2⟩:=lB (B:=X.A.in1) (by show X.A.units+1+9<cLine;lia) I.hok kin rvx rx rv r e
     refine SeqAt.notIn_tupleAt (eqW T ρ H x ys) pl (λu hu=>z2 u (by simpa using hu)) ⟨.bl (!b),H,I,?_,fin.here rl (x:=.bl (!b)) rfl q1⟩
     rw [show its.toArray.any (eqW T ρ H x ys)=its.any (eqW T ρ H x ys) by simp,z1];rfl
end
section
variable {T:Tab}{ρ:Rho}{A:AH}{H:Hp}{a:ã}{o u:HO}
def BZ{P:Nm->Prop}(ha:H a=some u)(hu:LkO u):Mv T ρ H T.bs ρ (upd H a o) P False c :=
 ⟨λb w h l _=>by rw [ah (λz=>by subst z;rw [ha] at h;cases h;exact l hu)];exact h,λ_ _ _ h=>h,λ_ _ _ _ n=>n,False.elim,λ_=>rfl⟩
def RVs.upd(ha:H a=some u)(hu:LkO u)(h:RVs T ρ H xs vs):RVs T ρ (upd H a o) xs vs:=RVs.tr (BZ ha hu) h.wf h
def d7(h:m≠n):cO ρ n a m=ρ m:=Ž h
def bc:cO ρ n a n=some a:=Ż rfl
def C9(hn:ρ n=none)(ha:H a=some u)(hu:LkO u):Mv T ρ H T.bs (cO ρ n a) H (λn=>ρ n≠none) False c :=
 ⟨λ_ _ h _ _=>h,λm b p h=>by rw [d7 (λz=>by subst z;exact p hn)];exact h,λb w h l nr m z=>by
  unfold cO at z
  split at z
  .cases z;rw [ha] at h;cases h;exact l hu
  .exact nr m z,False.elim,λ_=>rfl⟩
def RVs.nam(hn:ρ n=none)(ha:H a=some u)(hu:LkO u)(h:RVs T ρ H xs vs):RVs T (cO ρ n a) H xs vs:=RVs.tr (C9 hn ha hu) h.wf h
def OM.map(k:∀u,H b=some u->H' b=some u)(x:∀c φ,H c=some (.ext φ)->H' c=some (.ext φ))(f:∀{xs vs},RVs T ρ H xs vs->RVs T ρ' H' xs vs)(h:OM T ρ H q b):OM T ρ' H' q b:=by
 cases q with
 | lst xs=>obtain ⟨vs,h1,a⟩:=h;exact ⟨vs,k _ h1,f a⟩
 | dK ks xs=>obtain ⟨vs,h1,d,a⟩:=h;exact ⟨vs,k _ h1,d,f a⟩
 | dT ks xs=>obtain ⟨vs,h1,d,a⟩:=h;exact ⟨vs,k _ h1,d,f a⟩
 | ins c fs xs=>obtain ⟨e,vs,h1,d,a⟩:=h;exact ⟨e,vs,k _ h1,d,f a⟩
 | dead=>trivial
 | tb _ p q=>exact ⟨h.1,h.2.elim (λz=>.inl (k _ z)) λ⟨c,z,y⟩=>.inr ⟨c,k _ z,x _ _ y⟩⟩
def Rl.name(l:Rl T ρ A H)(o:A n=none)(nr:NR ρ a)(d:H a=some u)(i:LkO u)(p:OM T ρ H q a):Rl T (cO ρ n a) (ac A n q) H:=by
 have j:=l.fre n o
 refine ⟨λm k b h1 c=>?_,λm b h=>?_,λm v h=>?_,λm h=>?_⟩
 .unfold cO at h1 c
  split at h1<;>split at c
  .rename_i z1 z2;rw [z1,z2]
  .cases h1;exact absurd c (nr k)
  .cases c;exact absurd h1 (nr m)
  .exact l.inj m k b h1 c
 .unfold cO at h
  split at h
  .cases h
   rw [d]
   cases u<;>first | trivial | exact i.elim
  .exact l.kd m b h
 .by_cases e:m=n
  .subst e
   rw [bI] at h;cases h
   exact ⟨a,bc,p.map (λ_ z=>z) (λ_ _ z=>z) λz=>z.nam j d i⟩
  .rw [cW e] at h
   obtain ⟨b,h1,c⟩:=l.obj m v h
   exact ⟨b,by rw [d7 e];exact h1,c.map (λ_ z=>z) (λ_ _ z=>z) λz=>z.nam j d i⟩
 .by_cases e:m=n
  .subst e;rw [bI] at h;cases h
  .rw [cW e] at h;rw [d7 e];exact l.fre m h
def Rl.updF(l:Rl T ρ A H)(nr:NR ρ a)(d:H a=some u)(e:LkO u):Rl T ρ A (upd H a o):=by
 refine ⟨l.inj,λm b h=>?_,λm v h=>?_,l.fre⟩
 .rw [ah (λz=>nr m (by rw [← z];exact h))];exact l.kd m b h
 .obtain ⟨b,h1,i⟩:=l.obj m v h
  exact ⟨b,h1,i.map (λw q=>by rw [ah (λz=>nr m (by rw [← z];exact h1))];exact q) (λc φ q=>by rw [ah (λz=>by subst z;rw [d] at q;cases q;exact e)];exact q) λz=>z.upd d e⟩
def Ext.updF(e:Ext ρ0 H0 ρ H)(h0:H0 a=none):Ext ρ0 H0 ρ (upd H a o) :=
 ⟨e.sub,e.new,λb w h n=>by rw [ah (aj h h0)];exact e.kp b w h n,λb h=>by
  by_cases z:b=a
  .subst z;exact h0
  .rw [ah z] at h;exact e.dom b h⟩
end
def st(x:AV)(A:AH)(Q:AQ):Prop:=match x with
 | .frl xs=>Q (.fzl xs) A\/∃n,A n=none/\Q (.ref n) (ac A n (.lst xs))
 | .frK ks xs=>∃n,A n=none/\Q (.ref n) (ac A n (.dK ks xs))
 | .frT ks xs=>∃n,A n=none/\Q (.ref n) (ac A n (.dT ks xs))
 | .clo _ _=>False
 | x=>Q x A
def tFz(t:TE):TE:=fun σ H Q=>t σ H λv H1=>Q v H1\/∃a xs,v=.ref a/\H1 a=some (.lst xs)/\∀o,Q v (upd H1 a (.frz o (.lst xs)))
section
variable {X:Cx}{T:Tab}{e:Û}{ta:ATE}
def Dy(I:Inv X pins σ H s)(r:RelV v u)(q:Q v H\/∃a xs,v=.ref a/\H a=some (.lst xs)/\∀o,Q v (upd H a (.frz o (.lst xs)))):EP X pins σ Q u s:=by
 rcases q with q | ⟨a,xs,rfl,h,q⟩
 .exact ⟨v,H,I,r,q⟩
 .obtain ⟨z,c,n,i,d⟩:=(show ObjOk X.prog X.w H s.heap a (.lst xs) from I.hok a _ h)
  exact ⟨_,upd H a (.frz _ (.lst xs)),I.write (x:=a) (e:=a) (o:=.frz _ (.lst xs)) (h':=s.heap) (t':=s.toks) (by rw [h];exact ϰ) (.inl rfl) (λb u _ q=>q) ⟨_,d⟩ ⟨d,z,c,n,i,d⟩,r,q _⟩
def Fm(h:PE X e t):PE X e (tFz t):=λpins s σ H Q I q =>
 thn (h pins s σ H _ I q) λu s1 ⟨v,H1,I1,r1,q1⟩=>Dy I1 r1 q1
def Ba{ρ h:Rho}{H H1:Hp}{j:AH}{x:AV}{v:V}{r:AQ}{Q:VK}(i:Ext ρ H h H1)(l:Rl T h j H1)(m:RV T h H1 x v)(fz:FrOk H x v)(q:st x j r)
  (fin:∀ρ' x v A' H',Ext ρ H ρ' H'->Rl T ρ' A' H'->RV T ρ' H' x v->aT x=false->r x A'->Q v H'):Q v H1\/∃a xs,v=.ref a/\H1 a=some (.lst xs)/\∀o,Q v (upd H1 a (.frz o (.lst xs))):=by
 cases x with
 | frl xs =>
  obtain ⟨a,d,rfl,h1,b,e⟩:=m
  have h0:=fz rfl a rfl
  rcases q with q | ⟨n,c,q⟩
  .exact .inr ⟨a,d,ϱ,b,λo=>fin h (.fzl xs) _ j _ (i.updF h0) (l.updF h1 b trivial) ⟨a,d,ϱ,.inl ⟨o,ai⟩,e.upd b trivial⟩ rfl q⟩
  .exact .inl (fin _ (.ref n) _ _ H1 (i.name (l.fre n c) h0) (l.name (q:=.lst xs) c h1 b trivial ⟨d,b,e⟩) ⟨a,ϱ,bc⟩ rfl q)
 | frK ks xs =>
  obtain ⟨a,d,rfl,h1,b,p,e⟩:=m
  obtain ⟨n,c,q⟩:=q
  exact .inl (fin _ (.ref n) _ _ H1 (i.name (l.fre n c) (fz rfl a rfl)) (l.name (q:=.dK ks xs) c h1 b trivial ⟨d,b,p,e⟩) ⟨a,ϱ,bc⟩ rfl q)
 | frT ks xs =>
  obtain ⟨a,d,rfl,h1,b,p,e⟩:=m
  obtain ⟨n,c,q⟩:=q
  exact .inl (fin _ (.ref n) _ _ H1 (i.name (l.fre n c) (fz rfl a rfl)) (l.name (q:=.dT ks xs) c h1 b trivial ⟨d,b,p,e⟩) ⟨a,ϱ,bc⟩ rfl q)
 | clo _ _=>exact q.elim
 | _=>exact .inl (fin h _ v j H1 i l m rfl q)
def aSt(ta:ATE):ATE:=fun σ A Q=>ta σ A λx A1=>st x A1 Q
def iB(he:AE X T e ta):PE X e (fun σv H Q=>∃ρ σ A QA,Rs T ρ σ A σv H/\aSt ta σ A QA/\∀ρ' x v A' H',Ext ρ H ρ' H'->Rl T ρ' A' H'->RV T ρ' H' x v->aT x=false->QA x A'->Q v H') :=
 (Fm he).imp fun σv H Q ⟨ρ,σ,A,QA,rs,h,fin⟩=>ao rs h fun ρ1 x v A1 H1 e1 rs1 rv fz q=>Ba e1 rs1.rl rv fz q fin
def jB:ATA:=λ_ A Q=>Q [] A
def BN(ta:ATE)(tr:ATA):ATA:=fun σ A Q=>ta σ A λx A1=>tr σ A1 λxs A2=>Q (x::xs) A2
def l6(ta:ATE)(tr:ATA):ATA:=fun σ A Q=>ta σ A λx A1=>st x A1 λy A2=>tr σ A2 λxs A3=>Q (y::xs) A3
def lAs(T:Tab)(t:ATA):TA:=fun σv H Q=>∃ρ σ A QA,Rs T ρ σ A σv H/\t σ A QA/\∀ρ' xs vs A' H',Ext ρ H ρ' H'->Rl T ρ' A' H'->RVs T ρ' H' xs vs->QA xs A'->Q vs H'
abbrev AAs(X:Cx)(T:Tab)(es:ï)(t:ATA):Prop:=PA X es (lAs T t)
variable {es:ï}{tr:ATA}
def EB:AA X T [] jB:=pa_nil.imp fun σv H Q ⟨ρ,σ,A,QA,rs,h,fin⟩=>fin ρ [] [] A H (Ext.refl _ _) rs.rl rfl h
def rL:AAs X T [] jB:=pa_nil.imp fun σv H Q ⟨ρ,σ,A,QA,rs,h,fin⟩=>fin ρ [] [] A H (Ext.refl _ _) rs.rl rfl h
theorem RVa.dom(e:Ext ρ0 H0 ρ1 H1):∀{xs:Ú AV} {vs:Ú V},RVa T ρ H1 H xs vs->RVa T ρ H0 H xs vs
 | [],_,h=>h
 | x::xs,_,⟨v,ws,h0,h1,h2⟩=>⟨v,ws,h0,⟨h1.1,h1.2.dom e⟩,RVa.dom e h2⟩
def AN(ha:AE X T e ta)(hr:AA X T es tr)(hs:starEach (e::es) X.env=(false,eval e X.env)::starEach es X.env):AA X T (e::es) (BN ta tr) :=
 (bu ha hr hs).imp fun σv H Q ⟨ρ,σ,A,QA,rs,h,fin⟩=>ao rs h fun ρ1 x v A1 H1 e1 rs1 rv fz q=>kY rs1 q fun ρ2 xs vs A2 H2 e2 rs2 rvs q2 =>
  fin ρ2 (x::xs) (v::vs) A2 H2 (e1.trans e2) rs2.rl ⟨v,vs,ϱ,⟨rv.ext rs1.rl.kd e2,fz⟩,rvs.dom e1⟩ q2
def nW(ha:AE X T e ta)(hr:AAs X T es tr)(hs:starEach (e::es) X.env=(false,eval e X.env)::starEach es X.env):AAs X T (e::es) (l6 ta tr) :=
 (bu (iB ha) hr hs).imp fun σv H Q ⟨ρ,σ,A,QA,rs,h,fin⟩=>⟨ρ,σ,A,_,rs,h,fun ρ1 x v A1 H1 e1 l1 rv nf q =>
  ⟨ρ1,σ,A1,_,rs.ext e1 l1,q,fun ρ2 xs vs A2 H2 e2 l2 rvs q2=>fin ρ2 (x::xs) (v::vs) A2 H2 (e1.trans e2) l2 ⟨v,vs,ϱ,⟨nf,rv.ext l1.kd e2⟩,rvs⟩ q2⟩⟩
def GH(t:ATA):ATE:=fun σ A Q=>t σ A λxs A1=>nd (xs.length<=sizeLine) (Q (.tup xs) A1)
def GM(t:ATA):ATE:=fun σ A Q=>t σ A λxs A1=>nd (xs.length<=sizeLine) (Q (.frl xs) A1)
variable {pos:Pos}
def Ei{x1}(h:AAs X T es tr):AE X T (.Tuple es x1 pos) (GH tr) :=
 (CT h).imp fun σv H Q ⟨ρ,σ,A,QA,rs,h,fin⟩=>⟨ρ,σ,A,_,rs,h,fun ρ1 xs vs A1 H1 e1 l1 rvs q =>
  ⟨by rw [← rvs.len];exact q.of.1,λp hp=>Fin.tup (Fin.after fin e1) l1 hp rvs q.of.2⟩⟩
def Em(h:AAs X T es tr):AE X T (.List es pos) (GM tr) :=
 (CY h).imp fun σv H Q ⟨ρ,σ,A,QA,rs,h,fin⟩=>⟨ρ,σ,A,_,rs,h,fun ρ1 xs vs A1 H1 e1 l1 rvs q =>
  ⟨by rw [← rvs.len];exact q.of.1,λp hp=>Fin.lst (Fin.after fin e1) l1 hp rvs q.of.2⟩⟩
def GR:ATE:=λ_ A Q=>Q (.frK [] []) A\/Q (.frT [] []) A
def ub(i:Nat)(ta:ATE):ATS:=λD σ A=>ta σ A λx A1=>st x A1 λy A2=>D.nx (σ.set i (some y)) A2
def Rs.set(r:Rs T ρ σ A σv H)(i:Nat)(nf:lg x=false)(b:RV T ρ H x v):Rs T ρ (σ.set i (some x)) A (σv.set i (some v)) H :=
 ⟨r.rl,by rw [Ĳ,Ĳ];exact r.len,λj y h=>by
  by_cases e:j=i
  .subst e
   have hl:j<σ.length:=by
    have:=(ž.mp h).1
    rwa [Ĳ] at this
   rw [İ hl] at h
   cases h
   exact ⟨v,by rw [İ (by rw [← r.len];exact hl)],nf,b⟩
  .rw [Ň (λz=>e z.symm)] at h
   obtain ⟨w,h1,a⟩:=r.at_ j y h
   exact ⟨w,by rw [Ň (λz=>e z.symm)];exact h1,a⟩⟩
def xg(hN:X.N.Nodup)(hi:X.N[i]?=some x)(hx:Loc X.env.scope x)(he:AE X T e ta)(hs:swapsWith e (some (.Name x pos')) pos.line X.env=pure false)(hf:X.fn x=true\/X.env.scope.names.lookup x=some .local) :
  AS X T (.Assign [.Name x pos'] e pos) (ub i ta) :=
 (CK hN hi hx (iB he) hs hf).imp λD σv H ⟨ρ,σ,A,DA,rs,h,d⟩=>⟨ρ,σ,A,_,rs,h,fun ρ1 y v A1 H1 e1 l1 rv nf q=>d.nx ρ1 _ A1 _ H1 e1 ((rs.ext e1 l1).set i (bw nf) rv) q⟩
end
noncomputable def atm:AV->Bool
 | .non=>true
 | .bl _=>true
 | .int _=>true
 | .str _=>true
 | _=>false
def bP(xs:Ú AV):Bool:=xs.all atm
section
variable {T:Tab}{ρ ρ':Rho}{H H':Hp}
theorem RVs.clean:∀{xs:Ú AV} {vs:Ú V},bP xs=true->RVs T ρ H xs vs->RVs T ρ' H' xs vs
 | [],_,_,h=>h
 | x::xs,_,c,⟨v,ws,h0,h1,h2⟩=>by
  obtain ⟨c1,c2⟩:=ż.mp (show (atm x&&bP xs)=true from c)
  exact ⟨v,ws,h0,⟨h1.1,by cases x<;>first | exact h1.2 | cases c1⟩,RVs.clean c2 h2⟩
theorem RVs.back(sub:∀n a,ρ n=some a->ρ' n=some a)(g:RVs T ρ H xs v0)(h:RVs T ρ' H' xs vs):RVs T ρ H' xs vs :=
 RVs.tr ⟨λ_ _ h _ _=>h,λn a p h=>by
  cases e:ρ n with
  | none=>exact absurd e p
  | some b=>rw [sub n b e] at h;cases h;rfl,λa _ _ _ nr n z=>nr n (sub n a z),False.elim,λ_=>rfl⟩ g.wf h
def OM.back(sub:∀n a,ρ n=some a->ρ' n=some a)(g:OM T ρ H q b)(h:OM T ρ' H' q a):OM T ρ H' q a:=by
 cases q with
 | lst xs=>obtain ⟨_,_,g⟩:=g;obtain ⟨vs,h1,h2⟩:=h;exact ⟨vs,h1,g.back sub h2⟩
 | dK ks xs=>obtain ⟨_,_,_,g⟩:=g;obtain ⟨vs,h1,h3,h2⟩:=h;exact ⟨vs,h1,h3,g.back sub h2⟩
 | dT ks xs=>obtain ⟨_,_,_,g⟩:=g;obtain ⟨vs,h1,h3,h2⟩:=h;exact ⟨vs,h1,h3,g.back sub h2⟩
 | ins c fs xs=>obtain ⟨_,_,_,_,g⟩:=g;obtain ⟨dx,vs,h1,h3,h2⟩:=h;exact ⟨dx,vs,h1,h3,g.back sub h2⟩
 | dead=>trivial
 | tb _ _ _=>exact h
end
abbrev ASp:=Ú AV->AH->AQ->Prop
def RVg(T:Tab)(ρ:Rho)(H:Hp):Ú AV->Ú V->Prop
 | [],vs=>vs=[]
 | x::xs,vs=>∃v ws,vs=v::ws/\(lg x=false/\RV T ρ H x v)/\RVg T ρ H xs ws
section
variable {T:Tab}{ρ:Rho}{H:Hp}
theorem RVs.g:∀{xs:Ú AV} {vs:Ú V},RVs T ρ H xs vs->RVg T ρ H xs vs
 | [],_,h=>h
 | _::_,_,⟨v,ws,h0,h1,h2⟩=>⟨v,ws,h0,⟨bw h1.1,h1.2⟩,RVs.g h2⟩
theorem RVg.len:∀{xs:Ú AV} {vs:Ú V},RVg T ρ H xs vs->xs.length=vs.length
 | [],_,h=>by cases (show _=[] from h);rfl
 | x::xs,_,⟨v,ws,h0,h1,h2⟩=>by subst h0;simp [RVg.len h2]
theorem RVg.get:∀{xs:Ú AV} {vs:Ú V} {i:Nat} {x:AV},RVg T ρ H xs vs->xs[i]?=some x->∃v,vs[i]?=some v/\lg x=false/\RV T ρ H x v
 | [],_,_,_,_,e=>by simp at e
 | x::xs,_,0,_,⟨v,us,h0,h1,h2⟩,e=>by subst h0;simp at e;subst e;exact ⟨v,rfl,h1⟩
 | x::xs,_,i+1,_,⟨v,us,h0,h1,h2⟩,e=>by subst h0;obtain ⟨w,q,r⟩:=RVg.get (i:=i) h2 (by simpa using e);exact ⟨w,by simpa using q,r⟩
theorem RVg.app:∀{xs ys:Ú AV} {vs ws:Ú V},RVg T ρ H xs vs->RVg T ρ H ys ws->RVg T ρ H (xs++ys) (vs++ws)
 | [],_,_,_,h,k=>by cases (show _=[] from h);exact k
 | x::xs,_,_,_,⟨v,us,h0,h1,h2⟩,k=>by subst h0;exact ⟨v,us++_,rfl,h1,RVg.app h2 k⟩
end
inductive lF (T:Tab) (sp:ASp) (vs:Ú V) (H:Hp) (Q:VK) (E:XK):Prop
|mk (ρ:Rho) (xs:Ú AV) (A:AH) (QA:AQ) (_:Rl T ρ A H) (_:RVg T ρ H xs vs) (_:sp xs A QA) (_:Fin T ρ H QA Q):lF T sp vs H Q E
def rO(sp:ASp)(tr:ATA):ATE:=fun σ A Q=>tr σ A λxs A1=>sp xs A1 Q
structure Fo(X:Cx)(T:Tab)(k:Nat)(f:ã)(sp:ASp):Prop where
 ex:∃fd ps,dW X.prog X.w X.K X.mg X.base CX0 k f fd ps (lF T sp)/\Binds X.K fd ps []
 kp:PySem.W.keepIn X.K (.ref f)=true
section
variable {X:Cx}{T:Tab}{e o:Û}{es:ï}{ta tb:ATE}{tr:ATA}{sp:ASp}{k:Nat}{f:ã}{x:Str}{p pos apos:Pos}
def AF(F:Fo X T k f sp)(w:Room k X.A)(y:Gl X x)(z:X.mg x=some (.ref f))(C:AAs X T (e::es) tr)(c:(x==("__debug__":Str))=false)(D:starEach (e::es) X.env=(false,eval e X.env)::starEach es X.env)(d:(backTo pos (starEach es X.env)).any (·.1)=false) :
  AE X T (.Call (.Name x p) (e::es) [] pos) (rO sp tr):=by
 obtain ⟨G,I,i,j⟩:=F.ex
 exact (yY i w y z F.kp j .nil iE C c D d).imp fun K H Q ⟨ρ,σ,A,l,m,h,a⟩=>⟨ρ,σ,A,_,m,h,fun n o L r H1 u v b q=>⟨n,o,r,l,v,by rw [ĳ];exact b.g,q,Fin.after a u⟩⟩
def xH(F:Fo X T k f sp)(j:Room k X.A)(l:Gl X x)(m:X.mg x=some (.ref f))(b:(x==("__debug__":Str))=false):AE X T (.Call (.Name x p) [] [] pos) (rO sp jB):=by
 obtain ⟨n,o,c,d⟩:=F.ex
 exact (vJ c j l m F.kp d .nil iE b).imp fun q H Q ⟨ρ,σ,A,e,i,h,a⟩=>⟨ρ,[],A,e,i.rl,ϱ,h,a⟩
noncomputable def nB(x:AV)(A:AH):Option (Nat×ñ):=match x with
 | .ref n=>match A n with
  | some (.ins c fs _)=>some (c,fs)
  | _=>none
 | .obj c fs _=>some (c,fs)
 | _=>none
theorem a5:∀{ks:ó} {vs:Ú V},m∉ks->(ks.zip vs).lookup m=none
 | [],_,_=>by simp
 | k::ks,[],_=>by simp
 | k::ks,v::vs,h=>by
  rw [ş,ė,show (m==k)=false from ū.mpr λz=>h (by rw [z];exact Ω)]
  exact a5 λz=>h (Θ _ z)
def ja{ρ:Rho}{A:AH}{H:Hp}(l:Rl T ρ A H){x:AV}{v:V}{c:Nat}{fs:ñ}(r:RV T ρ H x v)(h:nB x A=some (c,fs)):aT x=false/\∃a dx vs,v=.ref a/\H a=some (.ins (T.cl c) dx ((fs.map nm).zip vs))/\CF T c fs:=by
 cases x with
 | ref n =>
  obtain ⟨a,rfl,i⟩:=r
  unfold nB at h
  simp only [] at h
  cases e:A n with
  | none=>rw [e] at h;cases h
  | some o =>
   rw [e] at h
   cases o with
   | ins c' fs' xs =>
    cases h
    obtain ⟨m,h1,dx,vs,b,d,j⟩:=l.obj n _ e
    rw [i] at h1;cases h1
    exact ⟨ϱ,a,dx,vs,ϱ,b,d.2⟩
   | _=>cases h
 | obj c' fs' xs=>cases h;obtain ⟨a,dx,vs,rfl,h1,b,d,j⟩:=r;exact ⟨rfl,a,dx,vs,rfl,b,d.2⟩
 | _=>cases h
def j9(c:Nat)(sp:ASp)(tr:ATA):ATE:=fun σ A Q=>tr σ A λxs A1=>∃n,A1 n=none /\
 sp (.ref n::xs) (ac A1 n (.ins c [] [])) λv A2=>v=.non/\(Q (.ref n) A2\/∃fs ys,A2 n=some (.ins c fs ys)/\(∀m,m≠n->A2 m=A1 m)/\bP ys=true/\Q (.obj c fs ys) A1)
def Rl.make(l:Rl T ρ A H)(x:A n=none)(z:Cls T.K (T.cl c))(d:H y=none)(j:H dy=none)(C:dy≠y) :
  Rl T (cO ρ n y) (ac A n (.ins c [] [])) (upd (upd H dy (.own y)) y (.ins (T.cl c) dy []))/\Ext ρ H (cO ρ n y) (upd (upd H dy (.own y)) y (.ins (T.cl c) dy [])):=by
 have p:=l.fre n x
 have h1:(upd H dy (.own y)) y=none:=by rw [ah (Ne.symm C)];exact d
 have q:Ext ρ H ρ (upd (upd H dy (.own y)) y (.ins (T.cl c) dy [])):=(Ext.new1 j).trans (Ext.new1 h1)
 have r:Rl T ρ A (upd (upd H dy (.own y)) y (.ins (T.cl c) dy [])):=(l.new1 j).new1 h1
 have o:Ext ρ H (cO ρ n y) (upd (upd H dy (.own y)) y (.ins (T.cl c) dy [])):=q.name p d
 have nr:=l.nrN d
 refine ⟨⟨λm k b h1 a=>?_,λm b h=>?_,λm v h=>?_,λm h=>?_⟩,o⟩
 .unfold cO at h1 a
  split at h1<;>split at a
  .rename_i z1 z2;rw [z1,z2]
  .cases h1;exact absurd a (nr k)
  .cases a;exact absurd h1 (nr m)
  .exact l.inj m k b h1 a
 .unfold cO at h
  split at h
  .cases h;rw [ai];trivial
  .exact r.kd m b h
 .by_cases e:m=n
  .subst e
   rw [bI] at h;cases h
   exact ⟨y,bc,dy,[],by rw [ai];rfl,⟨ϱ,z,λf w=>nomatch w⟩,ϱ⟩
  .rw [cW e] at h
   obtain ⟨b,h1,a⟩:=l.obj m v h
   refine ⟨b,by rw [d7 e];exact h1,a.ext l.kd o λu i=>?_⟩
   rw [ah (aj i d),ah (aj i j)];exact i
 .by_cases e:m=n
  .subst e;rw [bI] at h;cases h
  .rw [cW e] at h;rw [d7 e];exact l.fre m h
def jH(cf:Cls T.K (T.cl c))(rs:Rs T ρ σ A σv H)(h:j9 c sp tr σ A QA)(fin:Fin T ρ H QA Q):uE (T.cl c) (lF T sp) [] E (lAs T tr) σv H Q:=by
 refine ⟨ρ,σ,A,_,rs,h,fun i xs vs N H1 X j O q y dy Y hd ne=>?_⟩
 obtain ⟨n,D,q⟩:=q
 obtain ⟨l2,U⟩:=j.make D cf Y hd ne
 rw [ĳ]
 refine ⟨cO i n y,.ref n::xs,_,_,l2,⟨_,vs,ϱ,⟨ϱ,y,ϱ,bc⟩,(O.ext j.kd U).g⟩,q,fun x u w A3 C S r r3 f3 l=>?_⟩
 obtain ⟨rfl,l⟩:=l
 cases (show w=_ from r3)
 have d:=U.trans S
 refine ⟨ϱ,?_⟩
 rcases l with l | ⟨fs,ys,h1,h2,h3,l⟩
 .exact fin x (.ref n) _ A3 C (X.trans d) r ⟨y,ϱ,S.sub n y bc⟩ (nfr rfl) l
 ·-- it is never changed: no name is kept
  have sub:∀m a,i m=some a->x m=some a:=d.sub
  have a0:=j.fre n D
  have only:∀m a,x m=some a->m=n\/i m=some a:=λm a z=>by
   by_cases e:m=n
   .exact .inl e
   .cases q:N m with
    | none=>rw [r.fre m (by rw [h2 m e];exact q)] at z;cases z
    | some o =>
     obtain ⟨b,g1,_⟩:=j.obj m o q
     have:=sub m b g1
     rw [z] at this;cases this
     exact .inr g1
  have a1:∀a,NR x a->NR i a:=λa z m w=>z m (sub m a w)
  have I:NR i y:=j.nrN Y
  have L:Rl T i N C:=by
   refine ⟨j.inj,λm a z=>r.kd m a (sub m a z),λm o z=>?_,j.fre⟩
   obtain ⟨b,g1,F⟩:=j.obj m o z
   have mn:m≠n:=λw=>by rw [w,D] at z;cases z
   obtain ⟨b',v,G⟩:=r.obj m o (by rw [h2 m mn];exact z)
   rw [sub m b g1] at v;cases v
   exact ⟨b,g1,F.back sub G⟩
  have p:Ext i H1 i C:=⟨λ_ _ z=>z,λ_ _ z=>.inl z,d.kp,d.dom⟩
  obtain ⟨y',g1,Z,ws,F,v,G⟩:=r.obj n _ h1
  rw [S.sub n y bc] at g1;cases g1
  exact fin i (.obj c fs ys) _ N C (X.trans p) L ⟨y,Z,ws,ϱ,I,F,v,RVs.clean h3 G⟩ (nfr rfl) l
def Az(F:Fo X T k f sp)(M:Mk X.K (T.cl c) f)(C:X.K=T.K)(m:Cls T.K (T.cl c))(n:Room (k+1) X.A)(o:Gl X x)(q:X.mg x=some (.ref (T.cl c)))(r:AAs X T (e::es) tr)(b:(x==("__debug__":Str))=false)(u:starEach (e::es) X.env=(false,eval e X.env)::starEach es X.env)(d:(backTo pos (starEach es X.env)).any (·.1)=false) :
  AE X T (.Call (.Name x p) (e::es) [] pos) (j9 c sp tr):=by
 obtain ⟨v,w,i,j⟩:=F.ex
 exact (yV M i n o q j .nil iE r b u d).imp fun y H Q ⟨ρ,σ,A,z,l,h,a⟩=>jH m l h a
def xB(F:Fo X T k f sp)(M:Mk X.K (T.cl c) f)(L:X.K=T.K)(u:Cls T.K (T.cl c))(v:Room (k+1) X.A)(w:Gl X x)(y:X.mg x=some (.ref (T.cl c)))(e:(x==("__debug__":Str))=false) :
  AE X T (.Call (.Name x p) [] [] pos) (j9 c sp jB):=by
 obtain ⟨z,C,i,j⟩:=F.ex
 refine (vy M i v w y j .nil iE e).imp fun G H Q ⟨ρ,σ,A,I,r,h,d⟩=>?_
 have q:=jH (E:=E0) u r h d
 obtain ⟨l,D,m,n,b,o,a⟩:=q
 exact a l [] [] m H (Ext.refl _ _) b.rl rfl o
end
noncomputable def jr(fl:Nat->Nat->Bool)(x:AV)(f:Nat)(y:AV)(A:AH):Option AH:=match x with
 | .ref n=>match A n with
  | some (.ins c fs xs)=>if fl c f&&decide (fs.length<900) then some (ac A n (.ins c (eJ fs f) (iw fs xs f y))) else none
  | _=>none
 | _=>none
section
variable {X:Cx}{T:Tab}{e o i:Û}{es:ï}{ta tb tv:ATE}{tr:ATA}{pos pos':Pos}{fl:Nat->Nat->Bool}
theorem qg(d:∀c,fl c f=true->NoAttr T.K (T.cl c) (nm f))(l:Rl T ρ A H)(r:RV T ρ H x v)(nf:aT y=false)(S:RV T ρ H y w)(h:jr fl x f y A=some A') :
  ∃a C dx fs,v=.ref a/\H a=some (.ins C dx fs)/\Cls T.K C/\NoAttr T.K C (nm f)/\fs.length<1000/\Ext ρ H ρ (upd H a (.ins C dx (bK (nm f) w fs)))/\Rl T ρ A' (upd H a (.ins C dx (bK (nm f) w fs))):=by
 unfold jr at h
 cases x<;>first | (cases h;done) | skip
 rename_i n
 obtain ⟨a,rfl,i⟩:=r
 simp only [] at h
 cases e:A n with
 | none=>rw [e] at h;cases h
 | some q =>
  rw [e] at h
  cases q<;>first | (cases h;done) | skip
  rename_i c fs xs
  obtain ⟨U,h1,dx,o,p,⟨F,u,G⟩,I⟩:=l.obj n _ e
  rw [i] at h1;cases h1
  simp only [] at h
  split at h
  .rename_i hc
   cases h
   obtain ⟨b,j⟩:=ż.mp hc
   have X:fs.length<900:=Ξ j
   obtain ⟨m,L,N,O⟩:=mz (f:=f) F I ⟨nf,S⟩
   have Q:((fs.map nm).zip o).length<1000:=by rw [Ł,ν];lia
   have D:Ext ρ H ρ (upd H a (.ins (T.cl c) dx (bK (nm f) w ((fs.map nm).zip o)))):=Ext.put i (by rw [p];intro z;cases z)
   refine ⟨a,T.cl c,dx,_,ϱ,p,u,d c b,Q,D,l.put i trivial ⟨dx,m,by rw [ai,L],⟨O,u,λg hg=>?_⟩,N.ext ?_ ?_⟩⟩
   .rcases mB hg with rfl | hg
    .exact d c b
    .exact G g hg
   .exact l.kd
   .exact D
  .cases h
def BH(fl:Nat->Nat->Bool)(ta tv:ATE)(f:Nat):ATS:=λD σ A=>tv σ A λy A1=>st y A1 λy A2=>ta σ A2 λx A3=>ok (jr fl x f y A3) λA4=>D.nx σ A4
def Ah(hK:X.K=T.K)(hfl:∀c,fl c f=true->NoAttr T.K (T.cl c) (nm f))(ho:AE X T o ta)(hv:AE X T e tv)(hs:swapsWith e (some (.Attribute o (nm f) pos')) pos.line X.env=pure false):AS X T (.Assign [.Attribute o (nm f) pos'] e pos) (BH fl ta tv f) :=
 (CO ho (iB hv) hs).imp λD σv H ⟨ρ,σ,A,DA,rs,h,d⟩=>⟨ρ,σ,A,_,rs,h,fun ρ1 y w A1 H1 e1 l1 ry nf q=>ao (rs.ext e1 l1) q fun ρ2 x v A2 H2 e2 rs2 rx fx q2=>by
  obtain ⟨A3,h3,q3⟩:=q2.of
  obtain ⟨a,C,dx,fs,h4,h5,h6,h7,h8,h9,h10⟩:=qg hfl rs2.rl rx nf (ry.ext l1.kd e2) h3
  exact ⟨a,C,dx,fs,h4,h5,hK▸h6,hK▸h7,h8,d.nx ρ2 σ A3 σv _ (e1.trans (e2.trans h9)) (rs2.ext h9 h10) q3⟩⟩
def BO(fl:Nat->Nat->Bool)(ta:ATE)(f:Nat)(j:Int):ATS:=λD σ A=>ta σ A λx A1=>match fX x f A1 with
 | some (.int i)=>ok (jr fl x f (.int (i+j)) A1) λA3=>D.nx σ A3
 | _=>False
theorem An(hK:X.K=T.K)(hfl:∀c,fl c f=true->NoAttr T.K (T.cl c) (nm f))(ho:AE X T o ta):AS X T (.AugAssign (.Attribute o (nm f) pos') .Add (.Constant (.int j) c1 p2) pos) (BO fl ta f j) :=
 (sF ho vA Dt).imp λD σv H ⟨ρ,σ,A,DA,rs,h,d⟩=>ao rs h fun ρ1 x v A1 H1 e1 rs1 rx fx q=>by
  cases h1:fX x f A1 with
  | none=>rw [h1] at q;exact q.elim
  | some u =>
   rw [h1] at q
   cases u<;>first | (cases q;done) | skip
   rename_i i
   obtain ⟨a,C,dx,fs,w,rfl,h3,h4,h5,h6,h8,h7⟩:=gU rs1.rl rx h1
   cases (show w=_ from h7)
   obtain ⟨A3,g3,q3⟩:=q.of
   obtain ⟨a',C',dx',fs',z,g5,g6,g7,g8,g9,g10⟩:=qg (y:=.int (i+j)) (w:=.int (i+j)) hfl rs1.rl rx rfl rfl g3
   cases z
   rw [h3] at g5
   cases g5
   exact ⟨a,C,dx,fs,.int i,ϱ,h3,hK▸h4,hK▸h5,h6,i,j,ϱ,ϱ,dx,fs,h3,g8,d.nx ρ1 σ A3 σv _ (e1.trans g9) (rs1.ext g9 g10) q3⟩
noncomputable def gD(x k y:AV)(A:AH):Option AH:=match x with
 | .ref n=>match A n,k with
  | some (.lst xs),.int i=>(ixN xs.length i).map λj=>ac A n (.lst (xs.set j y))
  | some (.dK ks xs),_=>if ks.Nodup/\ks.length<1000 then (toK k).map λk=>ac A n (.dK (cb ks xs k y).1 (cb ks xs k y).2) else none
  | some (.dT ks xs),_=>if ks.Nodup/\ks.length<1000 then (kj k).map λk=>ac A n (.dT (cb ks xs k y).1 (cb ks xs k y).2) else none
  | _,_=>none
 | _=>none
def ve:V->V->V->Hp->(Hp->Prop)->Prop:=λo i v H Q=>Be o i v H Q\/∃a H',o=.ref a/\DPut H a i v H'/\Q H'
def yn(n:X.A.units+1<cLine):GW X ve:=by
 intro b s σ H o i v l m u Q I c d e h
 rcases h with h | ⟨a,H',rfl,g,q⟩
 .exact uP b s σ H o i v l m u Q I c d e h
 .cases c
  exact tS n I g d e λp j=>⟨H',j,q⟩
def dX{κ:Type}{ks:Ú κ}{xs:Ú AV}{vs:Ú V}{ρ:Rho}{H:Hp}(h:ks.length=xs.length)(r:RVs T ρ H xs vs):(ks.zip vs).length=ks.length:=by
 rw [Ł,← r.len,h,Nat.min_self]
theorem yo{ρ:Rho}{A A':AH}{H:Hp}{x k y:AV}{v w u:V}{Q:Hp->Prop}(l:Rl T ρ A H)(X:RV T ρ H x v)(rk:RV T ρ H k w)(nf:aT y=false)(N:RV T ρ H y u)(h:gD x k y A=some A')
  (q:∀H',Ext ρ H ρ H'->Rl T ρ A' H'->Q H'):ve v w u H Q:=by
 unfold gD at h
 cases x<;>first | (cases h;done) | skip
 rename_i n
 obtain ⟨a,rfl,m⟩:=X
 simp only [] at h
 have O:(1000:Nat)<=sizeLine:=by decide
 cases e:A n with
 | none=>rw [e] at h;cases h
 | some o =>
  rw [e] at h
  obtain ⟨Y,h1,F⟩:=l.obj n _ e
  rw [m] at h1;cases h1
  cases o<;>first | (cases h;done) | skip
  .rename_i xs
   cases k<;>first | (cases h;done) | skip
   cases (show w=_ from rk)
   obtain ⟨r,c,d⟩:=F
   obtain ⟨j,S,rfl⟩:=ſ.mp h
   have i:Ext ρ H ρ (upd H a (.lst (r.set j u))):=Ext.put m (by rw [c];intro z;cases z)
   exact .inl ⟨a,r,_,j,ϱ,ϱ,c,by rw [← d.len];exact S,q _ i (l.put m trivial ⟨_,ai,(d.set ⟨nf,N⟩ j).ext l.kd i⟩)⟩
  .rename_i ks xs
   simp only [] at h
   split at h
   .rename_i hc
    obtain ⟨C,G,rfl⟩:=ſ.mp h
    obtain ⟨r,c,D,d⟩:=F
    obtain ⟨p,I,K,L⟩:=gQ (k:=C) hc.1 D d ⟨nf,N⟩
    rw [hV rk G]
    have i:Ext ρ H ρ (upd H a (.dK (bE (ks.zip r) C u))):=Ext.put m (by rw [c];intro z;cases z)
    exact .inr ⟨a,_,ϱ,.k c (by rw [dX D d];lia),q _ i (l.put m trivial ⟨p,by rw [ai,I],L,K.ext l.kd i⟩)⟩
   .cases h
  .rename_i ks xs
   simp only [] at h
   split at h
   .rename_i hc
    obtain ⟨C,G,rfl⟩:=ſ.mp h
    obtain ⟨r,c,D,d⟩:=F
    obtain ⟨p,I,K,L⟩:=gQ (k:=C) hc.1 D d ⟨nf,N⟩
    obtain ⟨b,rfl,U⟩:=gK rk G
    have i:Ext ρ H ρ (upd H a (.dT (bE (ks.zip r) C u))):=Ext.put m (by rw [c];intro z;cases z)
    exact .inr ⟨a,_,ϱ,.t c U (by rw [dX D d];lia),q _ i (l.put m trivial ⟨p,by rw [ai,I],L,K.ext l.kd i⟩)⟩
   .cases h
def BG(to ti tv:ATE):ATS:=λD σ A=>tv σ A λy A1=>st y A1 λy A2=>to σ A2 λx A3=>ti σ A3 λk A4=>ok (gD x k y A4) λA5=>D.nx σ A5
def Ag(hu:X.A.units+1<cLine)(ho:AE X T o ta)(hi:AE X T i tb)(hv:AE X T e tv)(hs:swapsWith e (some (.Subscript o i pos')) pos.line X.env=pure false):AS X T (.Assign [.Subscript o i pos'] e pos) (BG ta tb tv):=by
 intro a s b H D I ⟨ρ,σ,A,DA,S,h,d⟩
 refine wpAny_Assign_Subscript (thn (iB hv a s b H (λv H1=>lE T ta b H1 λx m=>lE T tb b m λy n=>ve x y v n λc=>D.nx b c) I ⟨ρ,σ,A,_,S,h,fun ρ1 y u A1 H1 L N z nf q=>?_⟩)
  λr Z ⟨v,H1,I1,rv,q1⟩=>thn (ho a Z b H1 _ I1 q1) λov s2 ⟨x,m,I2,C,F⟩=>thn (hi a s2 b m _ I2 F) λiv s3 ⟨y,n,I3,z,G⟩=>?_) hs
 .exact ao (S.ext L N) q fun ρ2 x v A2 m O j C fx F=>ao j F fun ρ3 k w A3 n K l rk fk G=>by
   obtain ⟨U,Y,p⟩:=G.of
   exact yo l.rl (C.ext j.rl.kd K) rk nf (z.ext N.kd (O.trans K)) Y λc Q l4=>d.nx ρ3 σ U b c (L.trans (O.trans (K.trans Q))) (l.ext Q l4) p
 .exact thn (yn hu a s3 b n x y v ov iv r _ I3 C z rv G) λ_ s4 ⟨c,I4,p⟩=>⟨b,c,I4,p⟩
end
abbrev ATI:=ASt->AH->(Ú AV->(AH->Prop)->AH->Prop)->Prop
abbrev ATG:=AV->ASt->Option ASt
def xN(T:Tab)(J:It)(xs:Ú AV)(inv:AH->Prop)(ρ0:Rho)(H0:Hp):Prop:=∀ρ A H,Ext ρ0 H0 ρ H->Rl T ρ A H->inv A ->
 (∀(i:Nat) x,xs[i]?=some x->J.go i H/\∀v H',J.yld i H v H'->H'=H/\RV T ρ H x v)/\J.stop xs.length H
def lI(T:Tab)(it:ATI):TI:=fun σv H R=>∃ρ σ A KA,Rs T ρ σ A σv H/\it σ A KA /\
 ∀ρ1 xs inv A1 H1 J,Ext ρ H ρ1 H1->Rl T ρ1 A1 H1->(∀x∈xs,aT x=false)->xN T J xs inv ρ1 H1->KA xs inv A1->R J H1
abbrev AI(X:Cx)(T:Tab)(tg iter:Û)(it:ATI):Prop:=PI X tg iter (lI T it)
def _root_.L2.PI.imp(h:PI X tg e t)(f:∀σ H R,t' σ H R->t σ H R):PI X tg e t':=λpins s σ H R I q=>h pins s σ H R I (f σ H R q)
def But(is:ñ)(σ σ':St):Prop:=σ'.length=σ.length/\∀j:Nat,j∉is->σ'[j]?=σ[j]?
def lG(T:Tab)(g:ATG)(is:ñ):TG:=λv σv H Q=>∃ρ A x σ σ1,Rs T ρ σ A σv H/\aT x=false/\RV T ρ H x v/\g x σ=some σ1/\∀σv1,Rs T ρ σ1 A σv1 H->But is σv σv1->Q σv1 H
abbrev AG(X:Cx)(T:Tab)(tg:Û)(g:ATG)(is:ñ):Prop:=PG X tg (lG T g is)
def _root_.L2.PG.imp(h:PG X tg t)(f:∀v σ H Q,t' v σ H Q->t v σ H Q):PG X tg t':=λpins s σ H v u Q I r q=>h pins s σ H v u Q I r (f v σ H Q q)
noncomputable def gN(i:Nat):ATG:=λx σ=>some (σ.set i (some x))
noncomputable def uQ:ñ->Ú AV->ASt->Option ASt
 | [],[],σ=>some σ
 | i::is,x::xs,σ=>uQ is xs (σ.set i (some x))
 | _,_,_=>none
noncomputable def gT(is:ñ):ATG:=λx σ=>match x with
 | .tup xs=>uQ is xs σ
 | _=>none
def gs(o:Option ASt)(k:ASt->Prop):Prop:=match o with
 | some σ=>k σ
 | none=>False
def gs.of{k:ASt->Prop}(h:gs o k):∃σ,o=some σ/\k σ:=by
 cases o with
 | none=>exact h.elim
 | some σ=>exact ⟨σ,rfl,h⟩
def Br(g:ATG)(tb:ATS)(inv:AH->Prop)(D:AEnds):Ú AV->ASt->AH->Prop
 | [],σ,A=>inv A/\D.nx σ A
 | x::xs,σ,A=>inv A/\gs (g x σ) fun σ1=>tb (D.lp (Br g tb inv D xs)) σ1 A
@[irreducible] def forL (g:ATG) (tb:ATS) (inv:AH->Prop) (D:AEnds) (xs:Ú AV) (σ:ASt) (A:AH):Prop:=Br g tb inv D xs σ A
def iX{inv:AH->Prop}:forL g tb inv D [] σ A=(inv A/\D.nx σ A):=by delta forL;rfl
def jQ{inv:AH->Prop}:forL g tb inv D (x::xs) σ A=(inv A/\gs (g x σ) fun σ1=>tb (D.lp (forL g tb inv D xs)) σ1 A):=by delta forL;rfl
def GP(it:ATI)(g:ATG)(tb:ATS):ATS:=λD σ A=>it σ A λxs inv A1=>forL g tb inv D xs σ A1
section
variable {X:Cx}{T:Tab}{tg iter l:Û}{body:Ú Ü}{it:ATI}{g:ATG}{tb:ATS}{pos:Pos}
def D4(hp:PassesOwn (model X.prog X.w) X.A X.env X.xe)(hc:X.calm=true)(hi:AI X T tg iter it)(hg:AG X T tg g is)(hb:ASs X T body tb)(hs:∀x,foldedSetIterable iter X.env x=pure x):AS X T (.For tg iter body [] pos) (GP it g tb) :=
 (CN hp hc hi hg hb hs).imp λD σv H ⟨ρ,σ,A,DA,rs,h,d⟩=>⟨ρ,σ,A,_,rs,h,fun ρ1 xs inv A1 H1 J e1 l1 nf io q=>by
  refine ⟨λi m σv' H'=>m=xs.length-i/\i<=xs.length/\∃ρ2 σ2 A2,Ext ρ1 H1 ρ2 H'/\Rs T ρ2 σ2 A2 σv' H'/\forL g tb inv DA (xs.drop i) σ2 A2,⟨_,ϱ,ϖ _,ρ1,σ,A1,Ext.refl _ _,rs.ext e1 l1,q⟩,?_⟩
  rintro i m σv' H' ⟨rfl,hi,ρ2,σ2,A2,e2,rs2,q2⟩
  by_cases hlt:i<xs.length
  .have hd:xs.drop i=xs[i]::xs.drop (i+1):=Ő hlt
   rw [hd,jQ] at q2
   obtain ⟨hinv,q2⟩:=q2
   obtain ⟨σ3,h3,q3⟩:=q2.of
   obtain ⟨k1,k2⟩:=(io ρ2 A2 H' e2 rs2.rl hinv).1 i xs[i] (ξ hlt)
   refine .inr ⟨k1,fun σv'' H''=>i+1<=xs.length/\∃ρ2 σ2 A2,Ext ρ1 H1 ρ2 H''/\Rs T ρ2 σ2 A2 σv'' H''/\forL g tb inv DA (xs.drop (i+1)) σ2 A2,fun σv'' H'' z=>⟨xs.length-(i+1),ω,ϱ,z⟩,λv H'' y=>?_⟩
   obtain ⟨rfl,rv⟩:=k2 v H'' y
   refine ⟨ρ2,A2,xs[i],σ2,σ3,rs2,nf _ (Ī hlt),rv,h3,fun σv1 rs3 _=>⟨ρ2,σ3,A2,_,rs3,q3,?_⟩⟩
   have d2:LD T ρ2 H'' DA D:=(d.ext e1).ext e2
   refine ⟨fun ρ' σ' A' σv' H' e r q=>⟨hlt,ρ',σ',A',e2.trans e,r,q⟩,d2.rt,d2.nx,fun ρ' σ' A' σv' H' e r q=>⟨hlt,ρ',σ',A',e2.trans e,r,q⟩⟩
  .have hi':i=xs.length:=by omega
   subst hi'
   rw [ă,iX] at q2
   exact .inl ⟨(io ρ2 A2 H' e2 rs2.rl q2.1).2,d.nx ρ2 σ2 A2 σv' H' (e1.trans e2) rs2 q2.2⟩⟩
def Aw(hN:X.N.Nodup)(hi:X.N[i]?=some x)(hx:Loc X.env.scope x)(hf:X.fn x=true\/X.env.scope.names.lookup x=some .local):AG X T (.Name x pos) (gN i) [i] :=
 (kG hN hi hx hf).imp λv σv H Q ⟨ρ,A,x,σ,σ1,rs,nf,rv,h,q⟩=>by
  cases h
  exact q _ (rs.set i (bw nf) rv) ⟨by rw [Ĳ],λj hj=>Ň (λz=>hj (by rw [z];exact ϵ.mpr rfl))⟩
def lGs(T:Tab)(is:ñ):TGs:=λvs σv H Q=>∃ρ A xs σ σ1,Rs T ρ σ A σv H/\RVs T ρ H xs vs/\uQ is xs σ=some σ1/\∀σv1,Rs T ρ σ1 A σv1 H->But is σv σv1->Q σv1 H
theorem mj:∀{is:ñ} {xs:Ú AV} {σ σ1:ASt},uQ is xs σ=some σ1->is.length=xs.length
 | [],[],_,_,_=>rfl
 | i::is,x::xs,σ,_,h=>by simp [mj (is:=is) (xs:=xs) (show uQ is xs (σ.set i (some x))=_ from h)]
 | [],_::_,_,_,h=>nomatch h
 | _::_,[],_,_,h=>nomatch h
def Eg(hK:X.K=T.K)(hc:X.calm=true)(h:PGs X es (lGs T is))(hn:(assignEach es X.env).length=is.length)(hst:(assignEach es X.env).findIdx? (·.1)=none):AG X T (.Tuple es k pos) (gT is) is :=
 (CS hc h hn hst).imp λv σv H Q ⟨ρ,A,x,σ,σ1,rs,nf,rv,h,q⟩=>by
  cases x<;>first | (cases h;done) | skip
  obtain ⟨a,vs,rfl,h1,h2⟩:=rv
  exact ⟨a,vs,ϱ,.of h1,by rw [← h2.len,mj h],ρ,A,_,σ,σ1,rs,h2,h,q⟩
theorem vp:PGs X [] (lGs T []):=λpins s σv H vs us Q I r ⟨ρ,A,xs,σ,σ1,rs,rvs,h,q⟩=>by
 cases xs with
 | cons _ _=>cases h
 | nil =>
  cases h
  cases (show vs=[] from rvs)
  cases r
  exact assignInOrder_nil ⟨σv,H,I,q σv rs ⟨ϱ,λ_ _=>rfl⟩⟩
theorem sL(hN:X.N.Nodup)(hi:X.N[i]?=some x)(hx:Loc X.env.scope x)(hf:X.fn x=true\/X.env.scope.names.lookup x=some .local)(hr:PGs X es (lGs T is))
  (hs:(assignEach (.Name x p::es) X.env).map (·.2)=assign (.Name x p) X.env::(assignEach es X.env).map (·.2)):PGs X (.Name x p::es) (lGs T (i::is)):=λpins s σv H vs us Q I r ⟨ρ,A,xs,σ,σ1,rs,rvs,h,q⟩=>by
 cases xs with
 | nil=>cases h
 | cons y ys =>
  obtain ⟨v,ws,rfl,hv,hw⟩:=rvs
  cases r with
  | cons r rr =>
   rw [hs]
   refine assignInOrder_cons (thn (kG hN hi hx hf pins s σv H v _ (fun σv1 H1=>lGs T is ws σv1 H1 Q) I r ?_) λ_ s1 ⟨σ1',H1,I1,q1⟩=>hr pins s1 σ1' H1 ws _ Q I1 rr q1)
   exact ⟨ρ,A,ys,_,σ1,rs.set i (bw hv.1) hv.2,hw,h,fun σv1 r1 hl=>q σv1 r1 ⟨by rw [hl.1,Ĳ],λj hj=>by rw [hl.2 j λz=>hj (Θ _ z),Ň (λz=>hj (by rw [z];exact Ω))]⟩⟩
def FU(x:AV)(A:AH)(K:Ú AV->(AH->Prop)->AH->Prop):Prop:=match x with
 | .ref n=>ok (listOf (.ref n) A) λxs=>K xs (λA'=>listOf (.ref n) A'=some xs) A
 | .tup xs=>K xs (λ_=>True) A
 | .frl xs=>K xs (λ_=>True) A
 | .fzl xs=>K xs (λ_=>True) A
 | .str z=>K (z.cps.toList.map λc=>.str ⟨#[c]⟩) (λ_=>True) A
 | _=>False
def Du(ta:ATE):ATI:=fun σ A K=>ta σ A λx A1=>FU x A1 K
def CQ(D:PE X l tl):PI X tg l (fun σ H R=>tl σ H λx H1=>(∃z,x=.str z/\R (Its z) H1)\/∃a,x=.ref a/\(((∃xs,SqL X.K H1 a xs)/\R (Itl X.K a) H1)\/((∃xs,SqT X.K H1 a xs)/\R (Itt X.K a) H1))):=by
 intro i s σ H R I h
 refine thn (D i s σ H _ I h) λv c ⟨x,H1,d,r,C⟩=>?_
 rcases C with ⟨z,rfl,q⟩ | ⟨a,e,q⟩
 .obtain ⟨t,rfl⟩:=r
  have m:∀(o:Obj) (ty:String),StrIt X.prog X.w c.heap.objs.size ty z t->(c.heap.push o).IsStrIter c.heap.objs.size ty z t 0->PIE X i σ tg R (.ref c.heap.objs.size) {c with heap:=c.heap.push o}:=λo ty S st=>by
   refine ⟨c.heap.objs.size,[c.heap.objs.size],_,Its z,H1,ϱ,d.kept (t':=c.toks) λb o e=>ϸ _ e,ux S,st,λb n=>?_,q⟩
   have e:b=c.heap.objs.size:=by simpa using n
   subst e
   exact d.fpOk (ι _) (d.hok.fresh (ι _))
  cases ha:z.cps.all (·<128)
  .exact wpAny_pyIter_wide ha (m _ _ (.wide _ z t) ⟨_,ϻ _ rfl,ϱ,ϱ⟩)
  .exact wpAny_pyIter_ascii ha (m _ _ (.ascii _ z t) ⟨_,ϻ _ rfl,ϱ,ϱ⟩)
 subst e
 cases r
 rcases q with ⟨⟨xs,hq⟩,q⟩ | ⟨⟨xs,hq⟩,q⟩
 .obtain ⟨j,u,p,y⟩:=d.list hq
  refine wpAny_pyIter_list p.isList ?_
  refine ⟨c.heap.objs.size,[c.heap.objs.size],_,_,H1,ϱ,d.kept (t':=c.toks) λb o e=>ϸ _ e,rV a _,⟨_,ϻ _ rfl,ϱ,ϱ⟩,λb n=>?_,q⟩
  have e:b=c.heap.objs.size:=by simpa using n
  subst e
  exact d.fpOk (ι _) (d.hok.fresh (ι _))
 .obtain ⟨j,u,p,y⟩:=d.tuple hq
  refine wpAny_pyIter_tuple (show c.heap.IsTuple a j.toArray from p) ?_
  refine ⟨c.heap.objs.size,[c.heap.objs.size],_,_,H1,ϱ,d.kept (t':=c.toks) λb o e=>ϸ _ e,oq a _,⟨_,ϻ _ rfl,ϱ,ϱ⟩,λb n=>?_,q⟩
  have e:b=c.heap.objs.size:=by simpa using n
  subst e
  exact d.fpOk (ι _) (d.hok.fresh (ι _))
def ph{inv:AH->Prop}(h:∀ρ A H,Ext ρ0 H0 ρ H->Rl T ρ A H->inv A->∃vs,SqL T.K H a vs/\RVs T ρ H xs vs):xN T (Itl T.K a) xs inv ρ0 H0:=fun ρ A H e l i=>by
 obtain ⟨vs,h1,h2⟩:=h ρ A H e l i
 refine ⟨λj x hx=>?_,vs,h1,by rw [h2.len];exact ι _⟩
 obtain ⟨v,hv,rv⟩:=h2.get hx
 refine ⟨⟨vs,v,h1,hv⟩,λv' H' z=>?_⟩
 obtain ⟨e1,e2⟩:=z
 have:=e2 vs h1
 rw [hv] at this;cases this
 exact ⟨e1,rv⟩
def Dp(kd:∀n a,ρ0 n=some a->MK (H0 a))(h1:H0 a=some (.tup vs))(h2:RVs T ρ0 H0 xs vs):xN T (Itt T.K a) xs (λ_=>True) ρ0 H0:=fun ρ A H e l i=>by
 have h1:=x6 kd e h1
 have h2:=h2.ext kd e
 refine ⟨λj x hx=>?_,vs,.of h1,by rw [h2.len];exact ι _⟩
 obtain ⟨v,hv,rv⟩:=h2.get hx
 refine ⟨⟨vs,v,.of h1,hv⟩,λv' H' z=>?_⟩
 obtain ⟨e1,e2⟩:=z
 have:=e2 vs (.of h1)
 rw [hv] at this;cases this
 exact ⟨e1,rv⟩
def Dq:xN T (Its z) (z.cps.toList.map λc=>.str ⟨#[c]⟩) (λ_=>True) ρ0 H0:=fun ρ A H e l i=>by
 refine ⟨λj x hx=>?_,by show z.cps.size<=_;simp⟩
 rw [Ź] at hx
 obtain ⟨c,hc,rfl⟩:=ſ.mp hx
 refine ⟨by show j<z.cps.size;simpa using (List.getElem?_eq_some_iff.mp hc).1,λv H' y=>?_⟩
 obtain ⟨rfl,c',h1,rfl⟩:=y
 rw [hc] at h1;cases h1
 exact ⟨ϱ,ϱ⟩
theorem ji(hK:X.K=T.K)(hl:AE X T l ta):AI X T tg l (Du ta) :=
 (CQ hl).imp fun σv H R ⟨ρ,σ,A,KA,rs,h,fin⟩=>ao rs h fun ρ1 x v A1 H1 e1 rs1 rv fz q=>by
  rw [hK]
  cases x with
  | ref n =>
   obtain ⟨a,rfl,hn⟩:=rv
   obtain ⟨xs,hx,q⟩:=ok.of (show ok (listOf (.ref n) A1) _ from q)
   have base:∀ρ A H,Ext ρ1 H1 ρ H->Rl T ρ A H->listOf (.ref n) A=some xs->∃vs,SqL T.K H a vs/\RVs T ρ H xs vs:=fun ρ A H e l z=>by
    obtain ⟨b,vs,e1,h2,h3⟩:=aN l (x:=.ref n) ⟨a,ϱ,e.sub n a hn⟩ z
    cases e1
    exact ⟨vs,h2,h3⟩
   obtain ⟨vs,h1,h2⟩:=base ρ1 A1 H1 (Ext.refl _ _) rs1.rl hx
   exact .inr ⟨a,ϱ,.inl ⟨⟨vs,h1⟩,fin ρ1 xs _ A1 H1 _ e1 rs1.rl h2.nf (ph base) q⟩⟩
  | tup xs =>
   obtain ⟨a,vs,rfl,h1,h2⟩:=rv
   exact .inr ⟨a,ϱ,.inr ⟨⟨vs,.of h1⟩,fin ρ1 xs _ A1 H1 _ e1 rs1.rl h2.nf (Dp rs1.rl.kd h1 h2) q⟩⟩
  | frl xs =>
   obtain ⟨a,vs,rfl,h1,h2,h3⟩:=rv
   exact .inr ⟨a,ϱ,.inl ⟨⟨vs,.of h2⟩,fin ρ1 xs _ A1 H1 _ e1 rs1.rl h3.nf (ph fun ρ A H e l _=>⟨vs,.of (e.kp _ _ h2 h1),h3.ext rs1.rl.kd e⟩) q⟩⟩
  | fzl xs =>
   obtain ⟨a,vs,rfl,h1,h2⟩:=rv
   exact .inr ⟨a,ϱ,.inl ⟨⟨vs,h1.sq⟩,fin ρ1 xs _ A1 H1 _ e1 rs1.rl h2.nf (ph fun ρ A H e l _=>⟨vs,(zP rs1.rl.kd e h1).sq,h2.ext rs1.rl.kd e⟩) q⟩⟩
  | str z =>
   cases rv
   exact .inl ⟨z,rfl,fin ρ1 _ _ A1 H1 _ e1 rs1.rl (λx hx=>by obtain ⟨c,_,rfl⟩:=ϑ.mp hx;rfl) Dq q⟩
  | _=>exact q.elim
noncomputable def fH(lo:Int)(n:Nat):Ú AV:=(List.range n).map λi=>.int (lo+(i:Nat))
def v6{ρ0:Rho}{H0:Hp}{lo:Int}{n:Nat}:xN T (Itr lo n) (fH lo n) (λ_=>True) ρ0 H0:=fun ρ A H e l i=>by
 refine ⟨λj x hx=>?_,by show n<=_;simp [fH]⟩
 unfold fH at hx
 rw [Ź] at hx
 obtain ⟨k,hk,rfl⟩:=ſ.mp hx
 obtain ⟨h1,h2⟩:=ž.mp hk
 rw [Ĩ] at h2
 subst h2
 exact ⟨(by simpa using h1:j<n),λv H' z=>z⟩
def qk{lo:Int}{n:Nat}:∀x∈fH lo n,aT x=false:=λx hx=>by
 obtain ⟨i,_,rfl⟩:=ϑ.mp hx
 rfl
def qL(ta:ATE):ATI:=fun σ A K=>ta σ A λx A1=>match x with
 | .int j=>(-(2 ^ 62)<=j/\j<2 ^ 62)/\K (fH 0 j.toNat) (λ_=>True) A1
 | _=>False
def qK(ta tb:ATE):ATI:=fun σ A K=>ta σ A λx A1=>tb σ A1 λy A2=>match x,y with
 | .int i,.int j=>(-(2 ^ 62)<=i/\i<2 ^ 62/\-(2 ^ 62)<=j/\j<2 ^ 62)/\K (fH i (j-i).toNat) (λ_=>True) A2
 | _,_=>False
def t8(hg:Gl X "range")(hm:X.mg "range"=none)(ha:AE X T a ta)(hs:starEach [a] X.env=[(false,eval a X.env)]):AI X T tg (.Call (.Name "range" p) [a] [] pos) (qL ta) :=
 (sK hg hm (bu ha pa_nil hs) hs).imp fun σv H R ⟨ρ,σ,A,KA,rs,h,fin⟩=>ao rs h fun ρ1 x v A1 H1 e1 rs1 rv fz q=>by
  cases x<;>first | (cases q;done) | skip
  cases (show v=_ from rv)
  exact ⟨_,ϱ,q.1.1,q.1.2,fin ρ1 _ _ A1 H1 _ e1 rs1.rl qk v6 q.2⟩
def t6{a b:Û}{ta tb:ATE}{p:Pos}(hg:Gl X "range")(hm:X.mg "range"=none)(ha:AE X T a ta)(hb:AE X T b tb)(hs:starEach [a,b] X.env=[(false,eval a X.env),(false,eval b X.env)])(hs2:starEach [b] X.env=[(false,eval b X.env)]) :
  AI X T tg (.Call (.Name "range" p) [a,b] [] pos) (qK ta tb) :=
 (sJ hg hm (bu ha (bu hb pa_nil hs2) (by rw [hs,hs2])) hs hs2).imp fun σv H R ⟨ρ,σ,A,KA,rs,h,fin⟩=>ao rs h fun ρ1 x v A1 H1 e1 rs1 rv fz q=>ao rs1 q fun ρ2 y w A2 H2 e2 rs2 rw fw q2=>by
  cases x<;>first | (cases q2;done) | skip
  cases y<;>first | (cases q2;done) | skip
  cases (show v=_ from rv)
  cases (show w=_ from rw)
  exact ⟨_,_,ϱ,q2.1,fin ρ2 _ _ A2 H2 _ (e1.trans e2) rs2.rl qk v6 q2.2⟩
noncomputable def bvA(mm:Nat)(fv:ñ)(σ:ASt):ASt:=List.replicate mm none++fv.map λk=>(σ[k]?).join
def pE(g:ATG)(tt:ATT)(te:ATE)(inv:AH->Prop)(σ0:ASt)(Kf:Ú AV->AH->Prop):Ú AV->Ú AV->AH->Prop
 | [],ys,A=>inv A/\Kf ys A
 | x::xs,ys,A=>inv A/\gs (g x σ0) fun σ1=>tt σ1 A λc A2=>ifB c (te σ1 A2 λy A3=>st y A3 λy A4=>pE g tt te inv σ0 Kf xs (ys++[y]) A4) (pE g tt te inv σ0 Kf xs ys A2)
@[irreducible] def compL (g:ATG) (tt:ATT) (te:ATE) (inv:AH->Prop) (σ0:ASt) (Kf:Ú AV->AH->Prop) (xs ys:Ú AV) (A:AH):Prop:=pE g tt te inv σ0 Kf xs ys A
def gb{inv:AH->Prop}{Kf:Ú AV->AH->Prop}:compL g tt te inv σ0 Kf [] ys A=(inv A/\Kf ys A):=by delta compL;rfl
def dR{inv:AH->Prop}{Kf:Ú AV->AH->Prop}:compL g tt te inv σ0 Kf (x::xs) ys A=(inv A/\gs (g x σ0) fun σ1=>tt σ1 A λc A2=>ifB c (te σ1 A2 λy A3=>st y A3 λy A4=>compL g tt te inv σ0 Kf xs (ys++[y]) A4) (compL g tt te inv σ0 Kf xs ys A2)):=by delta compL;rfl
def nY(it:ATI)(mm:Nat)(g:ATG)(fv:ñ)(tt:ATT)(te:ATE):ATE:=fun σ A Q=>it σ A λxs inv A1=>nd (xs.length<=sizeLine) (compL g tt te inv (bvA mm fv σ) (λys A2=>Q (.frl ys) A2) xs [] A1)
abbrev ATs(X:Cx)(T:Tab)(ifs:ï)(t:ATT):Prop:=PTs X ifs (lT T t)
def nX:ATT:=λ_ A Q=>Q true A
def Ae:ATs X T [] nX:=λpins s σ H Q I ⟨ρ,σ',A,QA,rs,h,fin⟩=>yJ pins s σ H Q I (fin ρ true A H (Ext.refl _ _) rs.rl h)
def Ad(h:AT X T c t):ATs X T [c] t:=qm h
def Gk(rs:Rs T ρ σ A σv H)(mm:Nat)(fv:ñ):Rs T ρ (bvA mm fv σ) A (bv mm fv σv) H :=
 ⟨rs.rl,by simp [bvA,bv,bj],λi x h=>by
  unfold bvA at h
  unfold bv bj
  by_cases hi:i<mm
  .rw [List.getElem?_append_left (by simpa using hi)] at h
   simp [hi] at h
  .rw [List.getElem?_append_right (by simpa using hi),List.length_replicate,List.getElem?_map] at h
   rw [List.getElem?_append_right (by simpa using hi),List.length_replicate,List.getElem?_map]
   obtain ⟨k,hk,e⟩:=ſ.mp h
   cases q:σ[k]? with
   | none=>rw [q] at e;cases e
   | some o =>
    rw [q] at e
    cases o with
    | none=>cases e
    | some y =>
     cases e
     obtain ⟨v,h1,h2⟩:=rs.at_ k _ q
     exact ⟨v,by rw [hk];simp [h1],h2⟩⟩
def lSt(T:Tab)(te:ATE):TE:=fun σv H Q=>∃ρ σ A QA,Rs T ρ σ A σv H/\aSt te σ A QA/\∀ρ' x v A' H',Ext ρ H ρ' H'->Rl T ρ' A' H'->RV T ρ' H' x v->aT x=false->QA x A'->Q v H'
def Aa(hi:∀i∈is,i<mm)(h:But is (bv mm fv σ) σ1):L2.Ext (bv mm fv σ) σ1 :=
 ⟨h.1.symm,λj v e=>by
  by_cases hj:j∈is
  .have:=hi j hj
   unfold bv at e
   rw [List.getElem?_append_left (by simpa using this)] at e
   simp [this] at e
  .rw [h.2 j hj];exact e⟩
def RVs.snoc(h:RVs T ρ H xs vs)(nf:aT x=false)(r:RV T ρ H x v):RVs T ρ H (xs++[x]) (vs++[v]):=h.app ⟨v,[],ϱ,⟨nf,r⟩,ϱ⟩
theorem jV(hi:∀i∈is,i<mm):LcR (lI T it) mm (lG T g is) fv (lT T tt) (lSt T te) (lE T (nY it mm g fv tt te)):=fun σv H Q ⟨ρ,σ,A,QA,rs,h,fin⟩=>by
 refine ⟨_,⟨ρ,σ,A,_,rs,h,fun ρ1 xs inv A1 H1 J e1 l1 nf io q=>(?_:(λJ H1=>LCw mm (lG T g is) fv (lT T tt) (lSt T te) σv Q J H1) J H1)⟩,λJ H1 z=>z⟩
 obtain ⟨hz,q⟩:=nd.of q
 refine ⟨λi vs H2=>i<=xs.length/\∃ρ2 A2 ys,Ext ρ1 H1 ρ2 H2/\Rl T ρ2 A2 H2/\RVs T ρ2 H2 ys vs/\compL g tt te inv (bvA mm fv σ) (λys A2=>QA (.frl ys) A2) (xs.drop i) ys A2,xs.length,
  ⟨ϖ _,ρ1,A1,[],Ext.refl _ _,l1,ϱ,q⟩,hz,?_⟩
 rintro i vs H2 ⟨hi2,ρ2,A2,ys,e2,l2,rvs,q2⟩
 by_cases hlt:i<xs.length
 .rw [Ő hlt,dR] at q2
  obtain ⟨hinv,q2⟩:=q2
  obtain ⟨σ3,h3,q3⟩:=q2.of
  obtain ⟨k1,k2⟩:=(io ρ2 A2 H2 e2 l2 hinv).1 i xs[i] (ξ hlt)
  refine .inr ⟨k1,hlt,λv H3 y=>?_⟩
  obtain ⟨rfl,rv⟩:=k2 v H3 y
  refine ⟨ρ2,A2,xs[i],bvA mm fv σ,σ3,Gk ((rs.ext e1 l1).ext e2 l2) mm fv,nf _ (Ī hlt),rv,h3,fun σv1 rs3 but=>⟨Aa hi but,?_⟩⟩
  refine cy rs3 q3 fun ρ4 c A4 H4 e4 rs4 q4=>?_
  cases c with
  | false =>
   have q4:=q4.f
   exact ⟨hlt,ρ4,A4,ys,e2.trans e4,rs4.rl,rvs.ext l2.kd e4,q4⟩
  | true =>
   have q4:=q4.t
   exact ⟨ρ4,σ3,A4,_,rs4,q4,fun ρ5 y w A5 H5 e5 l5 r5 n5 q5=>⟨hlt,ρ5,A5,ys++[y],e2.trans (e4.trans e5),l5,((rvs.ext l2.kd e4).ext rs4.rl.kd e5).snoc n5 r5,q5⟩⟩
 .have hi':i=xs.length:=by omega
  subst hi'
  rw [ă,gb] at q2
  exact .inl ⟨(io ρ2 A2 H2 e2 l2 q2.1).2,λp hp=>Fin.lst (Fin.after fin (e1.trans e2)) l2 hp rvs q2.2⟩
def rK(hi0:∀i∈is,i<mm)(S:l9 X.N X.env.scope scope mm N' fv)(hg:∀C fp s H,AG (X.blk N' scope C fp s H) T tg g is)(hc:X.calm=true)(hi:AI X T tg iter it)
  (ht:∀C fp s H,ATs (X.blk N' scope C fp s H) T ifs tt)(he:∀C fp s H,AE (X.blk N' scope C fp s H) T elt te)(hs:∀x,foldedSetIterable iter X.env x=pure x):AE X T (.ListComp elt [⟨tg,iter,ifs,0⟩] scope pos) (nY it mm g fv tt te) :=
 vz (jV hi0) S hg hc hi ht (λC fp s H=>iB (he C fp s H)) hs
end
section
variable {X:Cx}{T:Tab}{tg iter l e:Û}{body:Ú Ü}{it:ATI}{g:ATG}{tb:ATS}{pos:Pos}
def fzN(N:L2.St->Hp->Prop):L2.St->Hp->Prop:=fun σ H=>N σ H\/∃a xs,H a=some (.lst xs)/\∀o,N σ (upd H a (.frz o (.lst xs)))
theorem Fh(h:PS X s t):PS X s (λD σ H=>t {D with nx:=fzN D.nx} σ H):=λpins s1 σ H D I q =>
 thn (h pins s1 σ H _ I q) λf s2 q2=>by
  cases f with
  | next =>
   obtain ⟨σ',H',I',q'⟩:=q2
   rcases q' with q' | ⟨a,xs,ha,q'⟩
   .exact ⟨σ',H',I',q'⟩
   .obtain ⟨z,its,n,r',e'⟩:=(show ObjOk X.prog X.w H' s2.heap a (.lst xs) from I'.hok a _ ha)
    exact ⟨σ',upd H' a (.frz _ (.lst xs)),I'.write (x:=a) (e:=a) (o:=.frz _ (.lst xs)) (h':=s2.heap) (t':=s2.toks) (by rw [ha];exact ϰ) (.inl rfl) (λb u _ q=>q) ⟨_,e'⟩ ⟨e',z,its,n,r',e'⟩,q' _⟩
  | ret v=>exact q2
  | brk=>exact q2
  | cont=>exact q2
def Aj(hi0:∀i∈is,i<mm)(S:l9 X.N X.env.scope scope mm N' fv)(hg:∀C fp s H,AG (X.blk N' scope C fp s H) T tg g is)(hc:X.calm=true)(hi:AI X T tg iter it)
  (ht:∀C fp s H,ATs (X.blk N' scope C fp s H) T ifs tt)(he:∀C fp s H,AE (X.blk N' scope C fp s H) T elt te)(hs:∀x,foldedSetIterable iter X.env x=pure x)
  (hN:X.N.Nodup)(hiy:X.N[iy]?=some y)(hxl:Loc X.env.scope y)(hsw:swapsWith (.ListComp elt [⟨tg,iter,ifs,0⟩] scope pos) (some (.Name y py)) spos.line X.env=pure true)(hf:X.fn y=true\/X.env.scope.names.lookup y=some .local) :
  AS X T (.Assign [.Name y py] (.ListComp elt [⟨tg,iter,ifs,0⟩] scope pos) spos) (ub iy (nY it mm g fv tt te)) :=
 (Fh (CM (jV hi0) S hg hc hi ht (λC fp s H=>iB (he C fp s H)) hs hN hiy hxl hsw hf)).imp λD σv H ⟨ρ,σ,A,DA,rs,h,d⟩=>ao rs h fun ρ1 x v A1 H1 e1 rs1 rv fz q=>by
  have:=Ba (Q:=λv H2=>D.nx (σv.set iy (some v)) H2) e1 rs1.rl rv fz q fun ρ2 y w A2 H2 e2 l2 r2 n2 q2=>d.nx ρ2 _ A2 _ H2 e2 ((rs.ext e2 l2).set iy (bw n2) r2) q2
  exact this.imp id λ⟨a,xs,e,h1,h2⟩=>⟨a,xs,h1,h2⟩
def EJ(tc:ATT)(tb:ATS)(D:AEnds):Nat->ASt->AH->Prop
 | 0,_,_=>False
 | k+1,σ,A=>tc σ A λb A1=>ifB b (tb (D.lp (EJ tc tb D k)) σ A1) (D.nx σ A1)
@[irreducible] def whN (tc:ATT) (tb:ATS) (D:AEnds) (k:Nat) (σ:ASt) (A:AH):Prop:=EJ tc tb D k σ A
def uj:whN tc tb D 0 σ A=False:=by delta whN;rfl
def hJ:whN tc tb D (k+1) σ A=tc σ A λb A1=>ifB b (tb (D.lp (whN tc tb D k)) σ A1) (D.nx σ A1):=by delta whN;rfl
def aWh(tc:ATT)(tb:ATS):ATS:=λD σ A=>∃k,whN tc tb D k σ A
theorem xf(hp:PassesOwn (model X.prog X.w) X.A X.env X.xe)(hc:AT X T c tc)(hb:ASs X T body tb):AS X T (.While c body [] pos) (aWh tc tb) :=
 (vh hp hc hb).imp λD σv H ⟨ρ,σ,A,DA,rs,⟨k,h⟩,d⟩=>by
  refine ⟨λm σv' H'=>∃ρ2 σ2 A2,Ext ρ H ρ2 H'/\Rs T ρ2 σ2 A2 σv' H'/\whN tc tb DA m σ2 A2,⟨k,ρ,σ,A,Ext.refl _ _,rs,h⟩,?_⟩
  rintro m σv' H' ⟨ρ2,σ2,A2,e2,rs2,q2⟩
  cases m with
  | zero=>rw [uj] at q2;exact q2.elim
  | succ m =>
   rw [hJ] at q2
   refine cy rs2 q2 fun ρ3 b A3 H3 e3 rs3 q3=>?_
   cases b with
   | true =>
    refine ⟨fun σv'' H''=>∃ρ2 σ2 A2,Ext ρ H ρ2 H''/\Rs T ρ2 σ2 A2 σv'' H''/\whN tc tb DA m σ2 A2,fun σ' H' z=>⟨m,ī _,z⟩,ρ3,σ2,A3,_,rs3,q3.t,?_⟩
    have e13:=e2.trans e3
    have d3:=d.ext e13
    exact ⟨fun ρ' σ' A' σv' H' e r q=>⟨ρ',σ',A',e13.trans e,r,q⟩,d3.rt,d3.nx,fun ρ' σ' A' σv' H' e r q=>⟨ρ',σ',A',e13.trans e,r,q⟩⟩
   | false=>exact d.nx ρ3 σ2 A3 σv' H3 (e2.trans e3) rs3 q3.f
def lC(T:Tab)(p:Ú AV->AH->AQ->Prop):Ú V->Hp->VK->Prop:=λvs H Q=>∃ρ0 H0 ρ A xs QA,Ext ρ0 H0 ρ H/\Rl T ρ A H/\RVa T ρ H0 H xs vs/\p xs A QA/\Fin T ρ0 H0 QA Q
abbrev AC(X:Cx)(T:Tab)(f:ß)(p:Ú AV->AH->AQ->Prop):Prop:=CallR X f (lC T p)
def aCB(p:Ú AV->AH->AQ->Prop)(tr:ATA):ATE:=fun σ A Q=>tr σ A λxs A1=>p xs A1 Q
def xG{id:String}{x:Str}{es:ï}{tr:ATA}{pp:Ú AV->AH->AQ->Prop}{p:Pos}(hc:AC X T (.builtin id) pp)(hg:Gl X x)(hm:X.mg x=none)(hv:bootBuiltins x=some (.builtin id))(ha:AA X T (e::es) tr)(hn:x≠"__name__")(hdb:(x==("__debug__":Str))=false)
  (he:starEach (e::es) X.env=(false,eval e X.env)::starEach es X.env)(hpl:(backTo pos (starEach es X.env)).any (·.1)=false):AE X T (.Call (.Name x p) (e::es) [] pos) (aCB pp tr) :=
 (iD hc hg hm hv ha hn hdb he hpl).imp fun σv H Q ⟨ρ,σ,A,QA,rs,h,fin⟩=>kY rs h fun ρ1 xs vs A1 H1 e1 rs1 rv q=>⟨ρ,H,ρ1,A1,xs,QA,e1,rs1.rl,rv,q,fin⟩
def xF{pp:Ú AV->AH->AQ->Prop}(hc:AC X T (.type ty) pp)(hg:Gl X x)(hm:X.mg x=none)(hv:bootBuiltins x=some (.type ty))(ha:AA X T (e::es) tr)(hn:x≠"__name__")(hdb:(x==("__debug__":Str))=false)
  (he:starEach (e::es) X.env=(false,eval e X.env)::starEach es X.env)(hpl:(backTo pos (starEach es X.env)).any (·.1)=false):AE X T (.Call (.Name x p) (e::es) [] pos) (aCB pp tr) :=
 (sO hc hg hm hv ha hn hdb he hpl).imp fun σv H Q ⟨ρ,σ,A,QA,rs,h,fin⟩=>kY rs h fun ρ1 xs vs A1 H1 e1 rs1 rv q=>⟨ρ,H,ρ1,A1,xs,QA,e1,rs1.rl,rv,q,fin⟩
theorem bR{r:Ú V->Hp->VK->Prop}{p:AV->AH->AQ->Prop}(h:CallR X f r)(hp:∀ρ0 H0 ρ A H x v QA Q,Ext ρ0 H0 ρ H->Rl T ρ A H->RV T ρ H x v->FrOk H0 x v->p x A QA->Fin T ρ0 H0 QA Q->r [v] H Q) :
  AC X T f (λxs A Q=>match xs with | [x]=>p x A Q | _=>False):=λpins s σ H vs us Q I ru ⟨ρ0,H0,ρ,A,xs,QA,e,l,rv,q,fin⟩=>by
 match xs,q with
 | [x],q =>
  obtain ⟨v,ws,rfl,h1,h2⟩:=rv
  cases (show ws=[] from h2)
  exact h pins s σ H _ us Q I ru (hp ρ0 H0 ρ A H x v QA Q e l h1.1 h1.2 q fin)
def Fin.now(f:Fin T ρ0 H0 QA Q)(e:Ext ρ0 H0 ρ H)(l:Rl T ρ A H)(r:RV T ρ H x v)(q:QA x A)(hn:aT x=false:=by rfl):Q v H:=f ρ x v A H e l r (nfr hn) q
def Fu(x:AV)(A:AH)(Q:AQ):Prop:=match x with
 | .str z=>nd (z.length<=sizeLine) (Q (.int z.length) A)
 | _=>ok (dA x A) λxs=>Q (.int xs.length) A
theorem Eu(hK:X.K=T.K):AC X T (.builtin "len") (λxs A Q=>match xs with | [x]=>Fu x A Q | _=>False) :=
 bR (CallR.or lR lQ) fun ρ0 H0 ρ A H x v QA Q e l rv fz q fin=>by
  have rest:ok (dA x A) (λxs=>QA (.int xs.length) A)->(∃p ys,[v]=[V.ref p]/\(SqL X.K H p ys\/SqT X.K H p ys)/\Q (V.int ys.length) H):=λq=>by
   obtain ⟨xs,h1,q⟩:=q.of
   obtain ⟨a,vs,rfl,h2,h3⟩:=eE l rv h1
   exact ⟨a,vs,ϱ,hK▸h2,Fin.now fin e l (x:=.int vs.length) rfl (h3.len▸q)⟩
  cases x with
  | str z=>cases (show v=_ from rv);exact .inr ⟨z,rfl,(nd.of q).1,Fin.now fin e l (x:=.int _) rfl (nd.of q).2⟩
  | _=>exact .inl (rest q)
def Bj(x:AV)(A:AH)(Q:AQ):Prop:=ok (dA x A) λxs=>Q (.frl xs) A
def vK(x:AV)(A:AH)(Q:AQ):Prop:=ok (dA x A) λxs=>Q (.tup xs) A
def AK(hK:X.K=T.K):AC X T (.type "list") (λxs A Q=>match xs with | [x]=>Bj x A Q | _=>False) :=
 bR lP fun ρ0 H0 ρ A H x v QA Q e l rv fz q fin=>by
  obtain ⟨xs,h1,q⟩:=q.of
  obtain ⟨a,vs,rfl,h2,h3⟩:=eE l rv h1
  exact ⟨a,vs,ϱ,hK▸h2,λp hp=>Fin.lst (Fin.after fin e) l hp h3 q⟩
theorem xJ(hK:X.K=T.K):AC X T (.type "tuple") (λxs A Q=>match xs with | [x]=>vK x A Q | _=>False) :=
 bR jy fun ρ0 H0 ρ A H x v QA Q e l rv fz q fin=>by
  obtain ⟨xs,h1,q1⟩:=q.of
  clear q
  cases x with
  | tup ys =>
   cases h1
   obtain ⟨a,vs,rfl,h2,h3⟩:=id rv
   exact ⟨a,vs,ϱ,.inr ⟨.of h2,Fin.now fin e l rv q1⟩⟩
  | _ =>
   obtain ⟨a,vs,rfl,h2,h3⟩:=aN l rv h1
   exact ⟨a,vs,ϱ,.inl ⟨hK▸h2,λp hp=>Fin.tup (Fin.after fin e) l hp h3 q1⟩⟩
noncomputable def gx:Ú AV->Option (Ú Bool)
 | []=>some []
 | .bl b::xs=>(gx xs).map (b::·)
 | _=>none
noncomputable def fT:Ú AV->Option (ò)
 | []=>some []
 | .int i::xs=>(fT xs).map (i::·)
 | _=>none
theorem jb:∀{xs:Ú AV} {vs:Ú V} {bs:Ú Bool},RVs T ρ H xs vs->gx xs=some bs->vs=bs.map V.bl
 | [],_,_,h,e=>by cases (show _=[] from h);cases e;rfl
 | x::xs,_,bs,⟨v,ws,e0,h1,h2⟩,e=>by
  subst e0
  cases x<;>first | (cases e;done) | skip
  obtain ⟨r,e1,rfl⟩:=ſ.mp (show (gx xs).map (_::·)=some bs from e)
  rw [jb h2 e1,show v=_ from h1.2];rfl
theorem jO:∀{xs:Ú AV} {vs:Ú V} {bs:ò},RVs T ρ H xs vs->fT xs=some bs->vs=bs.map V.int
 | [],_,_,h,e=>by cases (show _=[] from h);cases e;rfl
 | x::xs,_,bs,⟨v,ws,e0,h1,h2⟩,e=>by
  subst e0
  cases x<;>first | (cases e;done) | skip
  obtain ⟨r,e1,rfl⟩:=ſ.mp (show (fT xs).map (_::·)=some bs from e)
  rw [jO h2 e1,show v=_ from h1.2];rfl
def y7(f:Ú Bool->Bool)(x:AV)(A:AH)(Q:AQ):Prop:=ok (listOf x A) λxs=>ok (gx xs) λbs=>Q (.bl (f bs)) A
def Fp(x:AV)(A:AH)(Q:AQ):Prop:=ok (listOf x A) λxs=>ok (fT xs) λns=>Q (.int ns.sum) A
def Ez(hK:X.K=T.K)(hc:X.calm=true):AC X T (.builtin "all") (λxs A Q=>match xs with | [x]=>y7 (·.all id) x A Q | _=>False) :=
 bR (nI hc) fun ρ0 H0 ρ A H x v QA Q e l rv fz q fin=>by
  obtain ⟨xs,h1,q⟩:=q.of
  obtain ⟨bs,h2,q⟩:=q.of
  obtain ⟨a,vs,rfl,h3,h4⟩:=aN l rv h1
  cases jb h4 h2
  exact ⟨a,bs,ϱ,hK▸h3,Fin.now fin e l (x:=.bl _) rfl q⟩
def Ey(hK:X.K=T.K)(hc:X.calm=true):AC X T (.builtin "any") (λxs A Q=>match xs with | [x]=>y7 (·.any id) x A Q | _=>False) :=
 bR (nH hc) fun ρ0 H0 ρ A H x v QA Q e l rv fz q fin=>by
  obtain ⟨xs,h1,q⟩:=q.of
  obtain ⟨bs,h2,q⟩:=q.of
  obtain ⟨a,vs,rfl,h3,h4⟩:=aN l rv h1
  cases jb h4 h2
  exact ⟨a,bs,ϱ,hK▸h3,Fin.now fin e l (x:=.bl _) rfl q⟩
def Er(hK:X.K=T.K)(hc:X.calm=true):AC X T (.builtin "sum") (λxs A Q=>match xs with | [x]=>Fp x A Q | _=>False) :=
 bR (jz hc) fun ρ0 H0 ρ A H x v QA Q e l rv fz q fin=>by
  obtain ⟨xs,h1,q⟩:=q.of
  obtain ⟨bs,h2,q⟩:=q.of
  obtain ⟨a,vs,rfl,h3,h4⟩:=aN l rv h1
  cases jO h4 h2
  exact ⟨a,bs,ϱ,hK▸h3,Fin.now fin e l (x:=.int _) rfl q⟩
def Fq(x:AV)(A:AH)(Q:AQ):Prop:=match x with
 | .int i=>i.natAbs.log2<1920/\Q (.str (toString i)) A
 | _=>False
def Fv(x:AV)(A:AH)(Q:AQ):Prop:=match x with
 | .bl k=>Q (.int (if k then 1 else 0)) A
 | .str z=>nd (z.length<=640) (ok (PySem.intText? z) λn=>Q (.int n) A)
 | _=>False
def Ft(x:AV)(A:AH)(Q:AQ):Prop:=match x with
 | .str z=>nd (z.length=1) (Q (.int (z.cps.getD 0 0:Nat)) A)
 | _=>False
def Es:AC X T (.type "str") (λxs A Q=>match xs with | [x]=>Fq x A Q | _=>False) :=
 bR lN fun ρ0 H0 ρ A H x v QA Q e l rv fz q fin=>by
  cases x<;>first | (cases q;done) | skip
  cases (show v=_ from rv)
  exact ⟨_,ϱ,q.1,Fin.now fin e l (x:=.str _) rfl q.2⟩
def Ew:AC X T (.type "int") (λxs A Q=>match xs with | [x]=>Fv x A Q | _=>False) :=
 bR (CallR.or tZ jA) fun ρ0 H0 ρ A H x v QA Q e l rv fz q fin=>by
  cases x<;>first | (cases q;done) | skip
  .cases (show v=_ from rv)
   exact .inl (.inr ⟨_,ϱ,Fin.now fin e l (x:=.int _) rfl q⟩)
  .cases (show v=_ from rv)
   obtain ⟨n,h1,q2⟩:=(nd.of q).2.of
   exact .inr ⟨_,n,ϱ,h1,(nd.of q).1,Fin.now fin e l (x:=.int _) rfl q2⟩
def Et:AC X T (.builtin "ord") (λxs A Q=>match xs with | [x]=>Ft x A Q | _=>False) :=
 bR wS fun ρ0 H0 ρ A H x v QA Q e l rv fz q fin=>by
  cases x<;>first | (cases q;done) | skip
  cases (show v=_ from rv)
  exact ⟨_,ϱ,(nd.of q).1,Fin.now fin e l (x:=.int _) rfl (nd.of q).2⟩
end
section
variable {X:Cx}{T:Tab}{a b c e:Û}{ta tb tc:ATE}{pos:Pos}
def Bl:AV->Bool
 | .clo _ _=>false
 | _=>true
def y0(neg:Bool):A2:=λx y A Q=>match y with
 | .non=>nd (Bl x=true) (Q (.bl (xor neg (iQ x))) A)
 | _=>False
def Gx:AOp X T (compareOp .Is) (y0 false):=λpins s σ H v w vv uu Q I rx ry ⟨ρ,A,x,y,QA,rl,rvx,rvy,q,fin⟩=>by
 cases y<;>first | (cases q;done) | skip
 cases (show w=_ from rvy)
 exact C5 pins s σ H _ _ vv uu Q I rx ry ⟨ϱ,by rw [mU rvx (λk xs z=>by subst z;cases q)];exact fin.here rl (x:=.bl _) rfl (by simpa using (nd.of q).2)⟩
def xn:AOp X T (compareOp .IsNot) (y0 true):=λpins s σ H v w vv uu Q I rx ry ⟨ρ,A,x,y,QA,rl,rvx,rvy,q,fin⟩=>by
 cases y<;>first | (cases q;done) | skip
 cases (show w=_ from rvy)
 exact y8 pins s σ H _ _ vv uu Q I rx ry ⟨ϱ,by rw [mU rvx (λk xs z=>by subst z;cases q)];exact fin.here rl (x:=.bl _) rfl (by simpa using (nd.of q).2)⟩
def GL(ta:ATE):ATE:=fun σ A Q=>ta σ A λx A1=>match x with
 | .int i=>Q (.int (-i)) A1
 | _=>False
def El(ha:AE X T a ta):AE X T (.UnaryOp .USub a pos) (GL ta):=(Fj B6 ha).imp fun σv H Q ⟨ρ,σ,A,QA,rs,h,fin⟩=>ao rs h fun ρ1 x v A1 H1 e1 rs1 rv fz q=>by
 cases x<;>first | (cases q;done) | skip
 cases (show v=_ from rv)
 exact ⟨_,ϱ,fin ρ1 (.int _) _ A1 H1 e1 rs1.rl rfl (nfr rfl) q⟩
def l7(p p':A2)(ta tb tc:ATE):ATE:=fun σ A Q=>ta σ A λx A1=>tb σ A1 λy A2=>p x y A2 λz A3=>match z with
 | .bl k=>ifB k (tc σ A3 λw A4=>p' y w A4 Q) (Q (.bl false) A3)
 | _=>False
def jE(rs:Rs T ρ σ A σv H)(h:l7 p p' ta tb tc σ A QA)(fin:Fin T ρ H QA Q):ox (l2 T p) (l2 T p') (lE T ta) (lE T tb) (lE T tc) σv H Q :=
 ao rs h fun ρ1 x v A1 H1 e1 rs1 rv fz q=>ao rs1 q fun ρ2 y w A2 H2 e2 rs2 rw fw q2 =>
  ⟨ρ2,A2,x,y,_,rs2.rl,rv.ext rs1.rl.kd e2,rw,q2,fun ρ3 z u A3 H3 e3 l3 r3 f3 q3=>by
   cases z with
   | bl k =>
    refine ⟨k,r3,?_⟩
    cases k with
    | false=>exact fin ρ3 (.bl false) _ A3 H3 (e1.trans (e2.trans e3)) l3 rfl (nfr rfl) q3.f
    | true=>exact ao (rs2.ext e3 l3) q3.t fun ρ4 z4 u4 A4 H4 e4 rs4 r4 f4 q4=>⟨ρ4,A4,y,z4,QA,rs4.rl,rw.ext rs2.rl.kd (e3.trans e4),r4,q4,fin.after (e1.trans (e2.trans (e3.trans e4)))⟩
   | _=>exact q3.elim⟩
def nV(ho:AOp X T (compareOp op) p)(ho':AOp X T (compareOp op') p')(ha:AE X T a ta)(hb:AE X T b tb)(hc:AE X T c tc)(hm:lastMarks [op,op'] [b,c]=false):AE X T (.Compare a [op,op'] [b,c] pos) (l7 p p' ta tb tc) :=
 (vH ho ho' ha hb hc hm).imp fun σv H Q ⟨ρ,σ,A,QA,rs,h,fin⟩=>jE rs h fin
def w8(ho:AOp X T (compareOp op) p)(ho':AOp X T (compareOp op') p')(ha:AE X T a ta)(hb:AE X T b tb)(hc:AE X T c tc)(hm:lastMarks [op,op'] [b,c]=false):AT X T (.Compare a [op,op'] [b,c] pos) (aB (l7 p p' ta tb tc)) :=
 (vf ho ho' ha hb hc hm).imp fun σv H Q ⟨ρ,σ,A,QA,rs,h,fin⟩=>jE rs h fun ρ3 z u A3 H3 e3 l3 r3 f3 q3=>by
   cases z with
   | bl k=>exact ⟨k,r3,fin ρ3 k A3 H3 e3 l3 q3⟩
   | _=>exact q3.elim
abbrev ATO:=ASt->AH->(Option Int->AH->Prop)->Prop
def lO(T:Tab)(t:ATO):TO:=fun σv H Q=>∃ρ σ A QA,Rs T ρ σ A σv H/\t σ A QA/\∀ρ' i A' H',Ext ρ H ρ' H'->Rl T ρ' A' H'->QA i A'->Q i H'
abbrev APo(X:Cx)(T:Tab)(o:Option Û)(t:ATO):Prop:=PO X o (lO T t)
def rM:ATO:=λ_ A Q=>Q none A
def BJ(ta:ATE):ATO:=fun σ A Q=>ta σ A λx A1=>match x with
 | .int i=>Q (some i) A1
 | _=>False
def Aq:APo X T none rM:=λpins s σv H Q I ⟨ρ,σ,A,QA,rs,h,fin⟩=>yP pins s σv H Q I (fin ρ none A H (Ext.refl _ _) rs.rl h)
def Ap(he:AE X T e ta):APo X T (some e) (BJ ta):=λpins s σv H Q I ⟨ρ,σ,A,QA,rs,h,fin⟩=>yO he pins s σv H Q I (ao rs h fun ρ1 x v A1 H1 e1 rs1 rv fz q=>by
 cases x<;>first | (cases q;done) | skip
 cases (show v=_ from rv)
 exact ⟨_,ϱ,fin ρ1 _ A1 H1 e1 rs1.rl q⟩)
noncomputable def nv(xs:Ú AV)(lo hi:Option Int):Ú AV:=(xs.drop (HT.sIx xs.length 0 lo)).take (HT.sIx xs.length xs.length hi-HT.sIx xs.length 0 lo)
def zY(r:RVs T ρ H xs vs)(lo a:Option Int):RVs T ρ H (nv xs lo a) (tV vs lo a):=by
 unfold nv tV
 rw [r.len]
 exact (r.drop _).take _
def pSl(x:AV)(lo hi:Option Int)(A:AH)(Q:AQ):Prop:=match x with
 | .str z=>nd (z.length<=sizeLine) (Q (.str (Txt.slice z lo hi)) A)
 | .tup _=>False
 | _=>ok (listOf x A) λxs=>Q (.frl (nv xs lo hi)) A
def lSl(T:Tab):V->Option Int->Option Int->Hp->VK->Prop:=λv lo hi H Q=>∃ρ A x QA,Rl T ρ A H/\RV T ρ H x v/\pSl x lo hi A QA/\Fin T ρ H QA Q
theorem D2(hK:X.K=T.K):SlR X (lSl T):=λpins s σ H v vv vl vu lo hi sl Q I rx hs pl pu ⟨ρ,A,x,QA,rl,rv,q,fin⟩=>by
 have rest:ok (listOf x A) (λxs=>QA (.frl (nv xs lo hi)) A)->E8 X.K v lo hi H Q:=λq=>by
  obtain ⟨xs,h1,q⟩:=q.of
  obtain ⟨a,vs,rfl,h2,h3⟩:=aN rl rv h1
  exact ⟨a,vs,ϱ,hK▸h2,λp hp=>fin.lst rl hp (zY h3 lo hi) q⟩
 cases x with
 | str z=>cases (show v=_ from rv);exact Cj pins s σ H _ vv vl vu lo hi sl Q I rx hs pl pu ⟨z,rfl,(nd.of q).1,fin.here rl (x:=.str _) rfl (nd.of q).2⟩
 | tup xs=>exact q.elim
 | _=>exact yk pins s σ H _ vv vl vu lo hi sl Q I rx hs pl pu (rest q)
def aSl(ta:ATE)(tl th:ATO):ATE:=fun σ A Q=>ta σ A λx A1=>tl σ A1 λl A2=>th σ A2 λu A3=>pSl x l u A3 Q
def qF{QA:Option Int->AH->Prop}{Q:Option Int->Hp->Prop}(rs:Rs T ρ σ A σv H)(h:t σ A QA)(f:∀ρ' i A' H',Ext ρ H ρ' H'->Rs T ρ' σ A' σv H'->QA i A'->Q i H'):lO T t σv H Q :=
 ⟨ρ,σ,A,QA,rs,h,fun ρ' i A' H' e l q=>f ρ' i A' H' e (rs.ext e l) q⟩
def GE{lo hi:Option Û}{tl th:ATO}{p2:Pos}(hK:X.K=T.K)(he:AE X T e ta)(hl:APo X T lo tl)(hh:APo X T hi th):AE X T (.Subscript e (.Slice lo hi none p2) pos) (aSl ta tl th) :=
 (vq (D2 hK) he hl hh).imp fun σv H Q ⟨ρ,σ,A,QA,rs,h,fin⟩=>ao rs h fun ρ1 x v A1 H1 e1 rs1 rv fz q=>qF rs1 q fun ρ2 l A2 H2 e2 rs2 q2=>qF rs2 q2 fun ρ3 u A3 H3 e3 rs3 q3 =>
  ⟨ρ3,A3,x,QA,rs3.rl,rv.ext rs1.rl.kd (e2.trans e3),q3,Fin.after fin (e1.trans (e2.trans e3))⟩
def Eo:AE X T (.Dict [] [] pos) GR:=λpins s σv H Q I ⟨ρ,σ,A,QA,rs,h,fin⟩=>by
 rcases h with h | h
 .exact vD pins s σv H Q I λp hp=>fin ρ (.frK [] []) _ A _ (Ext.new1 hp) (rs.rl.new1 hp) ⟨p,[],ϱ,rs.rl.nrN hp,ai,ϱ,ϱ⟩ (λ_ b e=>by cases e;exact hp) h
 .exact vC pins s σv H Q I λp hp=>fin ρ (.frT [] []) _ A _ (Ext.new1 hp) (rs.rl.new1 hp) ⟨p,[],ϱ,rs.rl.nrN hp,ai,ϱ,ϱ⟩ (λ_ b e=>by cases e;exact hp) h
end
end M
namespace L2
open PySem PySem.Spec PyProof.Rows PySem.W
section
variable {prog:ä}{w:â}{A:à}{E:ü}{s:å}{κ:Type} [DecidableEq κ] {knd:HeapKind prog w κ}{d a:ã}
def G1(knd:HeapKind prog w κ)(h:Ý)(d:ã)(xs:Ú (κ×Addr×ß)):Prop:=∃o es ep,h.get? d=some o/\o.ExactDict/\o.data=.dict es ep/\es.toList=xs.map (entryOfKey knd)
theorem pB{α β:Type}(f:α->β):∀(xs:Ú α) (j:Nat),(xs.map f).eraseIdx j=(xs.eraseIdx j).map f
 | [],_=>rfl
 | _::_,0=>rfl
 | x::xs,j+1=>congrArg (f x::·) (pB f xs j)
theorem gi{Q:Option DictEntry->å->Prop}(y:knd.room A)(c:knd.is s.heap k a)(G:s.heap.DictOfH knd d xs)(H:xs.length<=sizeLine)(u:(∀(j:Nat) (p:Addr×ß),xs[j]?≠some (k,p))->Q none {s with toks:=s.toks+knd.draws k})
  (h:∀(j:Nat) (b:ã) (v:ß),xs[j]?=some (k,b,v)->∀h',G1 knd h' d (xs.eraseIdx j)->Heap.SameBut d s.heap h'->Q (some (entryOfKey knd (k,b,v))) {s with heap:=h',toks:=s.toks+knd.draws k}):wpAny (model prog w) A (Builtin.Dict.takeOut d (.ref a)) Q E s:=by
 obtain ⟨o,x,z,l,C,e,m,n,D⟩:=G
 unfold Builtin.Dict.takeOut
 refine Ĭ (ε (knd.pyHash y c ?_))
 have i:x.size=xs.length:=ÿ m
 refine ε (wpAny_dictFind_heap (s:={s with toks:=s.toks+knd.draws k}) y c l e m n D (λF=>π (u F)) (λj p r=>?_))
 refine ε (ř (s:={s with toks:=s.toks+knd.draws k}) l e ?_)
 rw [entry_at m j,r]
 have q:j<x.size:=by rw [i];exact (ž.mp r).1
 refine wpAny_bind (wpAny_updateDictKeys (hz:=by rw [i];exact H) (hf:=by simp [Array.eraseIdxIfInBounds];split<;>simp<;>lia) (s:={s with toks:=s.toks+knd.draws k}) l e (wpAny_pure (h j p.1 p.2 r _ ⟨_,_,z+1,Heap.get?_update_self _ l (Obj.isFreed_of_dict (Obj.data_mapDictKeys e _)),C.mapDictKeys _,Obj.data_mapDictKeys e _,?_⟩ (Heap.SameBut.update ..))))
 rw [Array.eraseIdxIfInBounds,dif_pos q,Array.toList_eraseIdx,m,pB]
def oS(knd:HeapKind prog w κ)(d a:ã)(hs:(d==sysModules)=false)(more:õ)(hm:more=[]\/∃x,more=[x]) :
  MeetsIn prog w (Builtin.«dict.pop» ⟨.ref d :: .ref a :: more, []⟩) (fun A R s => knd.room A.in1 ∧ ∃ k xs, knd.is s.heap k a ∧ s.heap.DictOfH knd d xs ∧ xs.length ≤ sizeLine ∧ ((∀ (j : Nat) (p : ã × ß), xs[j]? ≠ some (k, p)) → ∃ x, more = [x] ∧ ∀ tk, R (.ok (.ret x)) { s with toks := tk }) ∧
   ∀(j:Nat) (b:ã) (v:ß),xs[j]?=some (k,b,v)->∀h',G1 knd h' d (xs.eraseIdx j)->Heap.SameBut d s.heap h'->R (.ok (.ret v)) {s with heap:=h',toks:=s.toks+knd.draws k}) :=
 .of_wp λA R s ⟨hu,k,xs,hkey,hd,lz,no,h⟩=>by
  have hd2:=hd
  obtain ⟨o,es,ep,ho,hc,hdd,he,his,hn⟩:=hd2
  have hne:¬((d==sysModules)=true):=by rw [hs];decide
  unfold Builtin.«dict.pop»
  refine ε ?_
  unfold Builtin.Dict.keyAndDefault
  refine ε (Ľ hd.typeIs ?_)
  rcases hm with rfl | ⟨x,rfl⟩
  .show wpAny _ _ (pure (d,Value.ref a,none)) _ _ s
   refine π ?_
   show wpAny _ _ (dictEntries d >>= λes=>(pure es.isEmpty >>= λ_=>_)) _ _ s
   refine ε (ř ho hdd (ε (π ?_)))
   cases xs with
   | nil=>obtain ⟨x,e,_⟩:=no (λj p e=>by cases e);cases e
   | cons x0 r =>
    have e1:es=⟨entryOfKey knd x0::r.map (entryOfKey knd)⟩:=Ă.mp he
    subst e1
    show wpAny _ _ (Builtin.Dict.takeOut d (.ref a) >>= λ_=>_) _ _ s
    exact ε (gi hu hkey hd lz (λn=>by obtain ⟨x,e,_⟩:=no n;cases e) λj b v hj h' dr sb=>ε (wpAny_letGo (π ⟨_,rfl,h j b v hj h' dr sb⟩)))
  .show wpAny _ _ (pure (d,Value.ref a,some x)) _ _ s
   refine π ?_
   show wpAny _ _ (dictEntries d >>= λes=>(pure es.isEmpty >>= λ_=>_)) _ _ s
   refine ε (ř ho hdd (ε (π ?_)))
   cases xs with
   | nil =>
    have e1:es=#[]:=Ă.mp he
    subst e1
    obtain ⟨x',e,q⟩:=no (λj p e=>by cases e)
    cases e
    show wpAny _ _ (rule "dict.pop.empty" >>= λ_=>(pure none >>= λ_=>_)) _ _ s
    refine ε (wpAny_rule (ε (π ?_)))
    show wpAny _ _ (Builtin.Dict.missedRemoval d (.ref a) >>= λ_=>_) _ _ s
    refine ε ?_
    unfold Builtin.Dict.missedRemoval
    rw [Ž hne]
    exact π (ε (wpAny_rule (π ⟨_,ϱ,q s.toks⟩)))
   | cons x0 r =>
    have e1:es=⟨entryOfKey knd x0::r.map (entryOfKey knd)⟩:=Ă.mp he
    subst e1
    show wpAny _ _ (Builtin.Dict.takeOut d (.ref a) >>= λ_=>_) _ _ s
    refine ε (gi hu hkey hd lz (λn=>?_) λj b v hj h' dr sb=>ε (wpAny_letGo (π ⟨_,ϱ,h j b v hj h' dr sb⟩)))
    obtain ⟨x',e,q⟩:=no n
    cases e
    show wpAny _ _ (Builtin.Dict.missedRemoval d (.ref a) >>= λ_=>_) _ _ _
    refine ε ?_
    unfold Builtin.Dict.missedRemoval
    rw [Ž hne]
    exact π (ε (wpAny_rule (π ⟨_,ϱ,q _⟩)))
end
theorem qS:∀{kvs:List (List Key×V)} {j:Nat} {k:List Key} {v:V},(kvs.map (·.1)).Nodup->kvs[j]?=some (k,v)->kvs.eraseIdx j=bO kvs k
 | [],_,_,_,_,h=>by cases h
 | x::r,0,k,v,n,h=>by
  cases h
  rw [Ŵ,ŝ] at n
  show r=bO ((k,v)::r) k
  unfold bO
  rw [List.filter_cons_of_neg (by simp)]
  refine (Ť.mpr λy hy=>?_).symm
  have ne:y.1≠k:=λz=>n.1 (ϑ.mpr ⟨y,hy,z⟩)
  simp [ne]
 | x::r,j+1,k,v,n,h=>by
  rw [Ŵ,ŝ] at n
  have h':r[j]?=some (k,v):=h
  have ne:x.1≠k:=λz=>n.1 (ϑ.mpr ⟨_,Ÿ h',z.symm⟩)
  show x::r.eraseIdx j=bO (x::r) k
  rw [qS n.2 h']
  unfold bO
  rw [List.filter_cons_of_pos (by simp [ne])]
theorem mC{α β:Type}{R:α->β->Prop}:∀{xs:Ú α} {ys:Ú β} (j:Nat),Paired R xs ys->Paired R (xs.eraseIdx j) (ys.eraseIdx j)
 | _,_,_,.nil=>.nil
 | _,_,0,.cons _ t=>t
 | _,_,j+1,.cons a t=>.cons a (mC j t)
section
variable {X:Cx}{pins:ý}{σ:St}{H:Hp}{s:å}{a b:ã}{k:List Key}{kvs:List (List Key×V)}{v:V}{o e f:Û}{apos cpos:Pos}{td ty tx:TE}{Q:ü}
def qU(hu:X.A.units+1<cLine)(I:Inv X pins σ H s)(O:H a=some (.dT kvs))(eb:H b=some (.tup (List.map kV k)))(c:õ)(hm:c=[]\/∃x,c=[x])(S:bC kvs k=none->∃x,c=[x]/\∀tk,Q x {s with toks:=tk})(h:∀v w' s',bC kvs k=some v->Inv X pins σ (upd H a (.dT (bO kvs k))) s'->RelV v w'->Q w' s') :
  wpAny (model X.prog X.w) X.A (call (.builtin "dict.pop") (.ref a::.ref b::c)) Q X.xe s:=by
 obtain ⟨U,Y,K,d,D⟩:=nh I.hok O
 have len:=ĝ d
 have G:(kvs.map (·.1)).Nodup:=by
  obtain ⟨_,_,_,_,_,_,_,_,G⟩:=id D
  have e:kvs.map (·.1)=K.map (·.1):=List.ext_getElem? λj=>by
   rw [Ź,Ź]
   cases m:kvs[j]? with
   | none=>rw [Ħ (by rw [← len];exact List.getElem?_eq_none_iff.mp m)];rfl
   | some l =>
    obtain ⟨y,o,n,_⟩:=Paired.get1 d m
    rw [o]
    exact congrArg some n
  rw [e];exact G
 have val:∀(j:Nat) (v:V),kvs[j]?=some (k,v)->bC kvs k=some v:=λj v m=>by
  unfold bC
  cases r:kvs.find? λl=>decide (l.1=k) with
  | none=>exact absurd (τ rfl) (List.find?_eq_none.mp r _ (Ÿ m))
  | some l =>
   obtain ⟨i,u⟩:=ķ (List.mem_of_find?_eq_some r)
   have N:l.1=k:=Ξ (List.find?_some (p:=λl:Ú Key×V=>decide (l.1=k)) r)
   have n:(kvs.map (·.1))[i]?=some k:=by rw [Ź,u];exact congrArg some N
   have Z:(kvs.map (·.1))[j]?=some k:=by rw [Ź,m];rfl
   have ij:=(List.getElem?_inj (ž.mp n).1 G).mp (n.trans Z.symm)
   rw [ij,m] at u
   cases u
   rfl
 have ha:argsOk "dict.pop" ⟨.ref a::.ref b::c,[]⟩:=by
  rcases hm with q | ⟨x,q⟩
  .subst q;exact PySem.F.args_dict_pop_2 _ _
  .subst q;exact PySem.F.args_dict_pop_3 _ _ _
 refine Į Ċ D.typeIs PySem.F.entry_dict_pop ha (oS (tupleKind (ay X.prog X.w)) a b Y c hm) ⟨œ hu,k,K,bX I.hok eb,D,by rw [← len];exact U,λno=>S ?_,λj b2 v2 hj h' ⟨q,es,ep,hq,h2,h3,h4⟩ sb=>?_⟩
 .cases ev:bC kvs k with
  | none=>rfl
  | some v =>
   obtain ⟨l,r,_⟩:=ſ.mp ev
   obtain ⟨i,u⟩:=ķ (List.mem_of_find?_eq_some r)
   have N:l.1=k:=Ξ (List.find?_some (p:=λl:Ú Key×V=>decide (l.1=k)) r)
   obtain ⟨y,o,n,_⟩:=Paired.get1 d u
   exact absurd (by rw [o,← N,n]) (no i y.2)
 .have C:j<kvs.length:=by rw [len];exact (ž.mp hj).1
  obtain ⟨y,o,n,Z,e3⟩:=Paired.get1 d (ξ C)
  rw [hj] at o
  cases o
  have m:kvs[j]?=some (k,kvs[j].2):=by rw [ξ C];exact congrArg some (Prod.ext n rfl)
  refine h kvs[j].2 v2 _ (val j _ m) (cE I (by rw [O];exact ϰ) sb ⟨q,hq⟩ ⟨?_,Y,K.eraseIdx j,?_,q,es,ep,hq,h2,h3,h4,?_⟩) e3
  .exact Λ (ŧ _ _) U
  .rw [← qS G m]
   exact Paired.mapP (mC j d) λ_ _ z=>⟨z.1,by rw [ah (λy=>by have:=z.2.1;rw [y,O] at this;cases this)];exact z.2.1,z.2.2⟩
  .obtain ⟨_,_,_,_,_,_,_,_,L⟩:=id D
   rw [← pB]
   exact L.sublist (List.eraseIdx_sublist ..)
end
end L2
namespace L2
open PySem
def rX{h:Ý}{a:ã}{xs ys:æ}(p:h.IsTuple a xs)(q:h.IsTuple a ys):xs=ys:=by
 obtain ⟨o,e,_,n,d⟩:=p
 obtain ⟨i,c,_,j,b⟩:=q
 cases e.symm.trans c
 rw [d] at b
 injection b
variable {prog:ä}{w:â}{A:à}{E:ü}{s:å}
def uw{α:Type}{a b:α}{j:Nat}(h:j<(#[a,b]:Array α).size):(j=0/\(#[a,b]:Array α)[j]=a)\/(j=1/\(#[a,b]:Array α)[j]=b):=by
 have c:j<2:=h
 match j,c with
 | 0,_=>exact .inl ⟨rfl,rfl⟩
 | 1,_=>exact .inr ⟨rfl,rfl⟩
theorem sS{b c:ã}{i j a d:Int}{t u t' l:Tok}(r:A.units<cLine)(p:s.heap.IsTuple b #[.int i t,.int j u])(q:s.heap.IsTuple c #[.int a t',.int d l]) :
  SeqAt.EqAt A s (.ref b) (.ref c) (decide (i=a)&&decide (j=d)):=by
 by_cases e:b=c
 .subst e
  have h:=rX p q
  simp only [Array.mk.injEq,List.cons.injEq,Value.int.injEq,and_true] at h
  rw [τ h.1.1,τ h.2.1]
  exact SeqAt.EqAt.same _
 .refine SeqAt.EqAt.of_refs e ?_
  have z:=SeqAt.RcAt.tuples (A:=A) (s:=s) (e:=λn=>if n=0 then decide (i=a) else decide (j=d)) p q r (λn h1 o=>by
   rcases uw h1 with ⟨n0,e1⟩ | ⟨n0,e1⟩<;>rcases uw o with ⟨m0,h⟩ | ⟨m0,h⟩<;>first | (exfalso;lia) | skip
   .rw [e1,h];subst n0;show SeqAt.EqAt _ _ _ _ (decide (i=a));rw [← ċ];exact SeqAt.EqAt.int_int _ t _ t'
   .rw [e1,h];subst n0;show SeqAt.EqAt _ _ _ _ (decide (j=d));rw [← ċ];exact SeqAt.EqAt.int_int _ u _ l)
  have m:((List.range (min (#[Value.int i t,.int j u]:æ).size (#[Value.int a t',.int d l]:æ).size)).all (λn=>if n=0 then decide (i=a) else decide (j=d))&&(#[Value.int i t,.int j u]:æ).size==(#[Value.int a t',.int d l]:æ).size)=(decide (i=a)&&decide (j=d)):=by
   show ((decide (i=a)&&(decide (j=d)&&true))&&true)=_
   rw [Bool.and_true,Bool.and_true]
  rw [m] at z
  exact z
section
variable {κ:Type} [DecidableEq κ] {knd:HeapKind prog w κ}{d a:ã}
theorem dz{Q:ü}(z:knd.room A)(b:knd.is s.heap k a)(H:s.heap.DictOfH knd d xs)
  (h1:∀p,atKey xs k=some p->Q p.2 {s with toks:=s.toks+knd.draws k})
  (I:atKey xs k=none->∀h',h'.DictOfH knd d (xs++[(k,a,v)])->Heap.SameBut d s.heap h'->Q v {s with heap:=h',toks:=s.toks+knd.draws k})(hsz:xs.length<=sizeLine) :
  wpAny (model prog w) A (dictSetDefault d (.ref a) v) Q E s:=by
 obtain ⟨o,K,C,h,D,c,m,i,n⟩:=H
 unfold dictSetDefault
 try with_reducible refine Ĭ ?_
 refine ε (knd.pyHash z b ?_)
 refine ε (wpAny_dictFind_heap (s:={s with toks:=s.toks+knd.draws k}) z b h c m i n (λl=>?_) (λj p u=>?_))
 .have e0:=atKey_none_of_get l
  have F:k∉xs.map (·.1):=not_mem_keys_of_get l
  refine ε (wpAny_rule (ε (wpAny_updateDictKeys (hz:=by have e:=ÿ m;lia) (s:={s with toks:=s.toks+knd.draws k}) h c (π (I e0 _ ⟨_,_,C+1,Ŏ _ h (Obj.isFreed_of_dict (ą c _)),
   D.mapDictKeys _,ą c _,?_,λx hx=>?_,?_⟩ (ţ ..))))))
  .simp [m,entryOfKey]
  .rcases Ű.mp hx with hx | hx
   .exact knd.keeps (i x hx) h c (ţ ..)
   .have q:=ϵ.mp hx
    subst q
    exact knd.keeps b h c (ţ ..)
  .rw [ů,List.nodup_append]
   refine ⟨n,by simp,λx hx y G q=>?_⟩
   have r:y=k:=by simpa using G
   exact F (r▸q▸hx)
 .refine ε (ř (s:={s with toks:=s.toks+knd.draws k}) h c ?_)
  rw [entry_at m j,u]
  exact ε (wpAny_rule (π (h1 p (atKey_of_get n u))))
def eU(knd:HeapKind prog w κ)(d a:ã)(hd:(d==sysModules)=false)(v:ß) :
  MeetsIn prog w (Builtin.«dict.setdefault» ⟨[.ref d, .ref a, v], []⟩) (fun A R s => knd.room A.in1 ∧ ∃ k xs, knd.is s.heap k a ∧ s.heap.DictOfH knd d xs ∧ xs.length ≤ sizeLine ∧
   (∀p,atKey xs k=some p->R (.ok (.ret p.2)) {s with toks:=s.toks+knd.draws k}) /\
   (atKey xs k=none->∀h',h'.DictOfH knd d (xs++[(k,a,v)])->Heap.SameBut d s.heap h'->R (.ok (.ret v)) {s with heap:=h',toks:=s.toks+knd.draws k})) :=
 .of_wp λA R s ⟨hu,k,xs,hkey,hm,hz,h1,h2⟩=>by
  unfold Builtin.«dict.setdefault»
  refine ε ?_
  unfold Builtin.Dict.keyAndDefault
  refine ε (Ľ hm.typeIs ?_)
  show wpAny _ _ (pure (d,Value.ref a,some v)) _ _ s
  refine π ?_
  show wpAny _ _ (if (d==sysModules)=true then _ else (dictSetDefault d (.ref a) v >>= λ_=>_)) _ _ s
  have hne:¬((d==sysModules)=true):=by rw [hd];decide
  rw [Ž hne]
  exact ε (dz hu hkey hm (λp hp=>π ⟨_,ϱ,h1 p hp⟩) (λe0 h' hm' hs'=>π ⟨_,ϱ,h2 e0 h' hm' hs'⟩) hz)
end
end L2
namespace L2
open PySem PySem.Spec PyProof.Rows PySem.W
def bU:plainId "dict.update.loop"=true:=by decide +kernel
def gu : entryFor table "dict.update.loop" = some Builtin.«dict.update.loop» := entryFor_of_tree (by kernel_rfl)
def pS(P:ä)(w:â)(h:Ý)(u:ß)(kv:Key×ß):Prop:=∃b key,u=.ref b/\h.IsTuple b #[key,kv.2]/\(ay P w).is kv.1 key=true
theorem pF{R:Result->å->Prop}(hh:A.in1.handled=none)(v:d≠it)(a6:d≠t)(a8:it≠t)(us:õ)(c:Ú (Key×ß))(lk:us.length=c.length) :
  ∀(n i:Nat) (s:å) (a:Ú (Key×ß)) (tk:Tok),us.length-i=n->i<=us.length->s.heap.IsTupleIter it t i->s.heap.IsTuple t us.toArray->s.heap.DictOf (ay P w) d a->a.length+us.length<=sizeLine+i ->
   (∀(j:Nat) (u:ß) (kv:Key×ß),us[j]?=some u->c[j]?=some kv->pS P w s.heap u kv/\u≠.ref d/\u≠.ref it) ->
   (∀h' tk',h'.DictOf (ay P w) d (merged a (c.drop i))->(∀b o,b≠d->b≠it->s.heap.get? b=some o->h'.get? b=some o)->R (.ok (.ret .none)) {s with heap:=h',toks:=tk'}) ->
   codeAny (model P w) A (.builtin "dict.update.loop" ⟨[.ref d,.ref it,.int i tk,.none],[]⟩) R s:=by
 intro n
 induction n with
 | zero =>
  intro i s a tk hn hi q H hd hz hp hR
  have e:i=us.length:=by lia
  subst e
  refine Đ gu ?_
  rw [Ķ bU _]
  show wpAny _ A.in1 (pyNext (.ref it) >>= _) _ _ s
  refine wpAny_bind (wpAny_pyNext_tuple_end hh q H (by simp) λh' eb=>?_)
  have e0:c.drop us.length=[]:=by rw [lk];exact ă
  show wpAny _ _ (Builtin.Dict.addKeywords d [] >>= λ_=>ret Value.none) _ _ _
  refine ε (π (π ?_))
  refine hR h' s.toks ?_ (λb o _ nb e=>eb b o nb e)
  rw [e0]
  exact hd.extBut eb v
 | succ n ih =>
  intro i s a tk hn hi q H hd hz hp hR
  have C:i<us.length:=by lia
  have Q:us[i]?=some us[i]:=ξ C
  have G:c[i]?=some (c[i]'(by lia)):=ξ (by lia)
  generalize us[i]=u at Q
  generalize (c[i]'(by lia))=kv at G
  have ek:c.drop i=kv::c.drop (i+1):=by
   rw [Ő (by lia)]
   rw [ξ (by lia)] at G
   rw [Δ G]
  obtain ⟨⟨b,p,rfl,hb,x⟩,nd,ni⟩:=hp i u kv Q G
  have aS:b≠d:=λz=>nd (by rw [z])
  have S:b≠it:=λz=>ni (by rw [z])
  refine Đ gu ?_
  rw [Ķ bU _]
  show wpAny _ A.in1 (pyNext (.ref it) >>= _) _ _ s
  refine wpAny_bind (wpAny_pyNext_tuple_item q H (by simpa using Q) λh1 F h=>?_)
  have D:h1.IsTuple b #[p,kv.2]:=by
   obtain ⟨o,l,r⟩:=hb
   exact ⟨o,(h.2 b S).trans l,r⟩
  have U:h1.DictOf (ay P w) d a:=hd.sameBut h v
  have X:h1.IsTuple t us.toArray:=by
   obtain ⟨o,l,r⟩:=H
   exact ⟨o,(h.2 t (Ne.symm a8)).trans l,r⟩
  refine ε (Ĭ (ε (wpAny_tryCatch ?_)))
  show wpAny _ _ (Builtin.Dict.pairItems (.ref b)) _ _ _
  unfold Builtin.Dict.pairItems
  refine ε (wpAny_typeOf D.typeIs ?_)
  rw [Ż ζ]
  obtain ⟨ob,I,aw,nb,K⟩:=id D
  refine ε (wpAny_seqItems I K (π ?_))
  show wpAny _ _ (holding [p,kv.2] (dictSet d p kv.2)) _ _ _
  refine Ĭ (wpAny_dictSet_pairs x U (λh2 Y m=>?_) (by lia))
  refine π ⟨plainId_quiet bU _,ih (i+1) _ (stored a kv.1 kv.2) _ (by lia) C ?_ ?_ Y ?_ ?_ λh' tk' Z kp=>?_⟩
  .obtain ⟨o,l,r⟩:=F
   exact ⟨o,(m.2 it (Ne.symm v)).trans l,r⟩
  .obtain ⟨o,l,r⟩:=X
   exact ⟨o,(m.2 t (Ne.symm a6)).trans l,r⟩
  .have:(stored a kv.1 kv.2).length<=a.length+1:=by
    unfold stored
    split
    .rw [ν];lia
    .rw [ŷ];exact ι _
   lia
  .intro j u2 a4 e1 e2
   obtain ⟨⟨L,y,rfl,N,O⟩,n1,n2⟩:=hp j u2 a4 e1 e2
   refine ⟨⟨L,y,ϱ,?_,O⟩,n1,n2⟩
   obtain ⟨o,l,r⟩:=N
   exact ⟨o,(m.2 L λz=>n1 (by rw [z])).trans ((h.2 L λz=>n2 (by rw [z])).trans l),r⟩
  .refine hR h' tk' ?_ λb3 o3 x1 x2 e3=>kp b3 o3 x1 x2 ((m.2 b3 x1).trans ((h.2 b3 x2).trans e3))
   rw [ek]
   exact Z
def zg:typeLookup (.type "tuple") "keys"=pure none:=am_miss_of_fast (by kernel_rfl)
set_option maxRecDepth 100000 in
def mQ{E:ü}{Q:è->å->Prop}
  (l:s.heap.get? a=some {cls:=.type "tuple",dict:=none,data:=.seq xs k,slots:=sl})(n:A.handled=none)
  (h:∀h' tk,(∀b o,s.heap.get? b=some o->h'.get? b=some o)->Q none {s with heap:=h',toks:=tk}) :
  wpAny (model prog w) A (getAttr? (.ref a) "keys") Q E s:=by
 obtain ⟨hp,g,d,tk,m⟩:=s
 have j:∀c,(⟨hp,g,d,c,m⟩:å).TypeIs (.ref a) "tuple":=λ_=>⟨_,l,ϱ⟩
 have u:=sub_AttributeError
 have v:=F.slot_tuple_getattribute.lookup
 have x:=F.slot_tuple_getattribute.bind (.ref a)
 have y:=am_tuple_getattr_none
 unfold getAttr? getAttrBy? getAttrBy
 repeat (any_goals (first | assumption | exact j _ | ((with_reducible show wpAny _ _ (call (Value.builtin "tuple.__getattribute__") _ _) _ _ _);refine call_meets F.slot_tuple_getattribute (j _) am_entry_tuple_getattribute (F.args_tuple_getattribute_2 _ _) (meets_getattribute_miss_tuple a xs k sl "keys" _ zg θ θ) ⟨l,n,λh' c e i=>?_⟩) | wp_step))
 obtain ⟨p,q,r⟩:=i.there
 show wpAny _ _ (getattributeRaised _ _ _ _ _ _ _) _ _ _
 unfold getattributeRaised
 repeat (any_goals (first | assumption | wp_step))
 exact h _ _ i.keeps
end L2
namespace L2
open PySem PySem.Spec PyProof.Rows PySem.W
theorem gI{P:ä}{w:â}{A:à}{E:ü}{s:å}{t:ã}{us:õ}{l:Ú (Key×ß)}{Q:ü}(hh:A.handled=none)(nd:s.heap.NoDictAt (.ref t))(ht:s.heap.IsTuple t us.toArray)(lk:us.length=l.length)(hz:us.length<=sizeLine)
  (hp:∀(j:Nat) (u:ß) (kv:Key×ß),us[j]?=some u->l[j]?=some kv->pS P w s.heap u kv)
  (h:∀h' tk,h'.DictOf (ay P w) s.heap.objs.size (merged [] l)->(∀b o,s.heap.get? b=some o->h'.get? b=some o)->Q (.ref s.heap.objs.size) {s with heap:=h',toks:=tk}) :
  wpAny (model P w) A (call (.type "dict") [.ref t]) Q E s:=by
 refine callType_codes (Q₁:=λv s₁=>v=.ref s.heap.objs.size/\s₁={s with heap:=s.heap.push {cls:=.type "dict",data:=.dict #[]}}) F.kt_called_dict (F.kt_typeCall_dict_1 _) F.entry_dict_init (kt_code_dict_new _ ⟨ϱ,ϱ⟩) ?_
 rintro v s₁ ⟨rfl,rfl⟩
 have a:(s.heap.push {cls:=.type "dict",data:=.dict #[]}).DictOf (ay P w) s.heap.objs.size []:=Heap.DictOf.new s.heap
 obtain ⟨o,C,O,n,m⟩:=ht
 have H:=nd.of C
 have p:t<s.heap.objs.size:=η C
 refine ⟨a.typeIs,F.args_dict_init_2 _ _,?_⟩
 unfold Builtin.«dict.__init__»
 refine ε ?_
 unfold Builtin.Dict.selfAndRest
 refine ε (Ľ a.typeIs ?_)
 show wpAny _ _ (pure (s.heap.objs.size,[Value.ref t])) _ _ _
 refine π ?_
 show wpAny _ _ (Builtin.Dict.updateFrom "dict.__init__" s.heap.objs.size (.ref t) [] .none) _ _ _
 unfold Builtin.Dict.updateFrom
 have c:(s.heap.push {cls:=.type "dict",data:=.dict #[]}).get? t=some o:=ϸ _ C
 have I:({s with heap:=s.heap.push {cls:=.type "dict",data:=.dict #[]}}:å).TypeIs (.ref t) "tuple":=⟨o,c,O⟩
 refine ε (wpAny_typeOf I ?_)
 rw [Ż ζ]
 obtain ⟨oc,od,D,a3⟩:=o
 cases (show oc=_ from O)
 cases (show od=_ from H)
 cases (show D=_ from m)
 refine ε (mQ c hh λx a6 y=>?_)
 rw [Ż (show (none:è).isNone=true from rfl)]
 refine ε (wpAny_rule ?_)
 have q:x.DictOf (ay P w) s.heap.objs.size []:=by
  obtain ⟨o,S,U,e,r⟩:=a
  exact ⟨o,S,U,y _ _ e,r⟩
 have K:x.IsTuple t us.toArray:=⟨_,y _ _ c,ϱ,_,ϱ⟩
 refine ε (wpAny_pyIter_tuple K ?_)
 have i:s.heap.objs.size<x.objs.size:=by
  obtain ⟨o,S,U,e,r⟩:=q
  exact η e
 have Y:∀b o,s.heap.get? b=some o->(x.push {cls:=.type "tuple_iterator",data:=.fields #[.ref t,.int 0 0]}).get? b=some o:=λb o e=>ϸ _ (y b o (ϸ _ e))
 refine wpAny_pure ⟨plainId_quiet bU _,pF (A:=A.in1) (d:=s.heap.objs.size) (it:=x.objs.size) (t:=t) hh (Nat.ne_of_lt i) (Nat.ne_of_gt p) (Nat.ne_of_gt (Nat.lt_trans p i)) us l lk us.length 0 _ [] _ (by lia) (Nat.zero_le _) ⟨_,Heap.get?_push_size _ rfl,ϱ,ϱ⟩ ?_ (q.push _) (by simp;exact hz) ?_ λh' L N kp=>?_⟩
 .exact ⟨_,ϸ _ (y _ _ c),ϱ,_,ϱ⟩
 .intro j u kv e1 e2
  obtain ⟨b,G,rfl,⟨o,X,r⟩,hk⟩:=hp j u kv e1 e2
  have Z:=η X
  exact ⟨⟨b,G,ϱ,⟨o,Y _ _ X,r⟩,hk⟩,λz=>absurd Z (by cases z;exact Ņ _),λz=>absurd (Ş Z i) (by cases z;exact Ņ _)⟩
 .exact ⟨ϱ,h h' L N λb o e=>kp b o (Φ (η e)) (Φ (Ş (η e) i)) (Y b o e)⟩
section
variable {X:Cx}
def prD(H:Hp)(kv:Key×V)(u:V):Prop:=∃b,u=.ref b/\H b=some (.tup [kV kv.1,kv.2])
theorem pG(hc:X.calm=true):CallR X (.type "dict") (λxs H Q=>∃t us kvs,xs=[.ref t]/\(∀h,HOk X.prog X.w H h->∃its:õ,Vals us its/\h.NoDictAt (.ref t)/\h.IsTuple t its.toArray)/\Paired (prD H) kvs us/\kvs.length<=1000/\∀p,H p=none->Q (.ref p) (upd H p (.dK (bV [] kvs)))):=by
 intro C s σ H xs us Q I r h
 obtain ⟨t,c,kvs,rfl,D,o,hl,q⟩:=h
 obtain ⟨u,rfl,F⟩:=bz r
 cases F
 obtain ⟨its,x,nd,G⟩:=D _ I.hok
 have l1:=o.len
 have l2:=x.length
 have Z:∀{kvs:List (Key×V)} {c:Ú V} {its:õ},Paired (prD H) kvs c->Vals c its->∃ws:Ú (Key×ß),KV kvs ws/\its.length=ws.length/\∀(j:Nat) (u:ß) (a:Key×ß),its[j]?=some u->ws[j]?=some a->pS X.prog X.w s.heap u a:=by
  intro kvs c its h
  induction h generalizing its with
  | nil=>intro r;cases r;exact ⟨[],.nil,rfl,λj u a e=>by cases e⟩
  | cons p _ ih =>
   rename_i a v kvs c _
   intro r
   cases r with
   | cons r1 r2 =>
    obtain ⟨ws,d,i,l⟩:=ih r2
    obtain ⟨b,rfl,K⟩:=p
    obtain ⟨_,L,N,O⟩:=(show ObjOk X.prog X.w H s.heap b (.tup [kV a.1,a.2]) from I.hok b _ K)
    obtain ⟨S,U,rfl,Y,m⟩:=pW N
    cases r1
    refine ⟨(a.1,U)::ws,.cons ⟨ϱ,m⟩ d,congrArg (·+1) i,λj u n y z=>?_⟩
    cases j with
    | zero =>
     cases y
     cases z
     exact ⟨b,S,ϱ,O.tup,dD Y⟩
    | succ j=>exact l j u n y z
 obtain ⟨ws,d,i,l⟩:=Z o x
 have hs:(1000:Nat)<=sizeLine:=by decide
 have l3:=d.length
 refine gI (I.ok.hd hc) nd G i (by lia) l λh' tk hd kp=>?_
 refine ⟨.ref s.heap.objs.size,_,I.laid (t':=tk) kp (ι _) ?_,ϱ,q _ (I.hok.fresh (ι _))⟩
 have hz:(bV [] kvs).length<=sizeLine:=by
  have h1:=bW kvs []
  rw [List.length_nil] at h1
  lia
 exact lJ hz (by have:=I.big;exact beq_false_of_ne (į this)) (d.merge .nil) hd
end
end L2
namespace M
open PySem PySem.Spec L2
open PyProof.Rows hiding St
inductive BT where
 | str | list | dict
noncomputable def BT.ty:BT->String
 | .str=>"str"
 | .list=>"list"
 | .dict=>"dict"
inductive Rc where
 | b (t:BT) | c (c:Nat) (fs:ñ)
noncomputable def fJ(x:AV)(A:AH):Option Rc:=match x with
 | .str _=>some (.b .str)
 | .frl _=>some (.b .list)
 | .fzl _=>some (.b .list)
 | .frK _ _=>some (.b .dict)
 | .frT _ _=>some (.b .dict)
 | .ref n=>match A n with
  | some (.lst _)=>some (.b .list)
  | some (.dK _ _)=>some (.b .dict)
  | some (.dT _ _)=>some (.b .dict)
  | some (.ins c fs _)=>some (.c c fs)
  | _=>none
 | .obj c fs _=>some (.c c fs)
 | _=>none
section
variable {T:Tab}{ρ:Rho}{A:AH}{H:Hp}
def vc(l:Rl T ρ A H)(r:RV T ρ H x v)(h:fJ x A=some (.b t)):tyV T.K t.ty v H:=by
 cases x with
 | str z=>cases h;cases (show v=_ from r);rfl
 | frl xs=>cases h;obtain ⟨a,d,rfl,h1,c,i⟩:=r;exact .inl ⟨rfl,d,.of c⟩
 | fzl xs=>cases h;obtain ⟨a,d,rfl,h1,c⟩:=r;exact .inl ⟨rfl,d,h1.sq⟩
 | frK ks xs=>cases h;obtain ⟨a,d,rfl,h1,c,i⟩:=r;exact .inr (.inr (.inl ⟨rfl,.inl ⟨_,c⟩⟩))
 | frT ks xs=>cases h;obtain ⟨a,d,rfl,h1,c,i⟩:=r;exact .inr (.inr (.inl ⟨rfl,.inr ⟨_,c⟩⟩))
 | ref n =>
  obtain ⟨a,rfl,j⟩:=r
  unfold fJ at h
  simp only [] at h
  cases e:A n with
  | none=>rw [e] at h;cases h
  | some o =>
   rw [e] at h
   obtain ⟨m,h1,c⟩:=l.obj n _ e
   rw [j] at h1;cases h1
   cases o with
   | lst xs=>cases h;obtain ⟨d,c,_⟩:=c;exact .inl ⟨rfl,d,.of c⟩
   | dK ks xs=>cases h;obtain ⟨d,c,_⟩:=c;exact .inr (.inr (.inl ⟨rfl,.inl ⟨_,c⟩⟩))
   | dT ks xs=>cases h;obtain ⟨d,c,_⟩:=c;exact .inr (.inr (.inl ⟨rfl,.inr ⟨_,c⟩⟩))
   | _=>cases h
 | _=>cases h
def vb(h:fJ x A=some (.c c fs)):nB x A=some (c,fs):=by
 cases x with
 | ref n =>
  unfold fJ at h
  unfold nB
  simp only [] at h ⊢
  cases e:A n with
  | none=>rw [e] at h;cases h
  | some o =>
   rw [e] at h
   cases o<;>first | (cases h;done) | skip
   cases h;rfl
 | obj c' fs' xs=>cases h;rfl
 | _=>cases h
end
inductive Bm where
 | append | clear | get | split | starts | isdigit | join | pop | update | extend | setdef | lstrip
noncomputable def bmN:Bm->Str
 | .append=>"append"
 | .clear=>"clear"
 | .get=>"get"
 | .split=>"split"
 | .starts=>"startswith"
 | .isdigit=>"isdigit"
 | .join=>"join"
 | .pop=>"pop"
 | .update=>"update"
 | .extend=>"extend"
 | .setdef=>"setdefault"
 | .lstrip=>"lstrip"
abbrev ABm:=AV->Ú AV->AH->AQ->Prop
def lM(T:Tab)(p:ABm):V->Ú V->Hp->VK->Prop:=λv vs H Q=>∃ρ A x xs QA,Rl T ρ A H/\RV T ρ H x v/\RVs T ρ H xs vs/\p x xs A QA/\Fin T ρ H QA Q
noncomputable def xk(x:AV)(xs:Ú AV)(A:AH):Option AH:=match x,xs with
 | .ref n,[y]=>match A n with
  | some (.lst ys)=>if ys.length<sizeLine then some (ac A n (.lst (ys++[y]))) else none
  | _=>none
 | _,_=>none
noncomputable def DR(x:AV)(xs:Ú AV)(A:AH):Option AH:=match x,xs with
 | .ref n,[]=>match A n with
  | some (.lst ys)=>some (ac A n (.lst []))
  | _=>none
 | _,_=>none
noncomputable def DQ(x:AV)(xs:Ú AV)(A:AH):Option AH:=match x,xs with
 | .ref n,[]=>match A n with
  | some (.dT ks ys)=>some (ac A n (.dT [] []))
  | _=>none
 | _,_=>none
def gm(f:AV->Ú AV->AH->Option AH):ABm:=λx xs A Q=>ok (f x xs A) λA'=>Q .non A'
def Fw:ABm:=λx xs A Q=>match xs with
 | [k]=>ok (bB x A) λd=>ok (d.get k) λo=>Q (o.getD .non) A
 | [k,y]=>ok (bB x A) λd=>ok (d.get k) λo=>Q (o.getD y) A
 | _=>False
def oI:ABm:=λx xs A Q=>match x,xs with
 | .str z,[.str c]=>nd (c.length=1/\z.length<=1000000) (Q (.frl ((Txt.split z c).map .str)) A)
 | _,_=>False
def kJ:ABm:=λx xs A Q=>match x,xs with
 | .str z,[.str y]=>Q (.bl (Txt.startswith z y)) A
 | .str z,[.str y,.int i]=>Q (.bl (Txt.startswith3 z y i)) A
 | _,_=>False
def oK:ABm:=λx xs A Q=>match x,xs with
 | .str z,[]=>Q (.bl (Txt.isdigit z)) A
 | _,_=>False
noncomputable def mD{κ:Type} [DecidableEq κ](ks:Ú κ)(ys:Ú AV)(k:κ)(r:Ú AV)(mk:Ú κ->Ú AV->AO)(n:Nm)(A:AH):Option (AV×AH):=match glk ks ys k with
 | some y=>if r.length<=1 then some (y,ac A n (mk (dF ks ys k).1 (dF ks ys k).2)) else none
 | none=>match r with
  | [d]=>some (d,A)
  | _=>none
noncomputable def sH(x:AV)(xs:Ú AV)(A:AH):Option (AV×AH):=match x,xs with
 | .ref n,k::r=>match A n with
  | some (.dK ks ys)=>match toK k with
   | some kk=>mD ks ys kk r .dK n A
   | none=>none
  | some (.dT ks ys)=>match kj k with
   | some kk=>mD ks ys kk r .dT n A
   | none=>none
  | _=>none
 | _,_=>none
def Fs:ABm:=λx xs A Q=>ok (sH x xs A) λr=>Q r.1 r.2
noncomputable def aO{κ:Type} [DecidableEq κ]:Ú κ->Ú AV->Ú κ->Ú AV->Ú κ×Ú AV
 | ks,xs,k::ks2,y::ys2=>let r:=cb ks xs k y;aO r.1 r.2 ks2 ys2
 | ks,xs,_,_=>(ks,xs)
noncomputable def rT(x:AV)(xs:Ú AV)(A:AH):Option AH:=match x,xs with
 | .ref n,[.ref m]=>match A n,A m with
  | some (.dK ks ys),some (.dK ks2 ys2)=>if n≠m/\ks.Nodup/\ks.length+ks2.length<=sizeLine then some (ac A n (.dK (aO ks ys ks2 ys2).1 (aO ks ys ks2 ys2).2)) else none
  | _,_=>none
 | _,_=>none
noncomputable def sj(x:AV)(xs:Ú AV)(A:AH):Option (AV×AH):=match x,xs with
 | .ref n,[k,d]=>match A n with
  | some (.dT ks ys)=>match kj k with
   | some kk=>if ks.length<1000 then match glk ks ys kk with
    | some y=>some (y,A)
    | none=>some (d,ac A n (.dT (ks++[kk]) (ys++[d]))) else none
   | none=>none
  | _=>none
 | _,_=>none
def Bh:ABm:=λx xs A Q=>ok (sj x xs A) λr=>Q r.1 r.2
def kK:ABm:=λx xs A Q=>match x,xs with
 | .str z,[.str y]=>nd (z.length<=sizeLine) (Q (.str (Txt.lstripChars z y)) A)
 | _,_=>False
noncomputable def bmP:BT->Bm->Option ABm
 | .str,.lstrip=>some kK
 | .dict,.setdef=>some Bh
 | .dict,.pop=>some Fs
 | .dict,.update=>some (gm rT)
 | .list,.append=>some (gm xk)
 | .list,.clear=>some (gm DR)
 | .dict,.clear=>some (gm DQ)
 | .dict,.get=>some Fw
 | .str,.split=>some oI
 | .str,.starts=>some kJ
 | .str,.isdigit=>some oK
 | _,_=>none
section
variable {X:Cx}{T:Tab}
structure HV(X:Cx)(T:Tab)(t:BT)(b:Bm)(p:ABm):Prop where
 pa:PlainAttrs t.ty
 ex:∃id,Slot t.ty (bmN b) id/\typeOf (.builtin id)=pure (.type "method_descriptor")/\MtR X id (lM T p)
theorem RVs.strs:∀{ss:ó},RVs T ρ H (ss.map .str) (ss.map V.str)
 | []=>rfl
 | s::ss=>⟨_,_,rfl,⟨rfl,rfl⟩,RVs.strs⟩
def RVs.one(h:RVs T ρ H [x] vs):∃v,vs=[v]/\aT x=false/\RV T ρ H x v:=by
 obtain ⟨v,ws,rfl,h1,a⟩:=h
 cases (show ws=[] from a)
 exact ⟨v,ϱ,h1⟩
def RVs.two(h:RVs T ρ H [x,y] vs):∃v w,vs=[v,w]/\(aT x=false/\RV T ρ H x v)/\aT y=false/\RV T ρ H y w:=by
 obtain ⟨v,ws,rfl,h1,a⟩:=h
 obtain ⟨w,rfl,b⟩:=RVs.one a
 exact ⟨v,w,ϱ,h1,b⟩
theorem tj:MtR X "list.append" (lM T (gm xk)):=λpins s σ H v vs vv us Q I rx r ⟨ρ,A,x,xs,QA,rl,rv,rvs,q,fin⟩=>by
 obtain ⟨A',h,q⟩:=q.of
 cases x<;>first | (cases h;done) | skip
 rename_i n
 rcases xs with _ | ⟨y,_ | ⟨_,_⟩⟩<;>first | (cases h;done) | skip
 obtain ⟨a,rfl,hn⟩:=rv
 obtain ⟨w,rfl,nf,rw⟩:=rvs.one
 unfold xk at h
 simp only [] at h
 cases e:A n with
 | none=>rw [e] at h;cases h
 | some o =>
  rw [e] at h
  cases o<;>first | (cases h;done) | skip
  rename_i ys
  simp only [] at h
  split at h
  .rename_i hz
   cases h
   obtain ⟨a',h1,us',h2,h3⟩:=rl.obj n _ e
   rw [hn] at h1;cases h1
   have ex:Ext ρ H ρ (upd H a (.lst (us'++[w]))):=Ext.put hn (by rw [h2];intro z;cases z)
   exact sU pins s σ H _ _ vv us Q I rx r ⟨a,us',w,ϱ,ϱ,h2,by rw [← h3.len];exact hz,fin ρ .non _ _ _ ex (rl.put (u:=.lst _) hn trivial ⟨_,ai,(RVs.app (ys:=[y]) (ws:=[w]) h3 ⟨w,[],ϱ,⟨nf,rw⟩,ϱ⟩).ext rl.kd ex⟩) rfl (nfr rfl) q⟩
  .cases h
theorem vW:MtR X "list.clear" (lM T (gm DR)):=λpins s σ H v vs vv us Q I rx r ⟨ρ,A,x,xs,QA,rl,rv,rvs,q,fin⟩=>by
 obtain ⟨A',h,q⟩:=q.of
 cases x<;>first | (cases h;done) | skip
 rename_i n
 rcases xs with _ | ⟨_,_⟩<;>first | (cases h;done) | skip
 obtain ⟨a,rfl,hn⟩:=rv
 cases (show vs=[] from rvs)
 unfold DR at h
 simp only [] at h
 cases e:A n with
 | none=>rw [e] at h;cases h
 | some o =>
  rw [e] at h
  cases o<;>first | (cases h;done) | skip
  cases h
  obtain ⟨a',h1,us',h2,h3⟩:=rl.obj n _ e
  rw [hn] at h1;cases h1
  have ex:Ext ρ H ρ (upd H a (.lst [])):=Ext.put hn (by rw [h2];intro z;cases z)
  exact vU pins s σ H _ _ vv us Q I rx r ⟨a,us',ϱ,ϱ,h2,fin ρ .non _ _ _ ex (rl.put (u:=.lst []) hn trivial ⟨[],ai,ϱ⟩) rfl (nfr rfl) q⟩
def kR{prog:ä}{w:â}{knd:HeapKind prog w (List Key)}{d:ã} :
  MeetsIn prog w (Builtin.«dict.clear» ⟨[.ref d], []⟩) (fun _ R s => ∃ xs, s.heap.DictOfH knd d xs ∧ xs.length ≤ sizeLine ∧
   ∀h',h'.DictOfH knd d []->Heap.SameBut d s.heap h'->R (.ok (.ret .none)) {s with heap:=h'}) :=
 .of_wp λA R s ⟨kvs,hm,hsz,h⟩=>by
  obtain ⟨o,es,ep,ho,hc,hdat,hk,hn⟩:=id hm
  have hes:es.size<=sizeLine:=by rw [ÿ hk];exact hsz
  unfold Builtin.«dict.clear»
  refine ε ?_
  unfold Builtin.Dict.noArgs
  refine ε (Ľ hm.typeIs ?_)
  show wpAny _ _ (pure d) _ _ s
  refine π ?_
  refine ε (ř ho hdat ?_)
  refine ε ?_
  unfold bearsInstanceDictMark
  refine ε (wpAny_load ho (π ?_))
  refine ε (wpAny_updateDictKeys (hz:=hes) ho hdat ?_)
  have hnew:(s.heap.update d (Obj.mapDictKeys λ_=>#[])).DictOfH knd d [] :=
   ⟨_,_,ep+1,Ŏ _ ho (Obj.isFreed_of_dict (ą hdat _)),hc.mapDictKeys _,ą hdat _,ϱ,⟨λ_ z=>(ņ z).elim,ŭ⟩⟩
  split
  .exact ε (wpAny_letGo (π ⟨.none,ϱ,h _ hnew (ţ ..)⟩))
  .exact ε (π (π ⟨.none,ϱ,h _ hnew (ţ ..)⟩))
def wM{b:ý}{σ:L2.St}{H:Hp}{s:å}{a:ã}{i:List (List Key×V)}{A:à}{E:ü}{Q:ü}(I:Inv X b σ H s)(e:H a=some (.dT i))(h:∀s',Inv X b σ (upd H a (.dT [])) s'->Q .none s'):wpAny (model X.prog X.w) A (call (.builtin "dict.clear") [.ref a]) Q E s:=by
 obtain ⟨z,l,m,d,j⟩:=nh I.hok e
 refine Į PySem.F.slot_dict_clear j.typeIs PySem.F.entry_dict_clear (PySem.F.args_dict_clear_1 _) kR ⟨m,j,by rw [← ĝ d];exact z,λD c G=>h _ ?_⟩
 have C:∃q,D.get? a=some q:=let ⟨q,_,_,hq,_⟩:=c;⟨q,hq⟩
 obtain ⟨o,n,p,r,u,v,x,_,y⟩:=c
 exact cE (t':=s.toks) I (by rw [e];exact ϰ) G C ⟨ϖ _,l,[],.nil,o,n,p,r,u,v,x,y⟩
theorem sZ:MtR X "dict.clear" (lM T (gm DQ)):=λpins s σ H v vs vv us Q I rx r ⟨ρ,A,x,xs,QA,rl,rv,rvs,q,fin⟩=>by
 obtain ⟨A',h,q⟩:=q.of
 cases x<;>first | (cases h;done) | skip
 rename_i n
 rcases xs with _ | ⟨_,_⟩<;>first | (cases h;done) | skip
 obtain ⟨a,rfl,hn⟩:=rv
 cases (show vs=[] from rvs)
 cases r
 cases rx
 unfold DQ at h
 simp only [] at h
 cases e:A n with
 | none=>rw [e] at h;cases h
 | some o =>
  rw [e] at h
  cases o<;>first | (cases h;done) | skip
  cases h
  obtain ⟨a',h1,us',h2,h3⟩:=rl.obj n _ e
  rw [hn] at h1;cases h1
  have ex:Ext ρ H ρ (upd H a (.dT [])):=Ext.put hn (by rw [h2];intro z;cases z)
  exact wM I h2 λs' I'=>⟨.non,_,I',ϱ,fin ρ .non _ _ _ ex (rl.put (u:=.dT [] []) hn trivial ⟨[],ai,ϱ,ϱ⟩) rfl (nfr rfl) q⟩
def RO.getD(h:RO T ρ H o ov)(nf:aT y=false)(r:RV T ρ H y w):aT (o.getD y)=false/\RV T ρ H (o.getD y) (ov.getD w):=by
 cases o with
 | none=>cases (show ov=none from h);exact ⟨nf,r⟩
 | some z=>obtain ⟨u,rfl,h1,a⟩:=h;exact ⟨h1,a⟩
def Db(hu:X.A.units+1<cLine):MtR X "dict.get" (lM T Fw):=λpins s σ H v vs vv us Q I rx r ⟨ρ,A,x,xs,QA,rl,rv,rvs,q,fin⟩=>by
 rcases xs with _ | ⟨k,_ | ⟨y,_ | ⟨_,_⟩⟩⟩<;>first | (cases q;done) | skip
 .obtain ⟨d,h1,q⟩:=q.of
  obtain ⟨o,h2,q⟩:=q.of
  obtain ⟨a,rfl,h3⟩:=cS rl rv h1
  obtain ⟨w,rfl,nf,rw⟩:=rvs.one
  obtain ⟨ov,g,ro⟩:=h3.get rw h2
  obtain ⟨u,rfl,ru⟩:=r.one
  cases rx
  obtain ⟨f,rr⟩:=ro.getD (y:=.non) (w:=.non) rfl rfl
  exact DL hu I g ru λw' s' I' rw'=>⟨_,H,I',rw',fin.here rl rr q f⟩
 .obtain ⟨d,h1,q⟩:=q.of
  obtain ⟨o,h2,q⟩:=q.of
  obtain ⟨a,rfl,h3⟩:=cS rl rv h1
  obtain ⟨w,z,rfl,⟨nf,rw⟩,nf2,rz⟩:=rvs.two
  obtain ⟨ov,g,ro⟩:=h3.get rw h2
  obtain ⟨u,u2,rfl,ru,ru2⟩:=r.two
  cases rx
  obtain ⟨f,rr⟩:=ro.getD nf2 rz
  exact DK hu I g ru ru2 λw' s' I' rw'=>⟨_,H,I',rw',fin.here rl rr q f⟩
def vQ{c:Str}(h:c.length=1):∃n,c=⟨#[n]⟩:=by
 obtain ⟨⟨l⟩⟩:=c
 rcases l with _ | ⟨n,_ | ⟨_,_⟩⟩
 .cases h
 .exact ⟨n,ϱ⟩
 .cases h
def vV:MtR X "str.split" (lM T oI):=λpins s σ H v vs vv us Q I rx r ⟨ρ,A,x,xs,QA,rl,rv,rvs,q,fin⟩=>by
 unfold oI at q
 split at q
 .rename_i z c
  cases (show v=_ from rv)
  obtain ⟨w,rfl,nf,rw⟩:=rvs.one
  cases (show w=_ from rw)
  obtain ⟨q,q2⟩:=nd.of q
  obtain ⟨n,rfl⟩:=vQ q.1
  exact sT pins s σ H _ _ vv us Q I rx r ⟨z,n,ϱ,ϱ,q.2,λp hp=>fin.lst rl hp RVs.strs q2⟩
 .exact q.elim
def sW:MtR X "str.startswith" (lM T kJ):=λpins s σ H v vs vv us Q I rx r ⟨ρ,A,x,xs,QA,rl,rv,rvs,q,fin⟩=>by
 unfold kJ at q
 split at q
 .rename_i z c
  cases (show v=_ from rv)
  obtain ⟨w,rfl,nf,rw⟩:=rvs.one
  cases (show w=_ from rw)
  exact jv pins s σ H _ _ vv us Q I rx r ⟨z,c,ϱ,ϱ,fin.here rl (x:=.bl _) rfl q⟩
 .rename_i z c i
  cases (show v=_ from rv)
  obtain ⟨w,w2,rfl,⟨nf,rw⟩,nf2,rw2⟩:=rvs.two
  cases (show w=_ from rw)
  cases (show w2=_ from rw2)
  exact iJ pins s σ H _ _ vv us Q I rx r ⟨z,c,i,ϱ,ϱ,fin.here rl (x:=.bl _) rfl q⟩
 .exact q.elim
def sY:MtR X "str.lstrip" (lM T kK):=λpins s σ H v vs vv us Q I rx r ⟨ρ,A,x,xs,QA,rl,rv,rvs,q,fin⟩=>by
 unfold kK at q
 split at q
 .rename_i z c
  cases (show v=_ from rv)
  obtain ⟨w,rfl,nf,rw⟩:=rvs.one
  cases (show w=_ from rw)
  obtain ⟨t,rfl⟩:=rx
  obtain ⟨u,rfl,⟨t1,rfl⟩⟩:=r.one
  exact SC.lstripChars (λt' k=>⟨.str _,H,I.tok _,⟨_,ϱ⟩,fin.here rl (x:=.str _) rfl q.of.2⟩) q.of.1
 .exact q.elim
def oR:MtR X "str.isdigit" (lM T oK):=λpins s σ H v vs vv us Q I rx r ⟨ρ,A,x,xs,QA,rl,rv,rvs,q,fin⟩=>by
 unfold oK at q
 split at q
 .rename_i z
  cases (show v=_ from rv)
  cases (show vs=[] from rvs)
  exact oQ pins s σ H _ _ vv us Q I rx r ⟨z,ϱ,ϱ,fin.here rl (x:=.bl _) rfl q⟩
 .exact q.elim
theorem Da(K:X.A.units+1<cLine):MtR X "dict.pop" (lM T Fs):=λpins s σ H v vs vv us Q I rx r ⟨ρ,A,x,xs,QA,rl,rv,rvs,q,fin⟩=>by
 obtain ⟨⟨y,A'⟩,h,q⟩:=q.of
 cases x<;>first | (cases h;done) | skip
 rename_i n
 rcases xs with _ | ⟨k,rest⟩<;>first | (cases h;done) | skip
 obtain ⟨a,rfl,hn⟩:=rv
 cases rx
 obtain ⟨w,ws,rfl,⟨nfk,rk⟩,rws⟩:=rvs
 rcases r with _ | ⟨ru,rr⟩
 rename_i u us
 unfold sH at h
 simp only [] at h
 cases e:A n with
 | none=>rw [e] at h;cases h
 | some o =>
  rw [e] at h
  obtain ⟨a',h1,om⟩:=rl.obj n _ e
  rw [hn] at h1;cases h1
  cases o<;>first | (cases h;done) | skip
  .rename_i ks ys
   simp only [] at h
   cases hk:toK k with
   | none=>rw [hk] at h;cases h
   | some kk =>
    rw [hk] at h
    cases hV rk hk
    obtain ⟨vs',h2,h4,h3⟩:=om
    obtain ⟨g1,g2⟩:=dO (k:=kk) h4 h3
    unfold mD at h
    cases hg:glk ks ys kk with
    | some z =>
     simp only [hg] at h
     split at h
     .rename_i hl
      cases h
      obtain ⟨w',e1,e2⟩:=g2 _ hg
      obtain ⟨vs2,d1,d2,d3⟩:=iW (k:=kk) h4 h3
      have ex:Ext ρ H ρ (upd H a (.dK (bO (ks.zip vs') kk))):=Ext.put hn (by rw [h2];intro z;cases z)
      have hm:us=[]\/∃x,us=[x]:=by
       have C:=rr.length
       have l2:=rws.len
       rcases us with _ | ⟨u1,_ | ⟨_,_⟩⟩
       .exact .inl rfl
       .exact .inr ⟨u1,ϱ⟩
       .simp only [List.length_cons] at C;lia
      exact F7 I h2 ru e1 hm λG D l c=>⟨w',_,l,c,fin ρ y w' _ _ ex (rl.put (u:=.dK _ _) hn trivial ⟨vs2,by rw [ai,d1],d3,d2.ext rl.kd ex⟩) (e2.ext rl.kd ex) (nfr (h3.nf _ (fW hg))) q⟩
     .cases h
    | none =>
     simp only [hg] at h
     rcases rest with _ | ⟨d,_ | ⟨_,_⟩⟩<;>first | (cases h;done) | skip
     cases h
     obtain ⟨w',rfl,i,p⟩:=rws.one
     obtain ⟨m,rfl,j⟩:=Vals.one rr
     exact DJ I h2 ru (g1 hg) λD l=>⟨w',H,l,j,fin.here rl p q i⟩
  .rename_i ks ys
   simp only [] at h
   cases hk:kj k with
   | none=>rw [hk] at h;cases h
   | some kk =>
    rw [hk] at h
    obtain ⟨b,rfl,F⟩:=gK rk hk
    cases ru
    obtain ⟨vs',h2,h4,h3⟩:=om
    obtain ⟨g1,g2⟩:=dO (k:=kk) h4 h3
    unfold mD at h
    cases hg:glk ks ys kk with
    | some z =>
     simp only [hg] at h
     split at h
     .rename_i hl
      cases h
      obtain ⟨w',e1,e2⟩:=g2 _ hg
      obtain ⟨vs2,d1,d2,d3⟩:=iW (k:=kk) h4 h3
      have ex:Ext ρ H ρ (upd H a (.dT (bO (ks.zip vs') kk))):=Ext.put hn (by rw [h2];intro z;cases z)
      have hm:us=[]\/∃x,us=[x]:=by
       have C:=rr.length
       have l2:=rws.len
       rcases us with _ | ⟨u1,_ | ⟨_,_⟩⟩
       .exact .inl rfl
       .exact .inr ⟨u1,ϱ⟩
       .simp only [List.length_cons] at C;lia
      exact qU K I h2 F us hm (λz=>by rw [e1] at z;cases z) λL G D z l c=>by
       rw [e1] at z;cases z
       exact ⟨w',_,l,c,fin ρ y w' _ _ ex (rl.put (u:=.dT _ _) hn trivial ⟨vs2,by rw [ai,d1],d3,d2.ext rl.kd ex⟩) (e2.ext rl.kd ex) (nfr (h3.nf _ (fW hg))) q⟩
     .cases h
    | none =>
     simp only [hg] at h
     rcases rest with _ | ⟨d,_ | ⟨_,_⟩⟩<;>first | (cases h;done) | skip
     cases h
     obtain ⟨w',rfl,i,p⟩:=rws.one
     obtain ⟨m,rfl,j⟩:=Vals.one rr
     exact qU K I h2 F [m] (.inr ⟨m,ϱ⟩) (λ_=>⟨m,ϱ,λN=>⟨w',H,I.tok _,j,fin.here rl p q i⟩⟩) λL G D z l c=>by rw [g1 hg] at z;cases z
theorem qO{κ:Type} [DecidableEq κ]:∀{ks:Ú κ} {xs:Ú AV} {k:κ} {y:AV},ks.length=xs.length->ks.Nodup->(cb ks xs k y).1.Nodup/\∀j,j∈(cb ks xs k y).1->j=k\/j∈ks
 | [],xs,k,y,_,_=>by simp [cb]
 | a::ks,[],_,_,hl,_=>by simp at hl
 | a::ks,x::xs,k,y,hl,nd=>by
  obtain ⟨i1,i2⟩:=qO (k:=k) (y:=y) (by simpa using hl) (List.nodup_cons.mp nd).2
  unfold cb
  split
  .exact ⟨nd,λj hj=>.inr hj⟩
  .rename_i hne
   refine ⟨ŝ.mpr ⟨λz=>?_,i1⟩,λj hj=>?_⟩
   .rcases i2 a z with z | z
    .exact hne z
    .exact (ŝ.mp nd).1 z
   .rcases ϕ.mp hj with z | z
    .exact .inr (by rw [z];exact Ω)
    .exact (i2 j z).imp id λz=>Θ _ z
theorem fV:∀{ks2:List Key} {ys2:Ú AV} {vs2:Ú V} {ks:List Key} {xs:Ú AV} {vs:Ú V},ks.Nodup->ks.length=xs.length->RVs T ρ H xs vs->ks2.length=ys2.length->RVs T ρ H ys2 vs2 ->
  ∃vs',bV (ks.zip vs) (ks2.zip vs2)=(aO ks xs ks2 ys2).1.zip vs'/\RVs T ρ H (aO ks xs ks2 ys2).2 vs'/\(aO ks xs ks2 ys2).1.length=(aO ks xs ks2 ys2).2.length
 | [],[],_,ks,xs,vs,nd,hl,r,_,r2=>⟨vs,by simp [bV,aO],by simpa [aO] using r,by simpa [aO] using hl⟩
 | k::ks2,y::ys2,_,ks,xs,vs,nd,hl,r,hl2,⟨w,ws,e,h1,h2⟩=>by
  subst e
  obtain ⟨vs',e1,e2,e3⟩:=gQ (k:=k) nd hl r h1
  obtain ⟨vs3,f1,f2,f3⟩:=fV (qO hl nd).1 e3 e2 (by simpa using hl2) h2
  refine ⟨vs3,?_,f2,f3⟩
  show bV (bE (ks.zip vs) k w) (ks2.zip ws)=_
  rw [e1,f1];rfl
 | [],_::_,_,_,_,_,_,_,_,hl,_=>by cases hl
 | _::_,[],_,_,_,_,_,_,_,hl,_=>by cases hl
theorem sV:MtR X "dict.update" (lM T (gm rT)):=λpins s σ H v vs vv us Q I rx r ⟨ρ,A,x,xs,QA,rl,rv,rvs,q,fin⟩=>by
 obtain ⟨A',h,q⟩:=q.of
 unfold rT at h
 split at h
 .rename_i n m
  split at h
  .rename_i ks ys ks2 ys2 e1 e2
   split at h
   .rename_i hz
    cases h
    obtain ⟨hne,nd,hz⟩:=hz
    obtain ⟨a,rfl,hn⟩:=rv
    obtain ⟨w,rfl,nf,rw⟩:=rvs.one
    obtain ⟨b,rfl,hm⟩:=rw
    obtain ⟨a',h1,us',h2,h4,h3⟩:=rl.obj n _ e1
    rw [hn] at h1;cases h1
    obtain ⟨b',h1,us2,h5,h7,h6⟩:=rl.obj m _ e2
    rw [hm] at h1;cases h1
    obtain ⟨u,rfl,ru⟩:=r.one
    cases rx
    cases ru
    obtain ⟨vs3,f1,f2,f3⟩:=fV nd h4 h3 h7 h6
    have nab:a≠b:=λz=>hne (rl.inj n m a hn (by rw [z];exact hm))
    have ex:Ext ρ H ρ (upd H a (.dK (bV (ks.zip us') (ks2.zip us2)))):=Ext.put hn (by rw [h2];intro z;cases z)
    have hz':(ks.zip us').length+(ks2.zip us2).length<=sizeLine:=by rw [dX h4 h3,dX h7 h6];exact hz
    obtain ⟨z1,hd1,vs1,rel1,dd1⟩:=nj I.hok h2
    obtain ⟨z2,hd2,vs2,rel2,dd2⟩:=nj I.hok h5
    refine Į PySem.F.slot_dict_update dd1.typeIs PySem.F.entry_dict_update (PySem.F.args_dict_update_2 _ _) (meets_dict_update (ay X.prog X.w) a b nab hd2) ⟨vs1,vs2,dd1,dd2,by rw [← rel1.length,← rel2.length];exact hz',λh' d1 d2 hs=>?_⟩
    have he:∃q,h'.get? a=some q:=let ⟨q,_,_,hq,_⟩:=d1;⟨q,hq⟩
    refine ⟨.non,_,cE (t':=s.toks) I (by rw [h2];exact ϰ) hs he (lJ ?_ hd1 (rel2.merge rel1) d1),ϱ,fin ρ .non _ _ _ ex (rl.put (u:=.dK _ _) hn trivial ⟨vs3,by rw [ai,f1],f3,f2.ext rl.kd ex⟩) rfl (nfr rfl) q⟩
    have:=bW (ks2.zip us2) (ks.zip us')
    lia
   .cases h
  .cases h
 .cases h
theorem sX(O:X.A.units+1<cLine):MtR X "dict.setdefault" (lM T Bh):=λpins s σ H v vs vv us Q I rx r ⟨ρ,A,x,xs,QA,rl,rv,rvs,q,fin⟩=>by
 obtain ⟨⟨y,A'⟩,h,q⟩:=q.of
 cases x<;>first | (cases h;done) | skip
 rename_i n
 rcases xs with _ | ⟨k,_ | ⟨d,_ | ⟨_,_⟩⟩⟩<;>first | (cases h;done) | skip
 obtain ⟨a,rfl,hn⟩:=rv
 cases rx
 obtain ⟨w,z,rfl,⟨nfk,rk⟩,nfd,rd⟩:=rvs.two
 obtain ⟨u,fv,rfl,ru,rz⟩:=r.two
 unfold sj at h
 simp only [] at h
 cases e:A n with
 | none=>rw [e] at h;cases h
 | some o =>
  rw [e] at h
  obtain ⟨a',h1,om⟩:=rl.obj n _ e
  rw [hn] at h1;cases h1
  cases o<;>first | (cases h;done) | skip
  rename_i ks ys
  simp only [] at h
  cases hk:kj k with
  | none=>rw [hk] at h;cases h
  | some kk =>
   rw [hk] at h
   simp only [] at h
   split at h
   .rename_i hl
    have line:(1000:Nat)<=sizeLine:=by decide
    obtain ⟨b,rfl,hb⟩:=gK rk hk
    cases ru
    obtain ⟨vs',h2,h4,h3⟩:=om
    obtain ⟨g1,g2⟩:=dO (k:=kk) h4 h3
    obtain ⟨hz,hd,xs,rel,dd⟩:=nh I.hok h2
    have hz':xs.length<=sizeLine:=by rw [← ĝ rel];exact hz
    have hlen:=dX h4 h3
    refine Į PySem.F.slot_dict_setdefault dd.typeIs PySem.F.entry_dict_setdefault (PySem.F.args_dict_setdefault_3 _ _ _) (eU (tupleKind (ay X.prog X.w)) a b hd fv) ⟨œ O,kk,xs,bX I.hok hb,dd,hz',λp hp=>?_,λhnn h' dd' hs=>?_⟩
    .have rv:=rel.val kk
     rw [hp] at rv
     cases hg:glk ks ys kk with
     | none=>rw [g1 hg] at rv;exact (show False from rv).elim
     | some y' =>
      rw [hg] at h
      cases h
      obtain ⟨w',e1,e2⟩:=g2 _ hg
      rw [e1] at rv
      exact ⟨w',H,I.tok _,rv,fin.here rl e2 q (h3.nf _ (fW hg))⟩
    .have rv:=rel.val kk
     rw [hnn] at rv
     cases hg:glk ks ys kk with
     | some y'=>obtain ⟨w',e1,e2⟩:=g2 _ hg;rw [e1] at rv;exact (show False from rv).elim
     | none =>
      rw [hg] at h
      cases h
      have eq:(ks.zip vs')++[(kk,z)]=(ks++[kk]).zip (vs'++[z]):=by
       rw [List.zip_append (by rw [h4,h3.len])];rfl
      have D:Ext ρ H ρ (upd H a (.dT (ks.zip vs'++[(kk,z)]))):=Ext.put hn (by rw [h2];intro z;cases z)
      refine ⟨z,_,?_,rz,fin ρ y z _ _ D (rl.put (u:=.dT _ _) hn trivial ⟨vs'++[z],by rw [ai,eq],by simp [h4],(RVs.app (ys:=[y]) (ws:=[z]) h3 ⟨z,[],ϱ,⟨nfd,rd⟩,ϱ⟩).ext rl.kd D⟩) (rd.ext rl.kd D) (nfr nfd) q⟩
      obtain ⟨q,L,N,G,j,l,m,_,C⟩:=dd'
      have i:KT H (ks.zip vs'++[(kk,z)]) (xs++[(kk,b,fv)]):=Paired.snoc rel ⟨ϱ,hb,rz⟩
      refine cE I (by rw [h2];exact True.intro) hs ⟨q,G⟩ ⟨by rw [List.length_append,hlen];simp only [List.length_singleton];lia,hd,_,i.keeps λc ys K=>?_,q,L,N,G,j,l,m,C⟩
      rw [ah (qC K h2 (λz=>nomatch z))]
      exact K
   .cases h
def Bz(c:X.K=T.K)(a:X.A.units+1<cLine)(h:bmP t b=some p):HV X T t b p:=by
 cases t<;>cases b<;>first | (cases h;done) | skip
 all_goals cases h
 .exact ⟨Ē,_,PySem.F.slot_str_split,PySem.F.type_str_split,vV⟩
 .exact ⟨Ē,_,PySem.F.slot_str_startswith,PySem.F.type_str_startswith,sW⟩
 .exact ⟨Ē,_,PySem.F.slot_str_isdigit,PySem.F.type_str_isdigit,oR⟩
 .exact ⟨Ē,_,PySem.F.slot_str_lstrip,PySem.F.type_str_lstrip,sY⟩
 .exact ⟨PySem.F.plainAttrs_list,_,PySem.F.slot_list_append,PySem.F.type_list_append,tj⟩
 .exact ⟨PySem.F.plainAttrs_list,_,PySem.F.slot_list_clear,PySem.F.type_list_clear,vW⟩
 .exact ⟨Ŕ,_,PySem.F.slot_dict_clear,PySem.F.type_dict_clear,sZ⟩
 .exact ⟨Ŕ,_,ľ,PySem.F.type_dict_get,Db a⟩
 .exact ⟨Ŕ,_,Ċ,PySem.F.type_dict_pop,Da a⟩
 .exact ⟨Ŕ,_,PySem.F.slot_dict_update,PySem.F.type_dict_update,sV⟩
 .exact ⟨Ŕ,_,PySem.F.slot_dict_setdefault,PySem.F.type_dict_setdefault,sX a⟩
end
def pQ(me:Nat->Nat->Option Nat)(call:Nat->ASp)(b:Option Bm)(m:Nat)(ta:ATE)(tr:ATA):ATE:=fun σ A Q=>ta σ A λx A1=>ok (fJ x A1) λr=>match r with
 | .b t=>ok b λb=>ok (bmP t b) λp=>tr σ A1 λxs A2=>p x xs A2 Q
 | .c c fs=>nd (fs.contains m=false) (ok (me c m) λf=>tr σ A1 λxs A2=>call f (x::xs) A2 Q)
section
variable {X:Cx}{T:Tab}{e o:Û}{es:ï}{ta tb:ATE}{tr:ATA}{sp:ASp}{k:Nat}{p pos apos:Pos}
def xA{me:Nat->Nat->Option Nat}{call:Nat->ASp}(hK:X.K=T.K)(hb:∀b',b=some b'->nm m=bmN b')(hu:X.A.units+1<cLine)(aa:∀c f,me c m=some f->∃g,n8 X.K (T.cl c) (nm m) g/\Fo X T k g (call f))(hr:Room k X.A)(ho:AE X T o ta)(ha:AAs X T (e::es) tr)
  (O:starEach (e::es) X.env=(false,eval e X.env)::starEach es X.env)(S:(backTo pos (starEach es X.env)).any (·.1)=false)
  (ht:eval (.Call (.Attribute o (nm m) apos) (e::es) [] pos) X.env=(do
   let ov ← eval o X.env
   standAt apos.atName
   let (f,first) ← holding [ov] (getMethod ov (nm m) pl)
   callWith pos f first (backTo pos (starEach (e::es) X.env)) (backToKw pos (keywordEach [] X.env)))):AE X T (.Call (.Attribute o (nm m) apos) (e::es) [] pos) (pQ me call b m ta tr):=by
 intro d s C H Q I ⟨ρ,σ,A,QA,rs,h,N⟩
 refine č (pl:=pl) (thn (ho d s C H (λv H1=>∀u j,Inv X d C H1 j->RelV v u->wpAny (model X.prog X.w) X.A (getMethod u (nm m) pl) (λfx U=>wpAny (model X.prog X.w) X.A (callWith pos fx.1 fx.2 (backTo pos (starEach (e::es) X.env)) (backToKw pos (keywordEach [] X.env))) (EP X d C Q) X.xe U) X.xe j) I
  (ao rs h fun ρ1 x v A1 H1 e1 i D fz q=>λu j n ru=>?_)) λu j ⟨v,H1,n,D,q⟩=>q u j n D) ht
 obtain ⟨r,G,q⟩:=q.of
 cases r with
 | b t =>
  obtain ⟨b',Z,q⟩:=q.of
  obtain ⟨pp,hp,q⟩:=q.of
  obtain ⟨pa,id,sl,a0,mt⟩:=Bz (X:=X) (T:=T) hK hu hp
  obtain ⟨h1,h2⟩:=ur n ru (hK▸vc i.rl D G)
  rw [hb b' Z]
  refine getMethod_builtin h1 pa sl a0 h2 ?_
  have hA:=ha pos d j C H1 (λws l=>lM T pp v ws l Q) n ⟨ρ1,σ,A1,_,i,q,fun ρ2 xs ws A2 l L l2 p y=>⟨ρ2,A2,x,xs,QA,l2,D.ext i.rl.kd L,p,y,Fin.after N (e1.trans L)⟩⟩
  show wpAny (model X.prog X.w) X.A (callWith pos (.builtin id) [u] (backTo pos (starEach (e::es) X.env)) (backToKw pos (keywordEach [] X.env))) (EP X d C Q) X.xe j
  rw [O] at hA ⊢
  refine đ (by show (false||(backTo pos (starEach es X.env)).any (·.1))=false;rw [S]<;>rfl) (Calls.evalArgs_plain ?_)
  exact thn hA λus U ⟨vs,l,Y,r2,y⟩=>mt d U C l v vs u us Q Y ru r2 y
 | c c fs =>
  obtain ⟨hm,q⟩:=nd.of q
  obtain ⟨fi,a2,q⟩:=q.of
  obtain ⟨nf,a,dx,vs,rfl,hH,cf⟩:=ja i.rl D (vb G)
  obtain ⟨g,M,F⟩:=aa c fi a2
  obtain ⟨fd,ps,F1,F2⟩:=F.ex
  obtain rfl:u=Value.ref a:=ru
  refine dQ n hH (hK▸cf.1) M (a5 λz=>?_) ?_
  .obtain ⟨m',h1,h2⟩:=ϑ.mp z
   cases fL h2
   exact (by simpa using hm:m∉fs) h1
  refine Ĕ (first:=[.ref a]) (h₀:=X.base) n.ok.mod.kin M.kp (thn (ha pos d j C H1 (λws l=>lF T (call fi) (.ref a::ws) l Q E0) n ⟨ρ1,σ,A1,_,i,q,fun ρ2 xs ws A2 l L l2 p y =>
   ⟨ρ2,x::xs,A2,QA,l2,⟨_,ws,ϱ,⟨bw nf,D.ext i.rl.kd L⟩,p.g⟩,y,Fin.after N (e1.trans L)⟩⟩) λus U ⟨ws,l,Y,r,y⟩=>⟨Y.kIn,?_⟩) O S
  exact im (us:=.ref a::us) (vs:=.ref a::ws) (dvs:=[]) F1 hr F2 .nil iE Y (.cons rfl r) (by rw [ĳ];exact y)
def t9{me:Nat->Nat->Option Nat}{call:Nat->ASp}(O:X.K=T.K)(hb:∀b',b=some b'->nm m=bmN b')(hu:X.A.units+1<cLine)(S:∀c f,me c m=some f->∃g,n8 X.K (T.cl c) (nm m) g/\Fo X T k g (call f))(hr:Room k X.A)(ho:AE X T o ta)
  (ht:eval (.Call (.Attribute o (nm m) apos) [] [] pos) X.env=(do
   let ov ← eval o X.env
   standAt apos.atName
   let (f,first) ← holding [ov] (getMethod ov (nm m) pl)
   callWith pos f first (backTo pos (starEach [] X.env)) (backToKw pos (keywordEach [] X.env)))):AE X T (.Call (.Attribute o (nm m) apos) [] [] pos) (pQ me call b m ta jB):=by
 intro d s y H Q I ⟨ρ,σ,A,QA,rs,h,p⟩
 refine č (pl:=pl) (thn (ho d s y H (λv H1=>∀u l,Inv X d y H1 l->RelV v u->wpAny (model X.prog X.w) X.A (getMethod u (nm m) pl) (λU s2=>wpAny (model X.prog X.w) X.A (callWith pos U.1 U.2 (backTo pos (starEach [] X.env)) (backToKw pos (keywordEach [] X.env))) (EP X d y Q) X.xe s2) X.xe l) I
  (ao rs h fun Y x v Z H1 e1 e j fz q=>λu l i N=>?_)) λu l ⟨v,H1,i,j,q⟩=>q u l i j) ht
 obtain ⟨r,n,q⟩:=q.of
 cases r with
 | b t =>
  obtain ⟨b',C,q⟩:=q.of
  obtain ⟨pp,hp,q⟩:=q.of
  obtain ⟨pa,id,sl,D,mt⟩:=Bz (X:=X) (T:=T) O hu hp
  obtain ⟨h1,G⟩:=ur i N (O▸vc e.rl j n)
  rw [hb b' C]
  refine getMethod_builtin h1 pa sl D G ?_
  exact đ rfl (PySem.evalArgs_none (mt d l y H1 v [] u [] Q i N .nil ⟨Y,Z,x,[],QA,e.rl,j,ϱ,q,Fin.after p e1⟩))
 | c c fs =>
  obtain ⟨hm,q⟩:=nd.of q
  obtain ⟨fi,L,q⟩:=q.of
  obtain ⟨nf,a,dx,vs,rfl,hH,cf⟩:=ja e.rl j (vb n)
  obtain ⟨g,M,F⟩:=S c fi L
  obtain ⟨fd,ps,F1,F2⟩:=F.ex
  obtain rfl:u=Value.ref a:=N
  refine dQ i hH (O▸cf.1) M (a5 λz=>?_) ?_
  .obtain ⟨m',h1,G⟩:=ϑ.mp z
   cases fL G
   exact (by simpa using hm:m∉fs) h1
  exact PySem.W.callWith_K0 (first:=[.ref a]) i.kIn M.kp (im (us:=[.ref a]) (vs:=[.ref a]) (dvs:=[]) F1 hr F2 .nil iE i (.cons rfl .nil)
   ⟨Y,[x],Z,QA,e.rl,⟨_,[],ϱ,⟨bw nf,j⟩,ϱ⟩,q,Fin.after p e1⟩)
end
inductive Ty where
 | non | bool | int | str | list | tuple | dict
 deriving DecidableEq
noncomputable def Ty.s:Ty->String
 | .non=>"NoneType"
 | .bool=>"bool"
 | .int=>"int"
 | .str=>"str"
 | .list=>"list"
 | .tuple=>"tuple"
 | .dict=>"dict"
noncomputable def Ty.sub(t c:Ty):Bool:=decide (t=c)||(decide (t=.bool)&&decide (c=.int))
noncomputable def tyA(x:AV)(A:AH):Option Ty:=match x with
 | .non=>some .non
 | .bl _=>some .bool
 | .int _=>some .int
 | .str _=>some .str
 | .tup _=>some .tuple
 | .frl _=>some .list
 | .frK _ _=>some .dict
 | .frT _ _=>some .dict
 | .ref n=>match A n with
  | some (.lst _)=>some .list
  | some (.dK _ _)=>some .dict
  | some (.dT _ _)=>some .dict
  | _=>none
 | _=>none
def B8{T:Tab}{ρ:Rho}{A:AH}{H:Hp}{K:Þ}(l:Rl T ρ A H){x:AV}{v:V}{t:Ty}(r:RV T ρ H x v)(h:tyA x A=some t):fF K H v (.type t.s):=by
 cases x with
 | non=>cases h;cases (show v=_ from r);exact .non
 | bl b=>cases h;cases (show v=_ from r);exact .bl b
 | int b=>cases h;cases (show v=_ from r);exact .int b
 | str b=>cases h;cases (show v=_ from r);exact .str b
 | tup xs=>cases h;obtain ⟨a,d,rfl,h1,_⟩:=r;exact .tup h1
 | frl xs=>cases h;obtain ⟨a,d,rfl,_,h1,_⟩:=r;exact .lst h1
 | frK ks xs=>cases h;obtain ⟨a,d,rfl,_,h1,_⟩:=r;exact .dK h1
 | frT ks xs=>cases h;obtain ⟨a,d,rfl,_,h1,_⟩:=r;exact .dT h1
 | ref n =>
  obtain ⟨a,rfl,i⟩:=r
  unfold tyA at h
  simp only [] at h
  cases e:A n with
  | none=>rw [e] at h;cases h
  | some o =>
   rw [e] at h
   obtain ⟨j,h1,c⟩:=l.obj n _ e
   rw [i] at h1;cases h1
   cases o with
   | lst xs=>cases h;obtain ⟨d,c,_⟩:=c;exact .lst c
   | dK ks xs=>cases h;obtain ⟨d,c,_⟩:=c;exact .dK c
   | dT ks xs=>cases h;obtain ⟨d,c,_⟩:=c;exact .dT c
   | _=>cases h
 | _=>cases h
def BL(c:Ty)(ta:ATE):ATE:=fun σ A Q=>ta σ A λx A1=>ok (tyA x A1) λt=>Q (.bl (t.sub c)) A1
def AB(he:AE X T e ta)(hg:Gl X "isinstance")(hm:X.mg "isinstance"=none)(hgT:Gl X y)(hmT:X.mg y=none)(hvT:bootBuiltins y=some (.type c.s))(hn:y≠"__name__")(hd:(y==("__debug__":Str))=false)
  (kit:∀t:Ty,PySem.W.kitOne X.K (.type t.s) (.type c.s)=some (t.sub c))(hs:starEach [e,.Name y p2] X.env=(false,eval e X.env)::starEach [.Name y p2] X.env):AE X T (.Call (.Name "isinstance" p) [e,.Name y p2] [] pos) (BL c ta) :=
 (iD nF hg hm PyProof.Rows.boot_isinstance (bu he (bu (yZ (v:=.ty c.s) hgT hmT hvT rfl hn hd) pa_nil rfl) hs) ζ ζ hs rfl).imp fun σv H Q ⟨ρ,σ,A,QA,rs,h,fin⟩=>ao rs h fun ρ1 x v A1 H1 e1 rs1 rv fz q=>by
  obtain ⟨t,h1,q⟩:=q.of
  exact ⟨v,_,c.s,_,ϱ,B8 rs1.rl rv h1,kit t,fin ρ1 (.bl _) _ A1 H1 e1 rs1.rl rfl (nfr rfl) q⟩
noncomputable def c9:Ú AV->Option (Ú Key×Ú AV)
 | []=>some ([],[])
 | .tup [k,y]::xs=>match toK k,c9 xs with
  | some kk,some r=>some (kk::r.1,y::r.2)
  | _,_=>none
 | _=>none
theorem iG:∀{xs:Ú AV} {vs:Ú V} {r:Ú Key×Ú AV},RVs T ρ H xs vs->c9 xs=some r->r.1.length=r.2.length/\r.1.length=xs.length/\∃ws,RVs T ρ H r.2 ws/\Paired (prD H) (r.1.zip ws) vs
 | [],_,_,h,e=>by cases (show _=[] from h);cases e;exact ⟨rfl,rfl,[],rfl,.nil⟩
 | x::xs,_,r,⟨v,us,e0,h1,h2⟩,e=>by
  subst e0
  unfold c9 at e
  split at e
  .rename_i heq;cases heq
  .rename_i k y xs' heq
   cases heq
   split at e
   .rename_i kk r' e1 e2
    cases e
    obtain ⟨i1,i3,ws,i2,ip⟩:=iG h2 e2
    obtain ⟨b,vs',rfl,hb,hv⟩:=h1.2
    obtain ⟨w1,w2,rfl,⟨_,rk⟩,nfy,ry⟩:=RVs.two hv
    cases hV rk e1
    exact ⟨by simp [i1],by simp [i3],w2::ws,⟨w2,ws,ϱ,⟨nfy,ry⟩,i2⟩,.cons ⟨b,ϱ,hb⟩ ip⟩
   .cases e
  .cases e
def Bk(x:AV)(A:AH)(Q:AQ):Prop:=match x with
 | .tup xs=>ok (c9 xs) λr=>nd (r.1.length<=1000) (Q (.frK (aO [] [] r.1 r.2).1 (aO [] [] r.1 r.2).2) A)
 | _=>False
theorem AL(hc:X.calm=true):AC X T (.type "dict") (λxs A Q=>match xs with | [x]=>Bk x A Q | _=>False) :=
 bR (pG hc) fun ρ0 H0 ρ A H x v QA Q e l rv fz q fin=>by
  cases x<;>first | (cases q;done) | skip
  rename_i xs
  obtain ⟨r,h1,q⟩:=q.of
  obtain ⟨hl,q⟩:=q.of
  obtain ⟨a,vs,rfl,h2,h3⟩:=rv
  obtain ⟨i1,i3,ws,i2,ip⟩:=iG h3 h1
  have wl:=i2.len
  refine ⟨a,vs,r.1.zip ws,ϱ,λh ok=>?_,ip,by rw [Ł];lia,λp hp=>?_⟩
  .obtain ⟨_,its,r',o,g1,g2,g3,n,g4⟩:=(show ObjOk X.prog X.w H h a (.tup vs) from ok a _ h2)
   exact ⟨its,r',⟨o,g1,g3⟩,o,g1,g2,n,g4⟩
  .obtain ⟨vs3,f1,f2,f3⟩:=fV (T:=T) (ρ:=ρ) (H:=H) (ks:=[]) (xs:=[]) (vs:=[]) ŭ rfl rfl i1 i2
   have f1:bV [] (r.1.zip ws)=_:=f1
   rw [f1]
   have ex:Ext ρ H ρ (upd H p (.dK ((aO [] [] r.1 r.2).1.zip vs3))):=Ext.new1 hp
   exact fin ρ (.frK _ _) _ A _ (e.trans ex) (l.new1 hp) ⟨p,vs3,ϱ,l.nrN hp,ai,f3,f2.ext l.kd ex⟩ (λ_ b z=>by cases z;exact e.dom _ hp) q
noncomputable def tabI(D:Ú (Str×KTD.Dat))(y:AV):Option Int:=match y with
 | .str k=>match KTD.datumAt k D with
  | some (.flat (.int i))=>some i
  | _=>none
 | _=>none
noncomputable def tabS(D:Ú (Str×KTD.Dat))(y:AV):Option Str:=match y with
 | .str k=>match KTD.datumAt k D with
  | some (.flat (.str i))=>some i
  | _=>none
 | _=>none
def BE(D:Ú (Str×KTD.Dat))(ta:ATE):ATE:=fun σ A Q=>ta σ A λy A1=>ok (tabI D y) λi=>Q (.int i) A1
def BD(D:Ú (Str×KTD.Dat))(ta:ATE):ATE:=fun σ A Q=>ta σ A λy A1=>ok (tabS D y) λi=>Q (.str i) A1
def PrK(K:Þ)(a:ã)(ps:Ú (Str×Str)):Prop:=∃us,SqT K (λ_=>none) a us/\Paired ((cT2 gJ gJ).rp K λ_=>none) ps us
def qd{K:Þ}{H:Hp}{a:ã}{us:Ú V}(h:SqT K (λ_=>none) a us):SqT K H a us:=by
 rcases h with (h | ⟨o,h⟩) | h
 .cases h
 .cases h
 .exact .inr h
def yi{K:Þ}{H:Hp}{a:ã}{us:Ú V}(h:SqU K (λ_=>none) a us):SqU K H a us:=by
 rcases h with h | h
 .cases h
 .exact .inr h
def vj{K:Þ}{H:Hp}{ps:Ú (Str×Str)}{us:Ú V}(h:Paired ((cT2 gJ gJ).rp K λ_=>none) ps us):Paired ((cT2 gJ gJ).rp K H) ps us:=by
 induction h with
 | nil=>exact .nil
 | cons p _ ih=>exact .cons (by obtain ⟨b,v,w,rfl,a,h1,c⟩:=p;exact ⟨b,v,w,rfl,yi a,h1,c⟩) ih
noncomputable def yN(a b:Str)(ps:Ú (Str×Str)):Bool:=ps.any λp=>decide (p.1=a)&&decide (p.2=b)
def qr:@decide ((a,b)∈ps) d=yN a b ps:=by
 unfold yN
 rw [Ģ,decide_eq_true_iff,Ţ]
 exact ⟨λh=>⟨(a,b),h,by simp⟩,λ⟨p,h,e⟩=>by obtain ⟨c,i⟩:=(by simpa using e:p.1=a/\p.2=b);rw [← c,← i];exact h⟩
def EF(ps:Ú (Str×Str))(ta:ATE):ATE:=fun σ A Q=>ta σ A λx A1=>match x with
 | .tup [.str a,.str b]=>Q (.bl (yN a b ps)) A1
 | _=>False
section
variable {X:Cx}{T:Tab}{e:Û}{ta:ATE}{y:Str}{a:ã}{p pos apos:Pos}{D:Ú (Str×KTD.Dat)}
def Ay(he:AE X T e ta)(hg:Gl X y)(hm:X.mg y=some (.ref a))(hd:(y==("__debug__":Str))=false)(ht:TabK X.K a D)(hp:(D.all λp=>KTD.plain p.2)=true)(hs:hE e):AE X T (.Subscript (.Name y p) e pos) (BE D ta) :=
 (Bg (zy (D:=D)) (c8 (v:=.ref a) hg hm rfl hd) he hs).imp fun σv H Q ⟨ρ,σ,A,QA,rs,h,fin⟩=>ao rs h fun ρ1 x v A1 H1 e1 rs1 rv fz q=>by
  obtain ⟨i,h1,q'⟩:=q.of
  clear q
  cases x<;>first | (cases h1;done) | skip
  rename_i k
  cases (show v=_ from rv)
  unfold tabI at h1
  simp only [] at h1
  split at h1
  .rename_i j hj
   cases h1
   exact ⟨a,k,_,ϱ,ϱ,ht,hj,hp,fin ρ1 (.int _) _ A1 H1 e1 rs1.rl rfl (nfr rfl) q'⟩
  .cases h1
def yU(N:PE X o (tC (.ref a)))(O:PE X e ty)(c:M1 X o "get" apos e pos)(n:TabK X.K a D) :
  PE X (.Call (.Attribute o "get" apos) [e] [] pos) (fun σ H Q=>ty σ H λy H1=>∃k z,y=.str k/\KTD.datumAt k D=some (.flat (.str z))/\Q (.str z) H1):=by
 intro b s σ H Q I h
 refine wpAny_Call_method c.base c.few c.line Ŕ ľ PySem.F.type_dict_get (thn (N b s σ H (λx H1=>x=.ref a/\ty σ H1 λy H1=>∃k z,y=.str k/\KTD.datumAt k D=some (.flat (.str z))/\Q (.str z) H1) I ⟨ϱ,h⟩) λu d ⟨x,H1,j,p,q,r⟩=>?_)
 subst q
 obtain rfl:u=Value.ref a:=p
 have i:KTD.Here d.heap d.heap a D:=⟨n.at j.kIn,λ_ _ e=>e⟩
 refine ⟨i.typeIs,i.noDict,?_⟩
 rw [c.trees]
 refine đ rfl (Calls.evalArgs_plain (Calls.spliced_cons (thn (O b d σ H1 _ j r) λU v ⟨y,w,l,C,k,z,G,m,L⟩=>Calls.spliced_nil ?_)))
 subst G
 obtain ⟨S,rfl⟩:=C
 refine KTD.get1_textL (h₀:=v.heap) ⟨n.at l.kIn,λ_ _ e=>e⟩ ?_ (lH m (KTD.opened_str λY=>⟨.str z,w,l.tok _,⟨_,ϱ⟩,L⟩))
 rw [← KTD.isSome_datumAt,m]
 rfl
def Ax(he:AE X T e ta)(hg:Gl X y)(hm:X.mg y=some (.ref a))(hd:(y==("__debug__":Str))=false)(ht:TabK X.K a D)(mm:M1 X (.Name y p) "get" apos e pos):AE X T (.Call (.Attribute (.Name y p) "get" apos) [e] [] pos) (BD D ta) :=
 (yU (c8 (v:=.ref a) hg hm rfl hd) he mm ht).imp fun σv H Q ⟨ρ,σ,A,QA,rs,h,fin⟩=>ao rs h fun ρ1 x v A1 H1 e1 rs1 rv fz q=>by
  obtain ⟨i,h1,q'⟩:=q.of
  clear q
  cases x<;>first | (cases h1;done) | skip
  rename_i k
  cases (show v=_ from rv)
  unfold tabS at h1
  simp only [] at h1
  split at h1
  .rename_i j hj
   cases h1
   exact ⟨k,_,ϱ,hj,fin ρ1 (.str _) _ A1 H1 e1 rs1.rl rfl (nfr rfl) q'⟩
  .cases h1
def xC(he:AE X T e ta)(hg:Gl X y)(hm:X.mg y=some (.ref a))(hd:(y==("__debug__":Str))=false)(ht:PrK X.K a ps)(hu:X.A.units+2<cLine):AE X T (.Compare e [.In] [.Name y p] pos) (EF ps ta) :=
 (qt (vO (cT2 gJ gJ) hu) he (c8 (v:=.ref a) hg hm rfl hd) rfl).imp fun σv H Q ⟨ρ,σ,A,QA,rs,h,fin⟩=>ao rs h fun ρ1 x v A1 H1 e1 rs1 rv fz q=>by
  split at q
  .rename_i s1 s2
   obtain ⟨b,vs,rfl,hb,hv⟩:=rv
   obtain ⟨w1,w2,rfl,⟨_,r1⟩,_,r2⟩:=RVs.two hv
   obtain ⟨us,g1,g2⟩:=ht
   exact ⟨(s1,s2),a,us,ps,⟨b,w1,w2,ϱ,.inl hb,r1,r2⟩,ϱ,.inr (qd g1),vj g2,by rw [qr];exact fin ρ1 (.bl _) _ A1 H1 e1 rs1.rl rfl (nfr rfl) q⟩
  .exact q.elim
def D1(he:AE X T e ta)(hg:Gl X y)(hm:X.mg y=some (.ref a))(hd:(y==("__debug__":Str))=false)(ht:PrK X.K a ps)(hu:X.A.units+2<cLine):AT X T (.Compare e [.In] [.Name y p] pos) (aB (EF ps ta)) :=
 (qo (vO (cT2 gJ gJ) hu) he (c8 (v:=.ref a) hg hm rfl hd) rfl).imp fun σv H Q ⟨ρ,σ,A,QA,rs,h,fin⟩=>ao rs h fun ρ1 x v A1 H1 e1 rs1 rv fz q=>by
  split at q
  .rename_i s1 s2
   obtain ⟨b,vs,rfl,hb,hv⟩:=rv
   obtain ⟨w1,w2,rfl,⟨_,r1⟩,_,r2⟩:=RVs.two hv
   obtain ⟨us,g1,g2⟩:=ht
   exact ⟨(s1,s2),a,us,ps,⟨b,w1,w2,ϱ,.inl hb,r1,r2⟩,ϱ,.inr (qd g1),vj g2,_,ϱ,by rw [qr];exact fin ρ1 _ A1 H1 e1 rs1.rl q⟩
  .exact q.elim
end
section
variable {X:Cx}{CX:CXT}{E:XK}{k:Nat}{C f:ã}{fd:á}{ps:ó}{sp:Sp}{m:Str}{o e:Û}{es:ï}{t:TA}{ty:TE}{pos apos cpos p:Pos}{mc:ß}
structure rQ(K:Þ)(C:ã)(m:Str)(f:ã):Prop where
 ga:PySem.W.specialIn K (.ref C) "__getattribute__"=some (some (.builtin "type.__getattribute__"))
 rd:PySem.W.readsIn K C (.type "type")=true
 fc:PySem.W.findCls K (.ref C) (.type "type") m=some (.val (.ref f))
 hi:PySem.W.handedIn (.ref f)=true
 kp:PySem.W.keepIn K (.ref f)=true
def yX(D:PE X o (tC (.ref C)))(c:rQ X.K C m f)(F:dW X.prog X.w X.K X.mg X.base CX k f fd ps sp)(G:Room k X.A)(L:Binds X.K fd ps [])(N:cU CX X E)(O:PA X (e::es) t)
  (d:starEach (e::es) X.env=(false,eval e X.env)::starEach es X.env:=by rfl)(i:(backTo pos (starEach es X.env)).any (·.1)=false:=by rfl)
  (S:eval (.Call (.Attribute o m apos) (e::es) [] pos) X.env=(do
   let ov ← eval o X.env
   standAt apos.atName
   let (f,first) ← holding [ov] (getMethod ov m pl)
   callWith pos f first (backTo pos (starEach (e::es) X.env)) (backToKw pos (keywordEach [] X.env))):=by rfl) :
  PE X (.Call (.Attribute o m apos) (e::es) [] pos) (uH sp [] E t):=by
 intro a s σ H Q I h
 refine č (pl:=pl) (thn (D a s σ H (λx H1=>x=.ref C/\t σ H1 λvs j=>sp (vs++[]) j Q E) I ⟨ϱ,h⟩) λu l ⟨x,H1,b,v,y,q⟩=>?_) S
 subst y
 obtain rfl:u=Value.ref C:=v
 refine PySem.W.method_cls b.kIn c.ga (PySem.W.cls_value b.kIn c.rd c.fc c.hi ?_)
 have p:Inv X a σ H1 {l with toks:=l.toks+1}:=b.tok _
 refine Ĕ (first:=[]) (h₀:=X.base) I.ok.mod.kin c.kp (thn (O pos a _ σ H1 _ p q) λus U ⟨vs,j,n,r,z⟩=>⟨n.kIn,?_⟩) d i
 exact im (us:=us) (vs:=vs) F G L .nil N n r z
def AD(F:Fo X T k f asp)(c:rQ X.K C m f)(D:Room k X.A)(G:Gl X y)(I:X.mg y=some (.ref C))(L:(y==("__debug__":Str))=false)(N:AAs X T (e::es) tr)
  (d:starEach (e::es) X.env=(false,eval e X.env)::starEach es X.env)(i:(backTo pos (starEach es X.env)).any (·.1)=false)
  (O:eval (.Call (.Attribute (.Name y p) m apos) (e::es) [] pos) X.env=(do
   let ov ← eval (.Name y p) X.env
   standAt apos.atName
   let (f,first) ← holding [ov] (getMethod ov m pl)
   callWith pos f first (backTo pos (starEach (e::es) X.env)) (backToKw pos (keywordEach [] X.env)))):AE X T (.Call (.Attribute (.Name y p) m apos) (e::es) [] pos) (rO asp tr):=by
 obtain ⟨fd,ps,j,l⟩:=F.ex
 exact (yX (c8 (v:=.ref C) G I rfl L) c j D l iE N d i O).imp fun S H Q ⟨ρ,σ,A,n,o,h,a⟩=>⟨ρ,σ,A,_,o,h,fun r u U w H1 x z b q=>⟨r,u,w,n,z,by rw [ĳ];exact b.g,q,Fin.after a x⟩⟩
end
open PySem.W
section
variable {T:Tab}{ρ:Rho}{H:Hp}
def A9{P:Nm->Prop}:Mv T ρ H B ρ H P q False:=⟨λ_ _ h _ _=>h,λ_ _ _ h=>h,λ_ _ _ _ n=>n,λ_ _ _ h _=>h,False.elim⟩
def RV.sw(B:Ý)(c:zE x=false)(h:RV T ρ H x v):RV {T with bs:=B} ρ H x v:=RV.tr A9 (h.wf (λ_=>trivial) λz=>by rw [c] at z;cases z) h
def RVs.sw(B:Ý)(h:RVs T ρ H xs vs):RVs {T with bs:=B} ρ H xs vs:=RVs.tr A9 h.wf h
def OM.sw(B:Ý)(h:OM T ρ H o a):OM {T with bs:=B} ρ H o a:=by
 cases o with
 | lst xs=>obtain ⟨b,h1,d⟩:=h;exact ⟨b,h1,d.sw B⟩
 | dK ks xs=>obtain ⟨b,h1,e,d⟩:=h;exact ⟨b,h1,e,d.sw B⟩
 | dT ks xs=>obtain ⟨b,h1,e,d⟩:=h;exact ⟨b,h1,e,d.sw B⟩
 | ins c fs xs=>obtain ⟨i,b,h1,e,d⟩:=h;exact ⟨i,b,h1,e,d.sw B⟩
 | dead=>trivial
 | tb _ _ _=>exact h
def Rl.sw(B:Ý)(l:Rl T ρ A H):Rl {T with bs:=B} ρ A H :=
 ⟨l.inj,l.kd,λn o h=>let ⟨a,h1,h2⟩:=l.obj n o h;⟨a,h1,h2.sw B⟩,l.fre⟩
end
def pT(f:ã)(q:Str)(pr:Arguments)(b:Û)(sc:Scope)(cl:ö)(c:ã):Ý->Prop:=λh=>∃pm ct,h.get? f=some {cls:=.type "function",data:=.func (kla_fn "<lambda>" q pr b sc cl pm (.ref c) ct)}
def ka(c:ã)(q:Str):Ý->Prop:=λh=>∃o vs t,h.get? c=some o/\o.data=.fields vs/\vs[1]?=some (.str q t)
noncomputable def ll(σ:ASt):ñ->Option (Ú AV)
 | []=>some []
 | i::is=>match σ[i]? with
  | some (some y)=>match aT y,ll σ is with
   | false,some ys=>some (y::ys)
   | _,_=>none
  | _=>none
theorem jP(rs:Rs T ρ σ A σv H):∀{is:ñ} {ys:Ú AV},ll σ is=some ys->∃vs,RVs T ρ H ys vs/\vs.length=is.length/\∀(j i:Nat),is[j]?=some i->∃v,vs[j]?=some v/\σv[i]?=some (some v)
 | [],ys,h=>by cases h;exact ⟨[],rfl,rfl,λj i e=>by simp at e⟩
 | i::is,ys,h=>by
  unfold ll at h
  split at h
  .rename_i y e
   split at h
   .rename_i zs e1 e2
    cases h
    obtain ⟨vs,h1,h2,h3⟩:=jP rs e2
    obtain ⟨v,g1,g2,g3⟩:=rs.at_ i y e
    refine ⟨v::vs,⟨v,vs,ϱ,⟨e1,g3⟩,h1⟩,by simp [h2],λj k ek=>?_⟩
    cases j with
    | zero=>cases ek;exact ⟨v,rfl,g1⟩
    | succ j=>exact h3 j k (by simpa using ek)
   .cases h
  .cases h
def xM(me:Nat->Nat->Option Nat)(call:Nat->ASp)(fdOk:Prop)(fk tn:Nat)(lp:Pos)(q:Str)(fvs:ñ)(m:Nat)(ta:ATE)(tr:ATA):ATE:=fun σ A Q=>ta σ A λx A1=>ok (nB x A1) λcf=>nd (cf.2.contains m=false) (ok (me cf.1 m) λf =>
 tr σ A1 λxs A2=>fdOk/\A2 (tn,[])=some (.tb fk lp q)/\ok (ll σ fvs) λys=>call f (x::(xs++[.clo fk ys])) A2 λr A3=>nd (zE r=false) (Q r A3))
inductive lAL (T:Tab) (tr:ATA) (nt:Nm) (fk:Nat) (lp:Pos) (q:Str) (pr:Arguments) (b:Û) (sc:Scope) (cl:ö) (σv:St) (H:Hp) (Q:Ú V->Hp->Prop):Prop
|mk (ρ:Rho) (σ:ASt) (A:AH) (QA:Ú AV->AH->Prop) (_:Rs T ρ σ A σv H) (_:tr σ A QA) (_:∀ρ' xs vs A' H',Ext ρ H ρ' H'->Rl T ρ' A' H'->RVs T ρ' H' xs vs->QA xs A'->A' nt=some (.tb fk lp q) /\
   ∀f c H2,Ext ρ' H' ρ' H2->Rl T ρ' A' H2->H2 f=some (.ext (pT f q pr b sc cl c))->H2 c=some (.ext (ka c q))->Q (vs++[.ref f]) H2):lAL T tr nt fk lp q pr b sc cl σv H Q
section
variable {X:Cx}{T:Tab}{e o lam:Û}{es:ï}{ta:ATE}{tr:ATA}{k:Nat}{nt:Nm}{fk tn:Nat}{lp:Pos}{q:Str}{pr:Arguments}{b:Û}{sc:Scope}{cl:ö}{pos apos p:Pos}
def AM(h:PE X lam (uF (T.ta fk) lp q pr b sc cl))(hs:starEach [lam] X.env=(false,eval lam X.env)::starEach [] X.env):PA X [lam] (lAL T jB nt fk lp q pr b sc cl) :=
 (bu h pa_nil hs).imp fun σv H Q ⟨ρ,σ,A,QA,rs,h,fin⟩=>by
  obtain ⟨ht,kk⟩:=fin ρ [] [] A H (Ext.refl _ _) rs.rl rfl h
  obtain ⟨a,h1,ha,h2⟩:=rs.rl.obj _ _ ht
  subst ha
  refine ⟨h2,λf c H' kp hP hcase hf0 hf hc=>?_⟩
  have ex:Ext ρ H ρ H':=⟨λ_ _ z=>z,λ_ _ z=>.inl z,λx o z n=>kp x o (λy=>n nt (by rw [y];exact h1)) z,λx z=>by
   cases y:H x with
   | none=>rfl
   | some o =>
    by_cases w:x=T.ta fk
    .subst w;rw [hP] at z;cases z
    .rw [kp x o w y] at z;cases z⟩
  refine kk f c H' ex ⟨rs.rl.inj,λn x z=>?_,λn u z=>?_,rs.rl.fre⟩ hf hc
  .by_cases w:x=T.ta fk
   .rw [w,hP];trivial
   .have:=rs.rl.kd n x z
    cases y:H x with
    | none=>rw [y] at this;exact this.elim
    | some o=>rw [kp x o w y];rw [y] at this;exact this
  .obtain ⟨x,g1,g2⟩:=rs.rl.obj n u z
   refine ⟨x,g1,?_⟩
   by_cases w:x=T.ta fk
   .subst w
    have:=rs.rl.inj n nt _ g1 h1
    subst this
    rw [ht] at z
    cases z
    exact ⟨ϱ,.inr ⟨c,hP,hc⟩⟩
   .exact g2.ext rs.rl.kd ex λu y=>kp x u w y
def xK(ha:AE X T e ta)(hr:PA X es (lAL T tr nt fk lp q pr b sc cl))(hs:starEach (e::es) X.env=(false,eval e X.env)::starEach es X.env):PA X (e::es) (lAL T (l6 ta tr) nt fk lp q pr b sc cl) :=
 (bu (iB ha) hr hs).imp fun σv H Q ⟨ρ,σ,A,QA,rs,h,fin⟩=>⟨ρ,σ,A,_,rs,h,fun ρ1 x v A1 H1 e1 l1 rv nf q =>
  ⟨ρ1,σ,A1,_,rs.ext e1 l1,q,fun ρ2 xs vs A2 H2 e2 l2 rvs q2=>fin ρ2 (x::xs) (v::vs) A2 H2 (e1.trans e2) l2 ⟨v,vs,ϱ,⟨nf,rv.ext l1.kd e2⟩,rvs⟩ q2⟩⟩
def BB.keep{mg:û}(k:∀b o,h.get? b=some o->h'.get? b=some o)(B:BB mg h):BB mg h':=let ⟨bm,ob,b1,b2,b3,r⟩:=B;⟨bm,ob,b1,b2,k _ _ b3,r⟩
theorem wR{D:St}{fvs:ñ}{ys:ó}{vs:Ú V}(inj:∀x y c,X.env.cells.lookup x=some c->X.env.cells.lookup y=some c->x=y)(d:∀x,(X.env.kindOf x=some .cell\/X.env.kindOf x=some .free)->∃c,X.env.cells.lookup x=some c)
  (l:ys.Nodup)(Z:vs.length=fvs.length)(Q:ys.length=fvs.length)(S:∀(j i:Nat),fvs[j]?=some i->∃v,vs[j]?=some v/\D[i]?=some (some v))
  (b:∀(j:Nat) y,ys[j]?=some y->∃i,fvs[j]?=some i/\X.N[i]?=some y/\X.env.kindOf y=some .cell/\X.fn y=true) :
  ∃cs,pU X cs D/\∀(j:Nat) y v,ys[j]?=some y->vs[j]?=some v->∃a,X.env.cells.lookup y=some a/\(a,v)∈cs/\∀v',(a,v')∈cs->v'=v:=by
 refine ⟨(ys.map λy=>(X.env.cells.lookup y).getD 0).zip vs,λc K=>?_,λj y v h1 L=>?_⟩
 .obtain ⟨j,F,e⟩:=Ŧ.mp K
  rw [Ł,ν] at F
  rw [List.getElem_zip,Ļ] at e
  subst e
  have p:ys[j]?=some (ys[j]'(by lia)):=ξ _
  obtain ⟨i,g1,q,m,r⟩:=b j _ p
  obtain ⟨v,u,G⟩:=S j i g1
  obtain ⟨a,h⟩:=d _ (.inl m)
  refine ⟨i,_,q,?_,m,?_,r⟩
  .rw [G]
   rw [ξ (by lia)] at u
   cases u;rfl
  .rw [h];rfl
 .obtain ⟨i,g1,q,m,r⟩:=b j y h1
  obtain ⟨a,h⟩:=d y (.inl m)
  obtain ⟨U,n⟩:=ž.mp h1
  obtain ⟨l2,w⟩:=ž.mp L
  refine ⟨a,h,Ŧ.mpr ⟨j,by rw [Ł,ν];lia,by rw [List.getElem_zip,Ļ,n,w,h];rfl⟩,λv' O=>?_⟩
  obtain ⟨t,o,e⟩:=Ŧ.mp O
  rw [Ł,ν] at o
  rw [List.getElem_zip,Ļ] at e
  injection e with e3 e4
  have p:ys[t]?=some (ys[t]'(by lia)):=ξ _
  obtain ⟨Y,_,_,H,_⟩:=b t _ p
  obtain ⟨I,C⟩:=d _ (.inl H)
  rw [C] at e3
  cases (show I=a from e3)
  have:=inj _ _ _ C h
  have o:t=j:=by
   rcases Nat.lt_trichotomy t j with z | z | z
   .exact absurd (this.trans n.symm) (List.pairwise_iff_getElem.mp l t j _ _ z)
   .exact z
   .exact absurd (this.trans n.symm).symm (List.pairwise_iff_getElem.mp l j t _ _ z)
  subst o
  rw [← e4,w]
def xz{me:Nat->Nat->Option Nat}{call:Nat->ASp}{D:Prop}{fvs:ñ}{ys:ó}{m:Nat}{pl:Sem Bool}(hK:X.K=T.K)
  (aa:∀c f,me c m=some f->∃g,n8 X.K (T.cl c) (nm m) g/\∀B:Ý,X.K.In B->BB X.mg B->∃fd ps,dW X.prog X.w X.K X.mg B CX0 k g fd ps (lF {T with bs:=B} (call f))/\Binds X.K fd ps [])
  (hr:Room k X.A)(hB:BB X.mg X.base)(ab:ys.Nodup)(U:ys.length=fvs.length)
  (L:∀(j:Nat) y,ys[j]?=some y->∃i,fvs[j]?=some i/\X.N[i]?=some y/\X.env.kindOf y=some .cell/\X.fn y=true)
  (ag:∀(B:Ý) f c vs cs,D->ue [] cs B->vs.length=ys.length->(∀(j:Nat) y v,ys[j]?=some y->vs[j]?=some v->∃a,X.env.cells.lookup y=some a/\(a,v)∈cs/\∀v',(a,v')∈cs->v'=v)->T.crB B fk f c (pT f q pr b sc cl c) (ka c q) vs)
  (ho:AE X T o ta)(ha:PA X (e::es) (lAL T tr (tn,[]) fk lp q pr b sc cl))(ak:starEach (e::es) X.env=(false,eval e X.env)::starEach es X.env)(an:(backTo pos (starEach es X.env)).any (·.1)=false)
  (ht:eval (.Call (.Attribute o (nm m) apos) (e::es) [] pos) X.env=(do
   let ov ← eval o X.env
   standAt apos.atName
   let (f,first) ← holding [ov] (getMethod ov (nm m) pl)
   callWith pos f first (backTo pos (starEach (e::es) X.env)) (backToKw pos (keywordEach [] X.env)))):AE X T (.Call (.Attribute o (nm m) apos) (e::es) [] pos) (xM me call D fk tn lp q fvs m ta tr):=by
 intro C s σv H Q I ⟨ρ,σ,A,QA,rs,h,a8⟩
 refine mM (Q:=EP X C σv Q) (pl:=pl) (args:=e::es) ho I (ao rs h fun ρ1 x v A1 H1 e1 d rv fz q=>?_) ht
 obtain ⟨⟨c,fs⟩,hc,q⟩:=q.of
 obtain ⟨hm,q⟩:=q.of
 obtain ⟨fi,a1,q⟩:=q.of
 obtain ⟨nf,a,dx,vs,rfl,hH,cf⟩:=ja d.rl rv hc
 obtain ⟨g,M,F⟩:=aa c fi a1
 refine ⟨a,T.cl c,dx,_,g,ϱ,hH,hK▸cf.1,M,a5 λz=>?_,λs1 I1=>?_⟩
 .obtain ⟨m',h1,h2⟩:=ϑ.mp z
  cases fL h2
  exact (by simpa using hm:m∉fs) h1
 refine Ĕ (first:=[.ref a]) (h₀:=X.base) I.ok.mod.kin M.kp (thn (ha pos C s1 σv H1 (λws Y=>∃cs,pU X cs σv/\∀B:Ý,ue [] cs B->lF {T with bs:=B} (call fi) (.ref a::ws) Y Q E0) I1 ⟨ρ1,σ,A1,_,d,q,fun ρ2 xs ws A2 Y Z l2 a3 l =>
  ⟨l.2.1,λf c H3 S l3 hf hc=>?_⟩⟩) λus s2 ⟨ws,Y,G,r,cs,a4,l⟩=>⟨G.kIn,?_⟩) ak an
 .obtain ⟨fo,_,l⟩:=l
  obtain ⟨zs,hz,l⟩:=l.of
  obtain ⟨us,k1,k2,k3⟩:=jP (d.ext (Z.trans S) l3) hz
  obtain ⟨cs,c1,c2⟩:=wR I.ok.inj I.ok.has ab k2 U k3 L
  refine ⟨cs,c1,λB hp=>⟨ρ2,x::(xs++[.clo fk zs]),A2,_,l3.sw B,⟨_,_,ϱ,⟨bw nf,(rv.ext d.rl.kd (Z.trans S)).sw B (qI nf)⟩,((a3.ext l2.kd S).sw B).g.app (show RVg _ ρ2 H3 [.clo fk zs] [.ref f] from ⟨_,[],ϱ,⟨ϱ,f,c,_,_,us,ϱ,hf,hc,?_,k1.sw B⟩,ϱ⟩)⟩,l,fun ρ4 y w A4 H4 e4 l4 r4 f4 q4=>?_⟩⟩
  .exact ag B f c us cs fo hp (by rw [k2,U]) c2
  .obtain ⟨nc,q4⟩:=q4.of
   exact a8 ρ4 y w A4 H4 (e1.trans (Z.trans (S.trans e4))) (Rl.sw (T:={T with bs:=B}) T.bs l4) (RV.sw (T:={T with bs:=B}) T.bs nc r4) (f4.dom (e1.trans (Z.trans S))) q4
 .obtain ⟨fd,ps,F1,F2⟩:=F _ G.modB.kin (BB.keep G.baseK hB)
  have n:=l _ (G.pinB (pp:=[]) (λp z=>nomatch z) a4)
  have rr:Vals (.ref a::ws) (.ref a::us):=.cons rfl r
  have hl:((Value.ref a::us)++[]).length=ps.length:=by rw [ĳ,← rr.length];exact F1.len _ _ _ _ n
  have O:=F2 s2 (.ref a::us) G.kIn hl
  rw [ĳ] at O
  refine wpAny_call (Ą (F1.run X.A X.stack s2 Y ⟨.ref a::us,[]⟩ (.ref a::us) (.ref a::ws) Q E0 hr G.env0B O rr n) λr s' n=>?_)
  cases r with
  | error e=>exact False.elim n
  | ok fl =>
   cases fl with
   | ret u=>exact G.after n
   | next=>exact False.elim n
   | brk=>exact False.elim n
   | cont=>exact False.elim n
structure xR(P:ä)(w:â)(K:Þ)(mg:û)(base:Ý)(T:Tab)(k:Nat)(f c:ã)(φ ψ:Ý->Prop)(vs:Ú V)(sp:ASp):Prop where
 at_:∀h,φ h->PySem.W.FnAt f h
 run:∀(A:à) (outer:ð) (s:å) (H:Hp) (v:V) (u:ß) (Q:VK),Room k A->Env0 P w K mg base A outer s H->H f=some (.ext φ)->H c=some (.ext ψ)->RelV v u->lF T sp (v::vs) H Q E0 ->
  codeAny (model P w) A (.call (.ref f) ⟨[u],[]⟩) (CR CX0 outer P w H s Q E0) s
def pR(call:Nat->ASp)(i:Nat)(tr:ATA):ATE:=fun σ A Q=>match σ[i]? with
 | some (some (.clo fk ys))=>tr σ A λxs A1=>nd (xs.length=1) (call fk (xs++ys) A1 Q)
 | _=>False
def xE{call:Nat->ASp}(hN:X.N[i]?=some x)(hv:Vis X.env.scope x)(hr:Room k X.A)(L:∀fk f c φ ψ vs,T.crB T.bs fk f c φ ψ vs->xR X.prog X.w X.K X.mg X.base T k f c φ ψ vs (call fk))(ha:AAs X T [e] tr)
  (O:(x==("__debug__":Str))=false)(S:(x==("__classdict__":Str))=false)(he:starEach [e] X.env=(false,eval e X.env)::starEach [] X.env):AE X T (.Call (.Name x p) [e] [] pos) (pR call i tr):=by
 intro a s σv H Q I ⟨ρ,σ,A,QA,y,h,G⟩
 unfold pR at h
 split at h
 .rename_i fk ys hσ
  obtain ⟨v,g1,g2,f,c,φ,ψ,vs,rfl,h1,h2,h3,h4⟩:=y.at_ i _ hσ
  have C:=L _ _ _ _ _ _ h3
  have l:∀{σ':St} {b:Hp} {n:å},Inv X a σ' b n->b f=some (.ext φ)->PySem.W.FnAt f n.heap:=λ{σ' b n} J z=>C.at_ _ (show ObjOk X.prog X.w b n.heap f (.ext φ) from J.hok f _ z).1
  refine ļ (thn ((oH (pos:=p) hN hv O S) a s σv H (λv b=>v=.ref f/\b=H) I ⟨_,g1,ϱ,ϱ⟩) λu s1 ⟨v,H1,Y,r,e1,d⟩=>?_)
  subst e1
  subst d
  cases r
  refine callWith_F (first:=[]) (l Y h1) (thn (ha pos a s1 σv H1 (λws j=>j f=some (.ext φ)/\j c=some (.ext ψ)/\∃w,ws=[w]/\lF T (call fk) (w::vs) j Q E0) Y ⟨ρ,σ,A,_,y,h,fun ρ2 xs ws A2 j d l2 m D=>?_⟩) λus s2 ⟨ws,j,F,r,Z,hc,w,ew,q⟩=>⟨l F Z,?_⟩) he rfl
  .refine ⟨ly y.rl.kd d h1,ly y.rl.kd d h2,?_⟩
   obtain ⟨U,D⟩:=D.of
   obtain ⟨w,rfl⟩:∃w,ws=[w]:=by
    have:=m.len
    match ws,this with
    | [w],_=>exact ⟨w,rfl⟩
    | [],z=>simp [U] at z
    | _::_::_,z=>simp [U] at z
   exact ⟨w,ϱ,ρ2,xs++ys,A2,QA,l2,m.g.app (h4.ext y.rl.kd d).g,D,Fin.after G d⟩
  .subst ew
   cases r with
   | cons rv rr =>
    cases rr
    refine wpAny_call (Ą (C.run X.A X.stack s2 j w _ Q hr F.env0 Z hc rv q) λr n o=>?_)
    cases r with
    | error e=>exact False.elim o
    | ok fl =>
     cases fl with
     | ret u=>exact F.after o
     | next=>exact False.elim o
     | brk=>exact False.elim o
     | cont=>exact False.elim o
 .exact h.elim
end
end M
namespace L2
open PySem PySem.Spec PyProof.Rows PySem.W
inductive KAll (n:Nat) {α:Type} (P:α->Prop):KasT α->Prop
 | ret {a:α}:P a->KAll n P (.ret a)
 | ask {i j:Nat} {k:Bool->KasT α}:i<n->j<n->(∀b,KAll n P (k b))->KAll n P (.ask i j k)
noncomputable def jt{α:Type}(lt:Nat->Nat->Bool):KasT α->α
 | .ret a=>a
 | .ask i j k=>jt lt (k (lt i j))
theorem KAll.bind{α β:Type}{P:α->Prop}{R:β->Prop}{f:α->KasT β}:∀{t:KasT α},KAll n P t->(∀a,P a->KAll n R (f a))->KAll n R (t.bind f)
 | _,.ret h,g=>g _ h
 | _,.ask h1 h2 h3,g=>.ask h1 h2 λb=>KAll.bind (h3 b) g
theorem KAll.wp{α:Type}{P:α->Prop}{cmp:Nat->Nat->(Bool->å->Prop)->å->Prop}{lt:Nat->Nat->Bool}(hc:∀i j (C:Bool->å->Prop),i<n->j<n->C (lt i j) s->cmp i j C s){Q:α->å->Prop} :
  ∀{t:KasT α},KAll n P t->(P (jt lt t)->Q (jt lt t) s)->t.kasWp cmp Q s
 | _,.ret h,q=>q h
 | _,.ask (i:=i) (j:=j) h1 h2 h3,q=>hc i j _ h1 h2 (KAll.wp hc (h3 (lt i j)) q)
def InP(n:Nat)(p:Array Nat):Prop:=p.toList.Perm (List.range n)
def InP.lt(h:InP n p)(hx:x∈p.toList):x<n:=ę.mp (h.subset hx)
def InP.get(h:InP n p)(h0:0<n)(i:Nat):p.getD i 0<n:=by
 rw [Array.getD_eq_getD_getElem?]
 cases e:p[i]? with
 | none=>exact h0
 | some x=>exact h.lt (Array.mem_toList_iff.mpr (Array.mem_of_getElem? e))
def InP.perm(h:InP n p)(e:q.Perm p):InP n q:=(Array.perm_iff_toList_perm.mp e).trans h
def InP.rev(h:InP n p)(i j:Nat):InP n (kas_rev p i j):=h.perm (mirror_perm _ _ _ _)
theorem lZ(h:InP n p)(h0:0<n):∀f m,KAll n (λ_=>True) (kas_asc p f m)
 | 0,_=>.ret trivial
 | f+1,m=>.ask (h.get h0 _) (h.get h0 _) λb=>by
  cases b with
  | true=>exact .ret trivial
  | false=>exact lZ h h0 f (m+1)
theorem fD(h0:0<n):∀f (p:Array Nat) m q,InP n p->KAll n (λr=>InP n r.1) (kas_desc f p m q)
 | 0,_,_,_,h=>.ret h
 | f+1,p,m,q,h=>.ask (h.get h0 _) (h.get h0 _) λb=>by
  cases b with
  | true =>
   show KAll n _ (if q>0 then kas_desc f (kas_rev p (m-(q+1)) m) (m+1) 0 else kas_desc f p (m+1) 0)
   split
   .exact fD h0 f _ _ _ (h.rev _ _)
   .exact fD h0 f _ _ _ h
  | false =>
   refine .ask (h.get h0 _) (h.get h0 _) λc=>?_
   cases c with
   | true=>exact .ret h
   | false=>exact fD h0 f _ _ _ h
def nR(h:InP n p)(h0:0<n)(m k:Nat):KAll n (λr=>InP n r.2) (kas_tail3 m k p):=(lZ (h.rev 0 m) h0 _ _).bind λ_ _=>.ret (h.rev 0 m)
def nU(h:InP n p)(h0:0<n)(m k:Nat):KAll n (λr=>InP n r.2) (kas_descPart m k p):=(fD h0 _ _ _ _ h).bind λr hr=>by
 split
 .exact nR (hr.rev _ _) h0 _ _
 .exact nR hr h0 _ _
def t5(h:InP n p)(h0:0<n)(k:Nat):KAll n (λr=>InP n r.2) (kas_count k p):=(lZ h h0 _ _).bind λm _=>by
 split
 .exact .ret h
 .split
  .refine .ask (h.get h0 _) (h.get h0 _) λc=>?_
   cases c with
   | true=>exact .ret h
   | false=>exact nU (h.rev _ _) h0 _ _
  .exact nU h h0 _ _
theorem gg(h:InP n p)(h0:0<n)(k:Nat):∀f l r,KAll n (λ_=>True) (kas_place p k f l r)
 | 0,_,_=>.ret trivial
 | f+1,l,r=>by
  show KAll n _ (if l≥r then .ret l else .ask (p.getD k 0) (p.getD ((l+r)/2) 0) λc=>if c=true then kas_place p k f l ((l+r)/2) else kas_place p k f ((l+r)/2+1) r)
  split
  .exact .ret trivial
  .refine .ask (h.get h0 _) (h.get h0 _) λc=>?_
   cases c with
   | true=>exact gg h h0 k f _ _
   | false=>exact gg h h0 k f _ _
theorem rG(h0:0<n):∀f (p:Array Nat) k,InP n p->KAll n (InP n) (kas_bin f p k)
 | 0,_,_,h=>.ret h
 | f+1,p,k,h=>(gg h h0 k k 0 k).bind λl _=>rG h0 f _ _ (h.perm (bubble_perm _ _ _))
def nS(h0:0<n):KAll n (InP n) (kas_sort n):=by
 have h:InP n (List.toArray (List.range n)):=.refl _
 refine (t5 h h0 n).bind λr a=>?_
 split
 .exact rG h0 _ _ _ a
 .exact .ret a
def rP(h:Ý)(x:(Int×Int)×Str)(v:ß):Prop:=∃a b t1 t2 t3,v=.ref a/\h.IsTuple a #[.ref b,.str x.2 t3]/\h.IsTuple b #[.int x.1.1 t1,.int x.1.2 t2]
noncomputable def ltE(x y:(Int×Int)×Str):Bool:=if x.1=y.1 then (if x.2=y.2 then false else decide (x.2.cps.toList<y.2.cps.toList)) else HT.b8 [x.1.1,x.1.2] [y.1.1,y.1.2]
section
variable {prog:ä}{w:â}{A:à}{E:ü}{s:å}
theorem DG{Q:Bool->å->Prop}(S:A.units+1<cLine)(h1:rP s.heap x u)(D:rP s.heap y v)(q:Q (ltE x y) s):wpAny (model prog w) A (keyLt' (tuples' false) u v) Q E s:=by
 obtain ⟨a,b,F,G,i,rfl,j,e⟩:=h1
 obtain ⟨c,d,H,I,l,rfl,m,h⟩:=D
 obtain ⟨K,n,_,L,o⟩:=id j
 obtain ⟨N,p,_,O,r⟩:=id m
 refine kat_lt n o p r (kat_cons (sS (by lia) e h _ _ _ _ ?_))
 have C:(decide (x.1.1=y.1.1)&&decide (x.1.2=y.1.2))=decide (x.1=y.1):=by
  rw [← Bool.decide_and]
  exact decide_eq_decide.mpr ⟨λz=>Prod.ext z.1 z.2,λz=>by rw [z];exact ⟨ϱ,ϱ⟩⟩
 rw [C]
 unfold ltE at q
 by_cases en:x.1=y.1
 .rw [Ż en] at q
  rw [τ en]
  refine kat_yes (kat_cons (SeqAt.EqAt.str_str _ i _ l _ _ _ _ ?_))
  by_cases es:x.2=y.2
  .rw [Ż es] at q
   rw [← be,τ es]
   exact kat_yes (kat_nil q)
  .rw [Ž es] at q
   rw [← be,Γ es]
   exact kat_no (kat_one _ _ (lt_str q))
 .rw [Ž en] at q
  rw [Γ en]
  exact kat_no (kat_one _ _ (HT.oX e h (.cons _ _ (.cons _ _ .nil)) (.cons _ _ (.cons _ _ .nil)) (by lia) q))
noncomputable def bh{α:Type} [Inhabited α](lt:α->α->Bool)(xs:Ú α):Ú α:=((jt (λi j=>lt (xs.getD i default) (xs.getD j default)) (kas_sort xs.length)).toList).map λi=>xs.getD i default
def kF{α β:Type}{R:α->β->Prop}{xs:Ú α}{ys:Ú β}(h:Paired R xs ys){i:Nat}(d:i<xs.length)(a:α)(b:β):R (xs.getD i a) (ys.getD i b):=by
 have c:i<ys.length:=by rw [← h.len];exact d
 obtain ⟨u,e,j⟩:=h.get1 (ξ d)
 rw [ξ c] at e
 cases e
 rw [Ŭ,Ŭ,ξ d,ξ c]
 exact j
theorem kE{α β:Type}{R:α->β->Prop}{xs:Ú α}{ys:Ú β}(h:Paired R xs ys)(a:α)(b:β):∀{p:ñ},(∀i∈p,i<xs.length)->Paired R (p.map λi=>xs.getD i a) (p.map λi=>ys.getD i b)
 | [],_=>.nil
 | i::p,hp=>.cons (kF h (hp i Ω) a b) (kE h a b λj hj=>hp j (Θ _ hj))
instance:Inhabited ((Int×Int)×Str):=⟨((0,0),Str.empty)⟩
def uL{α:Type} [Inhabited α](lt:α->α->Bool)(xs:Ú α)(h:0<xs.length):InP xs.length (jt (λi j=>lt (xs.getD i default) (xs.getD j default)) (kas_sort xs.length)):=by
 have g:∀{t:KasT (Array Nat)},KAll xs.length (InP xs.length) t->InP xs.length (jt (λi j=>lt (xs.getD i default) (xs.getD j default)) t):=by
  intro t k
  induction k with
  | ret h=>exact h
  | ask _ _ _ ih=>exact ih _
 exact g (nS h)
def d9{α:Type} [Inhabited α](lt:α->α->Bool)(xs:Ú α)(h:0<xs.length):(bh lt xs).Perm xs:=by
 refine ((uL lt xs h).map _).trans (.of_eq (List.ext_getElem (by simp) λi h1 a=>?_))
 rw [Ļ,Ĩ,Ŭ,ξ a];rfl
def yh{α:Type} [Inhabited α](lt:α->α->Bool)(xs:Ú α)(h:0<xs.length):(bh lt xs).length=xs.length/\∀i∈(jt (λi j=>lt (xs.getD i default) (xs.getD j default)) (kas_sort xs.length)).toList,i<xs.length :=
 ⟨(d9 lt xs h).length_eq,λ_ hi=>(uL lt xs h).lt hi⟩
end
end L2
namespace L2
open PySem PySem.Spec PyProof.Rows PySem.W
section
variable {prog:ä}{w:â}{A:à}{E:ü}{s:å}{h₀:Ý}{L:ã}{m:û}{news:ý}
theorem wu{vs:õ}{a n:Nat}{P:PySem.Fin->å->Prop}(F:Fr h₀ L s.heap m)(N:News h₀ L s.heap news)(j:s.heap.get? a=some (seqObj "list" vs.toArray n))(d:a≠L)(h:h₀.get? a=none)(i:∀p∈news,p.1≠a)(y:vs.length<2)
  (q:∀h' c,Fr h₀ L h' m->News h₀ L h' ((a,PySem.W.listOf vs.toArray c)::news)->P (.done (.ret .none)) {s with heap:=h'}) :
  wpAny (model prog w) A (Builtin.«list.sort» ⟨[.ref a], []⟩) P E s := by
 have z0:vs.length<=sizeLine:=by rw [þ];lia
 have sb1:=ţ s.heap a (Obj.mapSeq λ_=>(#[]:æ))
 obtain ⟨c1,o1⟩:∃c,(s.heap.update a (Obj.mapSeq λ_=>(#[]:æ))).get? a=some (seqObj "list" #[] c):=⟨_,get?_update_seq j λ_=>#[]⟩
 rw [list_sort_plain]
 refine ε (listItems_at j rfl (ε (listUpdate_at j rfl ?_ (by rw [š];exact z0) (ϖ _))))
 refine ε (seqEpoch_at o1 rfl (ε (wpAny_newTuple ?_ (by show vs.length<=_;exact z0))))
 refine ε (wpAny_newList (Ĭ ?_) (ϖ _))
 have lt2:vs.toArray.size<2:=by rw [š];exact y
 dsimp only
 rw [Ż lt2,Ż lt2]
 refine ε (π (ε (π ?_)))
 have o2:=ϸ (seqObj "list" #[] 0) (ϸ (seqObj "tuple" vs.toArray 0) o1)
 refine ε (seqEpoch_at o2 rfl ?_)
 have ez:(arrOf (SortSt.mk' general' (vs.toArray.zip vs.toArray) #[] 7 none)).map (·.2)=vs.toArray:=by
  show (vs.toArray.zip vs.toArray).map (·.2)=vs.toArray
  have v:∀l:õ,(l.zip l).map (·.2)=l:=λl=>by
   induction l with
   | nil=>rfl
   | cons x r ih=>rw [ş,Ŵ,ih]
  apply Ă.mp
  simpa using v vs
 rw [ez]
 refine ε (listUpdate_at o2 rfl ?_ (ϖ _) (by rw [š];exact υ z0))
 simp only [bne_self_eq_false,Bool.false_eq_true,if_false]
 obtain ⟨o,u⟩:∃c,((((s.heap.update a (Obj.mapSeq λ_=>(#[]:æ))).push (seqObj "tuple" vs.toArray 0)).push (seqObj "list" #[] 0)).update a (Obj.mapSeq λ_=>vs.toArray)).get? a=some (seqObj "list" vs.toArray c):=⟨_,get?_update_seq o2 λ_=>vs.toArray⟩
 refine π (q _ o ?_ ?_)
 .exact kas_fr (((kas_fr F sb1 d h).push _).push _) (ţ _ _ _) d h
 .intro p hp
  rcases ϕ.mp hp with z | hp
  .subst z
   exact ⟨u,d,h⟩
  .exact kas_news ((kas_news N sb1 i).grown λb x e=>ϸ _ (ϸ _ e)) (ţ _ _ _) i p hp
end
def sPS(K:Þ)(H:Hp)(x:(Int×Int)×Str)(v:V):Prop:=∃a b,v=.ref a/\H a=some (.tup [.ref b,.str x.2])/\H b=some (.tup [.int x.1.1,.int x.1.2])
def sPS.keep{K:Þ}{H H':Hp}{x:(Int×Int)×Str}{v:V}(e:gy H H')(h:sPS K H x v):sPS K H' x v:=by
 obtain ⟨a,b,rfl,h1,c⟩:=h
 exact ⟨a,b,ϱ,e _ _ h1,e _ _ c⟩
def sPS.ent{P:ä}{w:â}{K:Þ}{H:Hp}{h:Ý}{x:(Int×Int)×Str}{v:V}{u:ß}(ok:HOk P w H h)(q:sPS K H x v)(r:RelV v u):rP h x u:=by
 obtain ⟨a,b,rfl,h1,d⟩:=q
 cases (show u=Value.ref a from r)
 obtain ⟨_,e,i,p⟩:=(show ObjOk P w H h a (.tup [.ref b,.str x.2]) from ok a _ h1)
 obtain ⟨_,c,j,l⟩:=(show ObjOk P w H h b (.tup [.int x.1.1,.int x.1.2]) from ok b _ d)
 obtain ⟨m,F,rfl,n,o⟩:=i.two
 obtain ⟨G,I,rfl,y,z⟩:=j.two
 cases (show m=Value.ref b from n)
 obtain ⟨t,rfl⟩:=o
 obtain ⟨C,rfl⟩:=y
 obtain ⟨D,rfl⟩:=z
 exact ⟨a,b,C,D,t,ϱ,p.tup,l.tup⟩
def rS(h:Vals us vs)(p:ñ)(hp:∀i∈p,i<us.length):Vals (p.map λi=>us.getD i .non) (p.map λi=>vs.getD i Value.none):=kE h _ _ hp
end L2
namespace L2
open PySem PySem.Spec PyProof.Rows PySem.W
abbrev cM(own:ß)(f:Bool)(d:ã)(i n ep:Nat)(ok ov:ß):Obj:={cls:=.type "dict_itemiterator",dict:=none,data:=.fields #[own,.bool f,.ref d,.int i 0,.int n 0,.int ep 0,ok,ov],slots:=#[]}
def xO(h:Ý)(it d:ã)(i n ep:Nat):Prop:=∃own f ok ov,h.get? it=some (cM own f d i n ep ok ov)/\(own=.none\/∃a oa,own=rawInt (a:Nat)/\a≠it/\h.get? a=some oa)
def RawD(h:Ý)(d:ã)(es:Array DictEntry)(ep:Nat):Prop:=∃od,h.get? d=some od/\od.ExactDict/\od.data=.dict es ep
section
variable {prog:ä}{w:â}{A:à}{E:ü}{s:å}{it d:ã}{i ep:Nat}{es:Array DictEntry}
def RawD.at(x:RawD h d es ep)(k:∀o,h.get? d=some o->h'.get? d=some o):RawD h' d es ep:=let ⟨od,e,r⟩:=x;⟨od,k _ e,r⟩
def Bo(hit:s.heap.get? it=some (cM own f d i n ep ok ov)):s.TypeIs (.ref it) "dict_itemiterator":=⟨_,hit,ϱ⟩
def kL:Builtin.Dict_items.ownsTuple "dict_itemiterator"=true:=by decide
def zB{Q:ü}(u:s.heap.get? it=some (cM own f d i n ep ok ov))(H:own=.none\/∃a oa,own=rawInt (a:Nat)/\a≠it/\s.heap.get? a=some oa)
  (I:∀h',xO h' it d i n ep->h'.get? s.heap.objs.size=some {cls:=.type "tuple",data:=.seq #[key,val]}->h'.objs.size=s.heap.objs.size+1->(∀b o,b≠it->s.heap.get? b=some o->h'.get? b=some o)->Q (.ref s.heap.objs.size) {s with heap:=h'}) :
  wpAny (model prog w) A (Builtin.Dict_items.pairFromOwner (.ref it) 6 key val) Q E s:=by
 obtain ⟨hp,g,X,Y,Z⟩:=s
 unfold Builtin.Dict_items.pairFromOwner
 refine ε (wpAny_newTuple ?_)
 have v:it<hp.objs.size:=η u
 have c:(hp.push {cls:=.type "tuple",data:=.seq #[key,val]}).get? it=some (cM own f d i n ep ok ov):=ϸ _ u
 have h:(hp.push {cls:=.type "tuple",data:=.seq #[key,val]}).get? hp.objs.size=some {cls:=.type "tuple",data:=.seq #[key,val]}:=ϻ _ rfl
 have l:(hp.push {cls:=.type "tuple",data:=.seq #[key,val]}).objs.size=hp.objs.size+1:=Ć ..
 have j:∀b o,hp.get? b=some o->(hp.push {cls:=.type "tuple",data:=.seq #[key,val]}).get? b=some o:=λb o e=>ϸ _ e
 generalize (hp.push {cls:=.type "tuple",data:=.seq #[key,val]})=G at c h l j
 have m:hp.objs.size≠it:=į v
 unfold Builtin.Dict_items.ownedTupleIsFree
 rcases H with z | ⟨a,oa,z,na,ha⟩
 .subst z
  refine ε (ε (wpAny_field c rfl (x:=.none) rfl (π ?_)))
  simp only [if_true]
  refine ε (wpAny_field c rfl (x:=ok) rfl (ε (wpAny_field c rfl (x:=ov) rfl ?_)))
  refine wpAny_bind (wpAny_setField_rec c (by simp) λC D r=>wpAny_bind (wpAny_setField_rec D (by simp) λh3 O K=>wpAny_bind (wpAny_setField_rec O (by simp) λh4 S L=>wpAny_bind (wpAny_setField_rec S (by simp) λF U N=>?_))))
  have y:∀b o,b≠it->G.get? b=some o->F.get? b=some o:=λb o p e=>N.extBut b o p (L.extBut b o p (K.extBut b o p (r.extBut b o p e)))
  refine ε (wpAny_letGo (π (I F ⟨_,_,_,_,U,.inr ⟨hp.objs.size,_,ϱ,m,y _ _ m h⟩⟩ (y _ _ m h) ?_ λb o p e=>y b o p (j b o e))))
  show F.objs.size=hp.objs.size+1
  rw [N.1,L.1,K.1,r.1]
  exact l
 .subst z
  have q:=j _ _ ha
  refine ε (ε (wpAny_field c rfl (x:=rawInt (a:Nat)) rfl ?_))
  show wpAny _ _ (loadIfAlive ((a:Int).toNat) >>= λ_=>_) _ _ _
  rw [ń]
  refine ε (kdx_alive q ?_)
  simp only [Option.isNone_some,Bool.false_eq_true,if_false]
  refine ε (wpAny_field c rfl (x:=.bool f) rfl ?_)
  cases f with
  | true =>
   rw [Ž (show ¬((Value.bool true != Value.bool true)=true) by decide)]
   refine π ?_
   simp only [Bool.false_eq_true,if_false]
   exact π (I G ⟨_,_,_,_,c,.inr ⟨a,oa,ϱ,na,q⟩⟩ h l λb o _ e=>j b o e)
  | false =>
   rw [Ż (show (Value.bool false != Value.bool true)=true by decide)]
   refine wpAny_bind (wpAny_setField_rec c (by simp) λC D r=>wpAny_pure ?_)
   simp only [Bool.false_eq_true,if_false]
   exact π (I C ⟨_,_,_,_,D,.inr ⟨a,oa,ϱ,na,r.extBut _ _ na q⟩⟩ (r.extBut _ _ m h) (by show C.objs.size=_;rw [r.1];exact l) λb o p e=>r.extBut b o p (j b o e))
theorem zC{Q:è->å->Prop}(y:xO s.heap it d i es.size ep)(Y:RawD s.heap d es ep)(G:es[i]?=some e)
  (Z:∀h',xO h' it d (i+1) es.size ep->h'.get? s.heap.objs.size=some {cls:=.type "tuple",data:=.seq #[e.key,e.val]}->h'.objs.size=s.heap.objs.size+1->(∀b o,b≠it->s.heap.get? b=some o->h'.get? b=some o)->Q (some (.ref s.heap.objs.size)) {s with heap:=h'}) :
  wpAny (model prog w) A (pyNext (.ref it)) Q E s:=by
 obtain ⟨own,f,ok,H,h1,q⟩:=y
 obtain ⟨od,h,_,j⟩:=Y
 have ty:=Bo h1
 unfold pyNext
 refine ε (wpAny_attempt (Ė (name:=("__next__":Str)) ty ō (ĺ ō ty PySem.F.entry_dict_itemiterator_next ?_ (PySem.F.args_dict_itemiterator_next_1 _))))
 refine ε (π (ε (ε ?_)))
 first | refine ε (Ĺ ty (π ?_)) | refine ε (ĥ ty (π ?_))
 refine ε (wpAny_fieldsOf h1 rfl ?_)
 simp only [kL,if_true]
 show wpAny _ _ (if (Value.ref d==Value.none)=true then _ else (_:Sem (Option (Array DictEntry×Int)))) _ _ s
 rw [Ž (show ¬((Value.ref d==Value.none)=true) by intro z;cases z)]
 refine ε (π (ε (ř h j ?_)))
 rw [if_neg (by simp)]
 refine ε (π (ε (ď h j ?_)))
 rw [if_neg (by simp)]
 refine π ?_
 have I:i<es.size:=(Array.getElem?_eq_some_iff.mp G).1
 simp only [show ¬((i:Int)<0) by lia,if_false,Int.toNat_natCast,G]
 refine ε ?_
 first | refine ε (Ĺ ty (π ?_)) | refine ε (ĥ ty (π ?_))
 refine ε (wpAny_isOneOf_itemiter ty ?_)
 show wpAny _ _ (setField (.ref it) 3 (rawInt ((i:Int)+1)) >>= λ_=>_) _ _ s
 refine wpAny_bind (wpAny_setField_rec h1 (by simp) λc L u=>?_)
 have l:c.get? it=some (cM own f d (i+1) es.size ep ok H):=by
  have z:((i+1:Nat):Int)=(i:Int)+1:=by lia
  unfold cM
  rw [z]
  simpa [rawInt] using L
 have m:Shared.TypeIs {s with heap:=c} (.ref it) "dict_itemiterator":=⟨_,l,ϱ⟩
 refine ε (Ĭ (ε (wpAny_isOneOf_itemiter m (ε (wpAny_isOneOf_itemiter m ?_)))))
 have n:own=.none\/∃a p,own=rawInt (a:Nat)/\a≠it/\c.get? a=some p:=q.imp id λ⟨a,p,N,C,v⟩=>⟨a,p,N,C,u.extBut a p C v⟩
 refine zB (s:={s with heap:=c}) l n λO S U v X=>π ⟨_,ϱ,π ?_⟩
 have r:c.objs.size=s.heap.objs.size:=u.1
 have K:=Z O S (by rw [← r];exact U) (by rw [← r];exact v) λb o D x=>X b o D (u.extBut b o D x)
 show Q (some (.ref c.objs.size)) _
 rw [r]
 exact K
theorem Dr{Q:è->å->Prop}(hh:A.handled=none)(h:xO s.heap it d i es.size ep)(l:RawD s.heap d es ep)(n:es.size<=i)
  (o:∀h',Heap.ExtBut it s.heap h'->Q none {s with heap:=h'}):wpAny (model prog w) A (pyNext (.ref it)) Q E s:=by
 obtain ⟨own,f,ok,p,h1,j⟩:=h
 obtain ⟨q,c,_,e⟩:=l
 have ty:=Bo h1
 unfold pyNext
 refine ε (wpAny_attempt (Ė (name:=("__next__":Str)) ty ō (ĺ ō ty PySem.F.entry_dict_itemiterator_next ?_ (PySem.F.args_dict_itemiterator_next_1 _))))
 refine ε (π (ε (ε ?_)))
 first | refine ε (Ĺ ty (π ?_)) | refine ε (ĥ ty (π ?_))
 refine ε (wpAny_fieldsOf h1 rfl ?_)
 simp only [kL,if_true]
 show wpAny _ _ (if (Value.ref d==Value.none)=true then _ else (_:Sem (Option (Array DictEntry×Int)))) _ _ s
 rw [Ž (show ¬((Value.ref d==Value.none)=true) by intro z;cases z)]
 refine ε (π (ε (ř c e ?_)))
 rw [if_neg (by simp)]
 refine ε (π (ε (ď c e ?_)))
 rw [if_neg (by simp)]
 refine π ?_
 simp only [show ¬((i:Int)<0) by lia,if_false,Int.toNat_natCast,Array.getElem?_eq_none n]
 refine ε ?_
 first | refine ε (Ĺ ty (π ?_)) | refine ε (ĥ ty (π ?_))
 show wpAny _ _ (setField (.ref it) 2 .none >>= λ_=>_) _ _ s
 refine wpAny_bind (wpAny_setField h1 rfl (by simp) ?_)
 show wpAny _ _ (newExc (.type "StopIteration") [] >>= λ_=>_) _ _ _
 refine ε ?_
 simp only [newExc,newTuple]
 refine wpAny_bind (wpAny_newObj_type (wpAny_bind (m:=firstArgMember _ _) (wpAny_of_eq (a:=Value.none) (by first | rfl | (simp only [firstArgMember];rfl)) (wpAny_newObj_type ?_ (by size_fits)))) (by size_fits))
 simp only [raiseNew]
 refine ε (wpAny_handled ?_)
 rw [show A.in1.handled=none from hh]
 refine ε (π (wpAny_throw ?_));refine ε (wpAny_isInstance (T:="StopIteration") (b:=true) ⟨_,ϻ _ rfl,ϱ⟩ isSubtype_stop ?_)
 exact π (o _ (((ţ ..).extBut.push _).push _))
def ud(h:Ý)(es:Array DictEntry)(as:ô):Prop:=∀(j:Nat) (a:ã),as[j]?=some a->∃e,es[j]?=some e/\h.get? a=some {cls:=.type "tuple",data:=.seq #[e.key,e.val]}
theorem qH{S:ã}{R:Result->å->Prop}{h1:Ý}(hh:A.handled=none)(p:S≠it)(v:d≠S)(ndI:d≠it)(U:es.size<=sizeLine)(u:ß)
  (D:∀h' r l c m,(∀b o,b≠S->b≠it->h1.get? b=some o->h'.get? b=some o)->h'.get? S=some {cls:=.type "list",dict:=none,data:=.seq l c,slots:=#[]}->m.length=es.size->ud h' es m->(∀a∈m,h1.objs.size<=a/\a≠S/\a≠it)->m.Nodup ->
   l.toList=m.map Value.ref->R (.ok (.ret u)) {s with heap:=h',toks:=r}) :
  ∀(k i:Nat) (h:Ý) (r c:Nat) (l:æ) (m:ô),es.size-i=k->i<=es.size->xO h it d i es.size ep->RawD h d es ep->(∀b o,b≠S->b≠it->h1.get? b=some o->h.get? b=some o) ->
   h.get? S=some {cls:=.type "list",dict:=none,data:=.seq l c,slots:=#[]}->l.toList=m.map Value.ref->m.length=i->ud h es m->(∀a∈m,h1.objs.size<=a/\a≠S/\a≠it/\a<h.objs.size)->m.Nodup->h1.objs.size<=h.objs.size ->
   codeAny (model prog w) A (.builtin "list.extend.loop" ⟨[.ref S,.ref it,u],[]⟩) R {s with heap:=h,toks:=r}
 | 0,i,h,r,c,l,m,hk,hi,hit,hd,kp,hS,ha,hl,tu,ab,ndp,hz=>by
  refine Đ PySem.F.entry_extend_loop ?_
  rw [Ķ ŀ _]
  show wpAny _ A.in1 (pyNext (.ref it) >>= λ_=>_) _ _ _
  refine ε (Dr (s:={s with heap:=h,toks:=r}) (A:=A.in1) hh hit hd (by lia) λh' xb=>?_)
  exact π (D h' r l c m (λb o n1 n2 e=>xb b o n2 (kp b o n1 n2 e)) (xb S _ p hS) (by lia) (λj a hj=>by
   obtain ⟨e,e1,e2⟩:=tu j a hj
   exact ⟨e,e1,xb a _ (ab a (Ÿ hj)).2.2.1 e2⟩) (λa hm=>⟨(ab a hm).1,(ab a hm).2.1,(ab a hm).2.2.1⟩) ndp ha)
 | k+1,i,h,r,c,l,m,hk,hi,hit,hd,kp,hS,ha,hl,tu,ab,ndp,hz=>by
  have hlt:i<es.size:=by lia
  have hx:es[i]?=some es[i]:=Array.getElem?_eq_getElem hlt
  have hsz:l.size=i:=by rw [← Array.length_toList,ha,ν,hl]
  have lS:S<h.objs.size:=η hS
  have lI:it<h.objs.size:=by obtain ⟨_,_,_,_,e,_⟩:=hit;exact η e
  refine Đ PySem.F.entry_extend_loop ?_
  rw [Ķ ŀ _]
  show wpAny _ A.in1 (pyNext (.ref it) >>= λ_=>_) _ _ _
  refine ε (zC (s:={s with heap:=h,toks:=r}) hit hd hx λh' hit' ht z' k'=>?_)
  have z'':h'.objs.size=h.objs.size+1:=z'
  have hS':=k' S _ p hS
  have up:∀b o,b≠S->h'.get? b=some o->(h'.update S (Obj.mapSeq (·.push (Value.ref h.objs.size)))).get? b=some o:=λb o nb e=>(Ń _ _ (Ne.symm nb)).trans e
  have zu:(h'.update S (Obj.mapSeq (·.push (Value.ref h.objs.size)))).objs.size=h.objs.size+1:=by rw [Heap.size_update];exact z''
  show wpAny _ A.in1 (updateSeq S (·.push (Value.ref h.objs.size)) >>= λ_=>_) _ _ _
  refine ε (wpAny_updateSeq hS' rfl (π ⟨plainId_quiet ŀ _,?_⟩) (by rw [hsz];lia) (by show (l.push (Value.ref h.objs.size)).size<=sizeLine+1;rw [Array.size_push,hsz];lia))
  refine qH hh p v ndI U u D k (i+1) _ r _ (l.push (Value.ref h.objs.size)) (m++[h.objs.size]) (by lia) hlt ?_ (hd.at λo e=>up d o v (k' d o ndI e)) (λb o n1 n2 e=>up b o n1 (k' b o n2 (kp b o n1 n2 e)))
   (Ŏ _ hS' rfl) (by rw [Array.toList_push,ha,ů];rfl) (by rw [ŷ,hl];rfl) ?_ ?_ ?_ (by rw [zu];lia)
  .obtain ⟨own,f,ok,ov,e1,how⟩:=hit'
   refine ⟨own,f,ok,ov,up it _ (Ne.symm p) e1,how.imp id λ⟨a,oa,w1,w2,w3⟩=>?_⟩
   by_cases aS:a=S
   .subst aS
    exact ⟨a,_,w1,w2,Ŏ _ hS' rfl⟩
   .exact ⟨a,oa,w1,w2,up a oa aS w3⟩
  .intro j a hj
   by_cases hja:j<m.length
   .rw [Ĥ hja] at hj
    obtain ⟨e,e1,e2⟩:=tu j a hj
    obtain ⟨_,n1,n2,_⟩:=ab a (Ÿ hj)
    exact ⟨e,e1,up a _ n1 (k' a _ n2 e2)⟩
   .rw [ť (by lia)] at hj
    have hj0:j-m.length=0:=by
     cases q:j-m.length with
     | zero=>rfl
     | succ n=>rw [q] at hj;simp at hj
    rw [hj0] at hj
    have L:h.objs.size=a:=by simpa using hj
    subst L
    have N:j=i:=by lia
    subst N
    exact ⟨_,hx,up _ _ (į lS) ht⟩
  .intro a hm
   rw [zu]
   rcases Ű.mp hm with hm | hm
   .obtain ⟨G,H,I,K⟩:=ab a hm
    exact ⟨G,H,I,Nat.lt_succ_of_lt K⟩
   .have:=ϵ.mp hm
    subst this
    exact ⟨hz,į lS,į lI,ī _⟩
  .rw [List.nodup_append]
   refine ⟨ndp,by simp,λx C y Q z=>?_⟩
   have O:y=h.objs.size:=ϵ.mp Q
   exact Φ (ab x C).2.2.2 (z.trans O)
theorem zD{Q:ü}(a:s.heap.IsItemsView v d)(i:RawD s.heap d es ep)(o:es.size<=sizeLine)
  (j:Q (.ref s.heap.objs.size) {s with heap:=s.heap.push (cM .none false d 0 es.size ep .none .none)}):wpAny (model prog w) A (pyIter (.ref v)) Q E s:=by
 obtain ⟨l,e,m,h⟩:=id a
 obtain ⟨n,b,_,c⟩:=i
 refine wpAny_pyIter_slot a.typeIs PySem.F.slot_dict_items_iter (ĺ PySem.F.slot_dict_items_iter a.typeIs PySem.F.entry_dict_items_iter ?_ (PySem.F.args_dict_items_iter_1 _))
 unfold Builtin.«dict_items.__iter__»
 refine ε (π (ε ?_))
 unfold Builtin.Dict_items.dictOf
 refine ε (wpAny_field e h (x:=.ref d) rfl (π (ε ?_)))
 unfold Builtin.Dict_items.newIterator
 refine ε (ř b c (ε (ď b c ?_)))
 simp only [kL,if_true]
 refine wpAny_newObj_type (wpAny_pure ⟨_,ϱ,"dict_itemiterator",_,⟨_,Heap.get?_push_size _ rfl,ϱ⟩,PySem.F.slot_dict_itemiterator_next.lookup,?_⟩) (by simp only [sizeOk,Builtin.Dict_items.ownedTupleFields,List.size_toArray,List.length_append,List.length_cons,List.length_nil,sizeLine_eq];lia)
 simpa [cM,rawInt,Builtin.Dict_items.ownedTupleFields] using j
def tG{v S:ã}{K:Nat}{R:Result->å->Prop}(hh:A.handled=none)(C:s.heap.IsItemsView v d)(D:RawD s.heap d es ep)(L:es.size<=sizeLine)(G:S≠v)(q:d≠S)(i:ß)(N:s.heap.get? S=some {cls:=.type "list",data:=.seq #[] K})
  (hR:∀h' tk acc c as,(∀b o,b≠S->s.heap.get? b=some o->h'.get? b=some o)->h'.get? S=some {cls:=.type "list",dict:=none,data:=.seq acc c,slots:=#[]}->as.length=es.size->ud h' es as->(∀a∈as,s.heap.objs.size<=a)->as.Nodup->acc.toList=as.map Value.ref->R (.ok (.ret i)) {s with heap:=h',toks:=tk}) :
  wpAny (model prog w) A.in1 (Builtin.List.listExtendWith (.ref S) (.ref v) i) (λfin s'=>match fin with | .done f=>R (.ok f) s' | .again c'=>c'.quiet=true/\codeAny (model prog w) A c' R s') (λe s'=>R (.error e) s') s:=by
 have lS:S<s.heap.objs.size:=η N
 have O:d<s.heap.objs.size:=let ⟨_,e,_⟩:=D;η e
 have H:∀(h:Ý) (c tk:Nat),(∀b o,b≠S->(s.heap.push (cM .none false d 0 es.size ep .none .none)).get? b=some o->h.get? b=some o)->h.get? S=some {cls:=.type "list",data:=.seq #[] c}->s.heap.objs.size<=h.objs.size ->
   codeAny (model prog w) A (.builtin "list.extend.loop" ⟨[.ref S,.ref s.heap.objs.size,i],[]⟩) R {s with heap:=h,toks:=tk}:=by
  intro h c tk z eS zh
  have Q:=z s.heap.objs.size _ (į lS) (ϻ _ rfl)
  refine qH (s:=s) (it:=s.heap.objs.size) (d:=d) (ep:=ep) (es:=es) (h1:=s.heap) hh (Φ lS) q (Φ O) L i (λh' u acc c' as X x Y Z ab n' a'=>hR h' u acc c' as (λb o m e=>X b o m (Φ (η e)) e) x Y Z (λa y=>(ab a y).1) n' a')
   es.size 0 h tk c #[] [] (Nat.sub_zero _) (Nat.zero_le _) ⟨_,_,_,_,Q,.inl rfl⟩ (D.at λo e=>z d o q (Heap.get?_push_of_some _ e)) (λb o m _ e=>z b o m (Heap.get?_push_of_some _ e)) eS rfl rfl (λj a hj=>by simp at hj) (λa y=>nomatch y) List.nodup_nil zh
 unfold Builtin.List.listExtendWith
 refine ε (wpAny_typeOf (T:="dict_items") C.typeIs ?_)
 have U:Builtin.List.listSameRef (.ref S) (.ref v)=false:=by simp [Builtin.List.listSameRef,G]
 have I:(Value.type "dict_items"==Value.type "list")=false/\(Value.type "dict_items"==Value.type "tuple")=false:=⟨ζ,ζ⟩
 simp only [U,I.1,I.2,Bool.or_false,Bool.false_eq_true,if_false]
 have l:=ϸ (cM .none false d 0 es.size ep .none .none) N
 have n:s.heap.objs.size<=(s.heap.push (cM .none false d 0 es.size ep .none .none)).objs.size:=by rw [Ć];exact ğ _
 refine ε (zD C D L (ε (Ĭ (kdx_hint (let ⟨o,e,c,_⟩:=C;⟨o,ϸ _ e,c⟩) ?_))))
 refine wpAny_ite_split (λ_=>?_) (λ_=>π ⟨plainId_quiet ŀ _,H _ K _ (λb o _ e=>e) l n⟩)
 refine ε (wpAny_rule (ε ?_))
 show wpAny _ _ (updateSeq S (·.push .none) >>= λ_=>updateSeq S (·.pop)) _ _ {s with heap:=s.heap.push (cM .none false d 0 es.size ep .none .none)}
 have p:=Ŏ (Obj.mapSeq (·.push Value.none)) l rfl
 have r:=Ŏ (Obj.mapSeq (·.pop)) p rfl
 refine ε (wpAny_updateSeq l rfl (wpAny_updateSeq (hz:=by seq_fits) p rfl (π ⟨plainId_quiet ŀ _,H _ _ _ (λb o m e=>?_) r ?_⟩)))
 .exact (Ń _ _ (Ne.symm m)).trans ((Ń _ _ (Ne.symm m)).trans e)
 .rw [Heap.size_update,Heap.size_update]
  exact n
def pi{R:õ->å->Prop}(hh:A.handled=none)(N:s.heap.IsItemsView v d)(O:RawD s.heap d es ep)(Z:es.size<=sizeLine)
  (hR:∀(h':Ý) (j:Nat) (h:ô),(∀b o,s.heap.get? b=some o->h'.get? b=some o)->h.length=es.size->ud h' es h->(∀a∈h,s.heap.objs.size<=a)->h.Nodup->R (h.map Value.ref) {s with heap:=h',toks:=j}) :
  wpAny (model prog w) A (collect (.ref v)) R E s:=by
 have Q:v<s.heap.objs.size:=let ⟨_,e,_⟩:=N;η e
 have U:d<s.heap.objs.size:=let ⟨_,e,_⟩:=O;η e
 unfold collect
 refine ε (wpAny_runValue (Đ entry_proto_collect' ?_))
 rw [Ķ PySem.F.plain_proto_collect _]
 show wpAny _ A.in1 (newList [] >>= λl=>again (.builtin "list.__iadd__" (Args.mk [l,.ref v] []))) _ _ s
 refine ε (wpAny_newObj_type (π ⟨plainId_quiet PySem.F.plain_list_iadd _,Đ entry_list_iadd' ?_⟩))
 rw [Ķ PySem.F.plain_list_iadd _]
 have X:(s.heap.push {cls:=.type "list",data:=.seq ([]:õ).toArray}).get? s.heap.objs.size=some {cls:=.type "list",data:=.seq #[] 0}:=ϻ _ rfl
 have C:=tG (prog:=prog) (w:=w) (A:=A) (s:={s with heap:=s.heap.push {cls:=.type "list",data:=.seq ([]:õ).toArray}}) (v:=v) (S:=s.heap.objs.size) (d:=d) (es:=es) (ep:=ep)
  (R:=λ(q:Result) (p:å)=>∃(h':Ý) (j:Nat) (i:æ) (c:Nat) (h:ô),q=.ok (.ret (.ref s.heap.objs.size))/\p={s with heap:=h',toks:=j}/\(∀b o,s.heap.get? b=some o->h'.get? b=some o) /\
   h'.get? s.heap.objs.size=some {cls:=.type "list",dict:=none,data:=.seq i c,slots:=#[]}/\h.length=es.size/\ud h' es h/\(∀a∈h,s.heap.objs.size<=a)/\h.Nodup/\i.toList=h.map Value.ref)
  hh (let ⟨o,e,r⟩:=N;⟨o,ϸ _ e,r⟩) (O.at λo e=>ϸ _ e) Z (į Q) (Φ U) (.ref s.heap.objs.size) X
  (λh' j i c h D n G H I K L=>⟨h',j,i,c,h,ϱ,ϱ,λb o e=>D b o (Φ (η e)) (ϸ _ e),n,G,H,λa Y=>Nat.le_of_succ_le (by have:=I a Y;rw [Ć] at this;exact this),K,L⟩)
 have m:∀(q:Result) (p:å),(∃(h':Ý) (j:Nat) (i:æ) (c:Nat) (h:ô),q=.ok (.ret (.ref s.heap.objs.size))/\p={s with heap:=h',toks:=j}/\(∀b o,s.heap.get? b=some o->h'.get? b=some o) /\
   h'.get? s.heap.objs.size=some {cls:=.type "list",dict:=none,data:=.seq i c,slots:=#[]}/\h.length=es.size/\ud h' es h/\(∀a∈h,s.heap.objs.size<=a)/\h.Nodup/\i.toList=h.map Value.ref) ->
   ∃h' j,q=.ok (.ret (.ref s.heap.objs.size))/\p={s with heap:=h',toks:=j}/\wpAny (model prog w) A (load s.heap.objs.size >>= λo=>match o.data with | .seq xs _=>pure xs.toList | _=>unsupported "internal:collect") R E {s with heap:=h',toks:=j}:=by
  rintro q p ⟨h',j,i,c,h,rfl,rfl,D,n,G,H,I,K,L⟩
  refine ⟨h',j,ϱ,ϱ,ε (wpAny_load n (π ?_))⟩
  show R i.toList _
  rw [L]
  exact hR h' j h D G H I K
 refine Š C (λf p x=>?_) λe p x=>?_
 .cases f with
  | done fl =>
   obtain ⟨h',j,u,z,g⟩:=m _ _ x
   cases u
   subst z
   exact g
  | again c1 =>
   refine ⟨x.1,Ą x.2 λq s2 y=>?_⟩
   obtain ⟨h',j,u,z,g⟩:=m _ _ y
   subst u z
   exact g
 .obtain ⟨h',j,u,_⟩:=m _ _ x
  cases u
end
end L2
namespace L2
open PySem PySem.Spec PyProof.Rows PySem.W
def Vw(v d:ã):HO:=.ext λh=>h.IsItemsView v d
theorem bJ{α β:Type}{F:α->β->Prop}:∀{xs:Ú α} {ys:Ú β},xs.length=ys.length->(∀(i:Nat) x y,xs[i]?=some x->ys[i]?=some y->F x y)->Paired F xs ys
 | [],[],_,_=>.nil
 | x::xs,y::ys,h,f=>.cons (f 0 x y rfl rfl) (bJ (Nat.succ.inj h) λi a b e1 e2=>f (i+1) a b e1 e2)
noncomputable def gB(H:Hp)(ts:Ú (Addr×Ú V)):Hp:=λb=>match ts.find? (λp=>decide (p.1=b)) with | some p=>some (.tup p.2) | none=>H b
def xZ(nd:(ts.map (·.1)).Nodup)(hp:p∈ts):gB H ts p.1=some (.tup p.2):=by
 unfold gB
 have:ts.find? (λq=>decide (q.1=p.1))=some p:=by
  induction ts with
  | nil=>cases hp
  | cons x r ih =>
   rw [Ŵ,ŝ] at nd
   rw [List.find?_cons]
   by_cases e:x.1=p.1
   .rw [τ e]
    rcases ϕ.mp hp with z | z
    .rw [z]
    .exact absurd (ϑ.mpr ⟨p,z,e.symm⟩) nd.1
   .rw [Γ e]
    rcases ϕ.mp hp with z | z
    .exact absurd (by rw [z]) e
    .exact ih nd.2 z
 rw [this]
def pY(h:∀p∈ts,p.1≠b):gB H ts b=H b:=by
 unfold gB
 have:ts.find? (λq=>decide (q.1=b))=none:=List.find?_eq_none.mpr λp hp c=>h p hp (Ξ c)
 rw [this]
def uo(h:gB H ts b=some o):(∃p∈ts,p.1=b/\o=.tup p.2)\/((∀p∈ts,p.1≠b)/\H b=some o):=by
 unfold gB at h
 cases e:ts.find? (λq=>decide (q.1=b)) with
 | none =>
  rw [e] at h
  exact .inr ⟨λp hp z=>List.find?_eq_none.mp e p hp (τ z),h⟩
 | some p =>
  rw [e] at h
  exact .inl ⟨p,List.mem_of_find?_eq_some e,by simpa using List.find?_some e,(Option.some.inj h).symm⟩
section
variable {X:Cx}{pins:ý}{σ:St}{H:Hp}{s:å}
def FL(I:Inv X pins σ H s)(k:∀b o,s.heap.get? b=some o->h'.get? b=some o)(new:∀p∈ts,s.heap.objs.size<=p.1)
  (ok:∀p∈ts,p.2.length<=sizeLine/\∃its,Vals p.2 its/\IsTupN h' p.1 (List.toArray its)):Inv X pins σ (gB H ts) {s with heap:=h',toks:=tk}:=by
 have c:∀b o,s.heap.get? b=some o->gB H ts b=H b:=λb o e=>pY λp hp z=>by
  subst z
  exact Nat.not_le_of_gt (η e) (new p hp)
 have a:∀b o,H b=some o->gB H ts b=H b:=λb o e=>by
  obtain ⟨h,i⟩:=(I.hok b o e).there
  exact c b h i
 refine I.step (h':=h') (g':=s.gens) (d':=s.drawn) (t':=tk) (ch:=[]) (λ_ z=>nomatch z) (λb o _ _ _ e _=>k b o e) (λb o _ _ _ e _=>⟨o.slots,k b o e⟩) (λb o _ e n=>by rw [c b o e];exact n)
  (λb o _ e=>⟨o,k b o e⟩) (λb x e=>by rw [a b _ e];exact e) (λb o u e=>by rw [a b _ e];exact e) (λb C e=>⟨#[],by rw [a b _ e,e];simp⟩) (λm y=>?_) (λb o e=>?_) I.bare
 .obtain ⟨h,l,w,j,r⟩:=y
  exact ⟨h,l,w,k _ h j,r⟩
 .rcases uo e with ⟨p,hp,rfl,rfl⟩ | ⟨hn,i⟩
  .exact ok p hp
  .exact (I.hok b o i).stay (λd v _ q=>k d v q) (λd q=>by rw [a d _ q];exact q) λd x q=>by rw [a d _ q];exact q
end
end L2
namespace L2
open PySem PySem.Spec PyProof.Rows PySem.W
def sPa(_:Þ)(H:Hp)(x:Int×Int)(v:V):Prop:=∃a,v=.ref a/\H a=some (.tup [.int x.1,.int x.2])
def AX(h:Ý)(x:Int×Int)(v:ß):Prop:=∃a t1 t2,v=.ref a/\h.IsTuple a #[.int x.1 t1,.int x.2 t2]
noncomputable def ltP(x y:Int×Int):Bool:=if x.1=y.1 then (if x.2=y.2 then false else decide (x.2<y.2)) else decide (x.1<y.1)
section
variable {prog:ä}{w:â}{A:à}{E:ü}{s:å}
def FG{Q:Bool->å->Prop}(h1:AX s.heap x u)(p:AX s.heap y v)(q:Q (ltP x y) s):wpAny (model prog w) A (keyLt' (tuples' true) u v) Q E s:=by
 obtain ⟨a,b,d,rfl,e⟩:=h1
 obtain ⟨c,h,i,rfl,j⟩:=p
 obtain ⟨r,l,_,z,m⟩:=id e
 obtain ⟨C,n,_,D,o⟩:=id j
 refine kat_lt l m n o (kat_cons (SeqAt.EqAt.int_int _ b _ h _ _ _ _ ?_))
 unfold ltP at q
 by_cases en:x.1=y.1
 .rw [Ż en] at q
  rw [show (x.1==y.1)=true from ć.mpr en]
  refine kat_yes (kat_cons (SeqAt.EqAt.int_int _ d _ i _ _ _ _ ?_))
  by_cases es:x.2=y.2
  .rw [Ż es] at q
   rw [show (x.2==y.2)=true from ć.mpr es]
   exact kat_yes (kat_nil q)
  .rw [Ž es] at q
   rw [show (x.2==y.2)=false from ū.mpr es]
   exact kat_no (kat_one _ _ (lt_int q))
 .rw [Ž en] at q
  rw [show (x.1==y.1)=false from ū.mpr en]
  exact kat_no (kat_lt_int q)
end
def u7{P:ä}{w:â}{K:Þ}{H:Hp}{h:Ý}{x:Int×Int}{v:V}{u:ß}(ok:HOk P w H h)(q:sPa K H x v)(r:RelV v u):AX h x u:=by
 obtain ⟨a,rfl,h1⟩:=q
 cases (show u=Value.ref a from r)
 obtain ⟨_,b,c,p⟩:=(show ObjOk P w H h a (.tup [.int x.1,.int x.2]) from ok a _ h1)
 obtain ⟨i,j,rfl,⟨d,rfl⟩,⟨e,rfl⟩⟩:=pW c
 exact ⟨a,d,e,ϱ,p.tup⟩
end L2
namespace L2
open PySem PySem.Spec PyProof.Rows PySem.W
section
variable {prog:ä}{w:â}{A:à}{E:ü}{s:å}{h₀:Ý}{L:ã}{m:û}{news:ý}
def GU(T:ß)(h:Ý)(v:ß):Prop:=∃f,KatTups h [v] [f]/\∀M:Model,Looks M h (typeOf f) T
theorem uy{α:Type}{At:Ý->α->ß->Prop}(tp:∀{x v},At h x v->GU T h v):∀{es:Ú α} {vs:õ},Paired (At h) es vs->∃fs,KatTups h vs fs/\fs.length=vs.length/\∀v∈fs,∀M:Model,Looks M h (typeOf v) T
 | _,_,.nil=>⟨[],KatTups.nil,rfl,λ_ hv=>nomatch hv⟩
 | _,_,.cons r t=>by
  obtain ⟨fs,k,l,ty⟩:=uy tp t
  obtain ⟨f,k1,y1⟩:=tp r
  refine ⟨f::fs,⟨k1.1,k⟩,congrArg (·+1) l,λv hv M=>?_⟩
  rcases ϕ.mp hv with z | hv
  .subst z
   exact y1 M
  .exact ty v hv M
structure Srt(prog:ä)(w:â){α:Type}(At:Ý->α->ß->Prop)(lt:α->α->Bool)(T:ß):Prop where
 rf:(T==T)=true
 tp:∀{h:Ý} {x v},At h x v->GU T h v
 cm:∀{A:à} {E:ü} {s:å} {x y u v} {C:Bool->å->Prop},A.units+1<cLine->At s.heap x u->At s.heap y v->C (lt x y) s->wpAny (model prog w) A (keyLt' (tuples' (T != Value.type "tuple")) u v) C E s
theorem wq{α:Type} [Inhabited α]{h:Ý->α->ß->Prop}{lt:α->α->Bool}{T:ß}(S:Srt prog w h lt T){es:Ú α}{vs:õ}{a n:Nat}{P:PySem.Fin->å->Prop}(X:A.units+1<cLine)(F:Fr h₀ L s.heap m)(N:News h₀ L s.heap news)(Y:s.heap.get? a=some (seqObj "list" vs.toArray n))(l:a≠L)(r:h₀.get? a=none)(d:∀p∈news,p.1≠a)
  (Z:∀h',(∀b o,(b,o)∈news->h'.get? b=some o)->Paired (h h') es vs)(e:2<=vs.length)(u:vs.length<64)
  (q:∀h' c,Fr h₀ L h' m->News h₀ L h' ((a,PySem.W.listOf (List.toArray ((jt (λi j=>lt (es.getD i default) (es.getD j default)) (kas_sort es.length)).toList.map λi=>vs.getD i Value.none)) c)::news)->P (.done (.ret .none)) {s with heap:=h'}) :
  wpAny (model prog w) A (Builtin.«list.sort» ⟨[.ref a], []⟩) P E s := by
 refine kat_list_sort F N Y l r d e u λe1 h' D x=>?_
 have en:Paired (h h') es vs:=Z h' λb o G=>(x (b,o) (Θ _ G)).1
 have z:=en.len
 obtain ⟨fs,y,lf,ty⟩:=uy S.tp en
 refine kat_kind (s:={s with heap:=h'}) y (by lia) (λv H=>ty v H _) S.rf ?_
 rw [← z]
 refine KAll.wp (lt:=λi j=>lt (es.getD i default) (es.getD j default)) (λi j C I K O=>?_) (nS (by lia)) λhp=>?_
 .exact S.cm (s:={s with heap:=h'}) X (kF en I default Value.none) (kF en K default Value.none) O
 .exact KasFin.intro (s:={s with heap:=h'}) D x (.head d) λe c Q U=>q e c Q U
end
section
variable {X:Cx}{pins:ý}{σ:St}{H:Hp}{s:å}
theorem ib{α:Type} [Inhabited α]{At:Ý->α->ß->Prop}{lt:α->α->Bool}{T:ß}(S:Srt X.prog X.w At lt T){vs:õ}{us:Ú V}{es:Ú α}{Q:VK}{E:ü}{R:α->V->Prop}(hu:X.A.units+4<cLine)(I:Inv X pins σ H s)(O:Vals us vs)(pe:Paired R es us)
  (ra:∀{h x v u},HOk X.prog X.w H h->R x v->RelV v u->At h x u)(bd:us.length<64)
  (q:∀l ys,H l=none->Paired R (bh lt es) ys->Q (.ref l) (upd H l (.lst ys))) :
  wpAny (model X.prog X.w) X.A.in1 (newList vs >>= λl=>holding [l] (call (.builtin "list.sort") [l] []) >>= λ_=>ret l) (λfin s'=>∃v,fin=.done (.ret v)/\EP X pins σ Q v s') E s:=by
 have aq:us.length=vs.length:=O.length
 have U:es.length=us.length:=pe.len
 have zl:vs.length<=sizeLine:=by rw [þ];lia
 refine ε (wpAny_newList ?_ zl)
 obtain ⟨m,hn,_⟩:=id I.loc
 have N:News (Att.cQ s.heap) X.env.locals s.heap (Att.dL s.heap X.env.locals X.env.locals):=λ⟨c,o⟩ hp=>by
  obtain ⟨r,_,e⟩:=Att.mem_ledger.mp hp
  exact ⟨e,r,Att.cu _ _⟩
 have L:∀c o,c≠X.env.locals->s.heap.get? c=some o->(c,o)∈Att.dL s.heap X.env.locals X.env.locals:=λc o r e=>Att.mem_ledger.mpr ⟨r,r,e⟩
 have up:∀b o,s.heap.get? b=some o->(s.heap.push (seqObj "list" vs.toArray 0)).get? b=some o:=λb o e=>ϸ _ e
 have F1:Fr (Att.cQ s.heap) X.env.locals (s.heap.push (seqObj "list" vs.toArray 0)) m:=(Att.DC hn).kept up
 have N1:News (Att.cQ s.heap) X.env.locals (s.heap.push (seqObj "list" vs.toArray 0)) (Att.dL s.heap X.env.locals X.env.locals):=N.grown up
 have Y:(s.heap.push (seqObj "list" vs.toArray 0)).get? s.heap.objs.size=some (seqObj "list" vs.toArray 0):=ϻ _ rfl
 have nL:s.heap.objs.size≠X.env.locals:=į I.lt
 have na:∀p∈Att.dL s.heap X.env.locals X.env.locals,p.1≠s.heap.objs.size:=λp hp=>Φ (η (N p hp).1)
 have a:H s.heap.objs.size=none:=I.hok.fresh (ι _)
 have fin:∀(j:õ) (ys:Ú V),Vals ys j->ys.length<=sizeLine->Q (.ref s.heap.objs.size) (upd H s.heap.objs.size (.lst ys))->∀h' c,Fr (Att.cQ s.heap) X.env.locals h' m ->
   News (Att.cQ s.heap) X.env.locals h' ((s.heap.objs.size,PySem.W.listOf (List.toArray j) c)::Att.dL s.heap X.env.locals X.env.locals)->EP X pins σ Q (.ref s.heap.objs.size) {s with heap:=h'}:=λj ys ro hz hQ h' c D F=>by
  have keep:∀b o,b≠X.env.locals->s.heap.get? b=some o->h'.get? b=some o:=λb o r e=>(F (b,o) (Θ _ (L b o r e))).1
  have eD:h'.get? s.heap.objs.size=some (PySem.W.listOf (List.toArray j) c):=(F _ Ω).1
  refine ⟨.ref s.heap.objs.size,upd H s.heap.objs.size (.lst ys),?_,ϱ,hQ⟩
  have fresh:∀b o,s.heap.get? b=some o->b≠s.heap.objs.size:=λb o e=>Φ (η e)
  show Inv X pins σ (upd H s.heap.objs.size (.lst ys)) {s with heap:=h'}
  refine I.step (h':=h') (g':=s.gens) (d':=s.drawn) (t':=s.toks) (ch:=[]) (λ_ z=>nomatch z) (λb o r _ _ e _=>keep b o r e) (λb o r _ _ e _=>⟨o.slots,keep b o r e⟩) (λb o _ e n=>by rw [ah (fresh b o e)];exact n)
   (λb o _ e=>?_) (λb xs e=>by rw [ah (aj e a)];exact e) (λb o u e=>by rw [ah (aj e a)];exact e) (λb ps e=>⟨#[],by rw [ah (aj e a),e];simp⟩) (λm' a1=>?_) (λb o e=>?_) I.bare
  .by_cases hb:b=X.env.locals
   .obtain ⟨o',_,_,e',_⟩:=D.ns
    exact ⟨o',hb▸e'⟩
   .exact ⟨o,keep b o hb e⟩
  .have e:m'=m:=funext λname=>a1.agree hn name
   rw [e]
   exact D.ns
  .by_cases hb:b=s.heap.objs.size
   .subst hb
    rw [ai] at e
    cases e
    exact ⟨hz,j,c,ro,eD⟩
   .rw [ah hb] at e
    have C:b≠X.env.locals:=λz=>by rw [z,I.free] at e;cases e
    refine (I.hok b o e).stay (λd v hd q=>keep d v (λz=>?_) q) (λd q=>by rw [ah (aj q a)];exact q) λd xs q=>by rw [ah (aj q a)];exact q
    rcases hd with hd | hd
    .exact C (hd.symm.trans z)
    .rw [z,I.free] at hd;cases hd
 refine ε (Ĭ (ĺ slot_list_sort ⟨_,Y,ϱ⟩ entry_list_sort ?body (args_list_sort _)))
 case body =>
  by_cases h2:vs.length<2
  .refine wu (s:={s with heap:=s.heap.push (seqObj "list" vs.toArray 0)}) F1 N1 Y nL (Att.cu _ _) na h2 λh' c D F=>⟨_,ϱ,π ⟨_,ϱ,fin vs us O (by lia) (q _ us a ?_) h' c D F⟩⟩
   have Z:bh lt es=es:=by
    match es,(by lia:es.length<2) with
    | [],_=>unfold bh;show List.map _ (jt _ (kas_sort 0)).toList=_;rw [show kas_sort 0=.ret #[] from rfl];rfl
    | [x],_=>unfold bh;show List.map _ (jt _ (kas_sort 1)).toList=_;rw [show kas_sort 1=.ret #[0] from rfl];rfl
   rw [Z]
   exact pe
  .have h0:0<es.length:=by lia
   obtain ⟨y,G⟩:=yh lt es h0
   refine wq S (s:={s with heap:=s.heap.push (seqObj "list" vs.toArray 0)}) (es:=es) (by show X.A.units+1+1+1<cLine;lia) F1 N1 Y nL (Att.cu _ _) na (λh' hk=>?_) (by lia) (by lia) λh' c D F=>⟨_,ϱ,π ⟨_,ϱ,fin _ _ (rS O _ (λi hi=>by rw [← U];exact G i hi)) ?_ (q _ _ a ?_) h' c D F⟩⟩
   .have a0:HOk X.prog X.w H h':=λb o e=>by
     have C:b≠X.env.locals:=λz=>by rw [z,I.free] at e;cases e
     refine (I.hok b o e).stay (λd v hd q=>hk d v (L d v (λz=>?_) q)) (λ_ q=>q) λ_ _ q=>q
     rcases hd with hd | hd
     .exact C (hd.symm.trans z)
     .rw [z,I.free] at hd;cases hd
    exact bJ (by lia) λi x u ex eu=>by
     obtain ⟨v,ev,r1⟩:=pe.get1 ex
     obtain ⟨u',K,r2⟩:=O.get1 ev
     rw [eu] at K
     cases K
     exact ra a0 r1 r2
   .rw [ν]
    unfold bh at y
    rw [ν] at y
    rw [y,þ]
    lia
   .exact kE pe _ _ G
end
def uK:Srt prog w AX ltP (.type "int") :=
 ⟨ϱ,λ⟨a,t1,t2,e,⟨o,g,c,n,d⟩⟩=>by subst e;exact ⟨_,KatTups.cons g c d rfl KatTups.nil,λ_=>.now⟩,λ_ h1 h2 q=>FG h1 h2 q⟩
def qc:Srt prog w rP ltE (.type "tuple") :=
 ⟨ϱ,λ⟨a,b,t1,t2,t3,e,⟨o,g,c,n,d⟩,⟨o',g',c',_⟩⟩=>by subst e;exact ⟨_,KatTups.cons g c d rfl KatTups.nil,λM=>by rw [← c'];exact (Looks.ld g').andThen .now⟩,λhu h1 h2 q=>DG hu h1 h2 q⟩
def DEn(h:Ý)(d:ã)(ks:Ú (V×V)):Prop:=∃es ep,RawD h d es ep/\es.size=ks.length/\∀(i:Nat) (kv:V×V),ks[i]?=some kv->∃e,es[i]?=some e/\RelV kv.1 e.key/\RelV kv.2 e.val
theorem ft{X:Cx}{α:Type} [Inhabited α]{U:Ý->α->ß->Prop}{lt:α->α->Bool}{T:ß}{R:Hp->α->V->Prop}(S:Srt X.prog X.w U lt T)(rk:∀{H H' x v},gy H H'->R H x v->R H' x v)
  (ra:∀{H h x v u},HOk X.prog X.w H h->R H x v->RelV v u->U h x u)(hc:X.calm=true)(hu:X.A.units+4<cLine):CallR X (.builtin "sorted") (λxs H Q=>∃v d es,xs=[.ref v]/\H v=some (Vw v d) /\
  (∀h,HOk X.prog X.w H h->∃ks,DEn h d ks/\Paired (λx kv=>∀H' a,df H H'->H' a=some (.tup [kv.1,kv.2])->R H' x (.ref a)) es ks)/\es.length<64 /\
  ∀H' l ys,df H H'->H' l=none->Paired (R (upd H' l (.lst ys))) (bh lt es) ys->Q (.ref l) (upd H' l (.lst ys))):=by
 intro o s σ H xs us Q I r h
 obtain ⟨v,d,es,rfl,Y,Z,a0,q⟩:=h
 obtain ⟨u,rfl,rx⟩:=bz r
 cases (show u=Value.ref v from rx)
 obtain ⟨hw,_⟩:=(show ObjOk X.prog X.w H s.heap v (Vw v d) from I.hok v _ Y)
 obtain ⟨ks,⟨en,ep,rd,ln,ge⟩,N⟩:=Z _ I.hok
 have l0:=N.len
 refine Calls.call_function_entry kind_sorted plain_sorted entry_sorted (args_sorted1 _) ?_
 unfold Builtin.«sorted»
 refine ε (m:=checkCount "sorted" 1 1 _) (π (ε (pi (A:=X.A.in1) (I.ok.hd hc) hw rd (by rw [ln,þ];lia) λh' tk c k' la tu ab nd=>?_)))
 let ts:Ú (Addr×Ú V):=(c.zip ks).map λt=>(t.1,[t.2.1,t.2.2])
 have n:ts.map (·.1)=c:=by
  show ((c.zip ks).map λt=>(t.1,([t.2.1,t.2.2]:Ú V))).map (·.1)=c
  rw [Ō]
  show (c.zip ks).map Prod.fst=c
  rw [List.map_fst_zip]
  lia
 have new:∀p∈ts,s.heap.objs.size<=p.1:=λp hp=>ab p.1 (by rw [← n];exact ϑ.mpr ⟨p,hp,ϱ⟩)
 have I1:Inv X o σ (gB H ts) {s with heap:=h',toks:=tk}:=FL I k' new λp hp=>by
  obtain ⟨t,ht,rfl⟩:=ϑ.mp hp
  obtain ⟨i,F⟩:=ķ ht
  rw [Ŀ] at F
  obtain ⟨e,ee,eh⟩:=tu i t.1 F.1
  obtain ⟨e2,C,G,K⟩:=ge i t.2 F.2
  rw [ee] at C
  cases C
  exact ⟨by show 2<=sizeLine;decide,[e.key,e.val],.cons G (.cons K .nil),_,eh,ϱ,ϱ,_,ϱ⟩
 have same:df H (gB H ts):=λb ob e=>by
  obtain ⟨ak,e'⟩:=(I.hok b ob e).there
  rw [pY λp hp z=>by subst z;exact Nat.not_le_of_gt (η e') (new p hp)]
  exact e
 have pe:Paired (R (gB H ts)) es (c.map V.ref):=bJ (by rw [ν];lia) λi x y D j=>by
  rw [Ź] at j
  obtain ⟨a,L,rfl⟩:=ſ.mp j
  obtain ⟨kv,C,g⟩:=N.get1 D
  exact g _ _ same (xZ (by rw [n];exact nd) (p:=(a,[kv.1,kv.2])) (ϑ.mpr ⟨(a,kv),Ÿ (i:=i) (by rw [Ŀ];exact ⟨L,C⟩),ϱ⟩))
 have rv:Vals (c.map V.ref) (c.map Value.ref):=bJ (by rw [ν,ν]) λi x y D j=>by
  rw [Ź] at D j
  obtain ⟨a,L,rfl⟩:=ſ.mp D
  rw [L] at j
  cases j
  rfl
 exact ib S hu I1 rv pe (λok G K=>ra ok G K) (by rw [ν];lia) λl ys O py=>q _ l ys same O (Paired.mapP py λ_ _ z=>rk (eG O).ts z)
theorem fq{X:Cx}{α:Type} [Inhabited α]{j:Ý->α->ß->Prop}{lt:α->α->Bool}{T:ß}{R:Hp->α->V->Prop}(S:Srt X.prog X.w j lt T)(rk:∀{H H' x v},gy H H'->R H x v->R H' x v)
  (L:∀{H h x v u},HOk X.prog X.w H h->R H x v->RelV v u->j h x u)(N:X.A.units+4<cLine):CallR X (.builtin "sorted") (λxs H Q=>∃p us es,xs=[.ref p]/\SqL X.K H p us/\Paired (R H) es us/\es.length<64 /\
  ∀l ys,H l=none->Paired (R (upd H l (.lst ys))) (bh lt es) ys->Q (.ref l) (upd H l (.lst ys))):=by
 intro i s σ H xs us Q I r h
 obtain ⟨p,O,es,rfl,n,pe,y,q⟩:=h
 obtain ⟨u,rfl,C⟩:=bz r
 cases (show u=Value.ref p from C)
 obtain ⟨a,c,pl,U⟩:=I.list n
 have Y:=c.length
 have l2:=pe.len
 refine Calls.call_function_entry kind_sorted plain_sorted entry_sorted (args_sorted1 _) ?_
 unfold Builtin.«sorted»
 refine ε (m:=checkCount "sorted" 1 1 _) (π (ε (collect_list pl.isList ?_ (by rw [þ];lia))))
 refine ib S N (I.kept (t':=s.toks) (h':=(s.heap.push (seqObj "list" #[] 0)).update s.heap.objs.size (Obj.mapSeq (·++a.toArray))) λb o e=>?_) c pe (λok D F=>L ok D F) (by lia) λl ys d G=>q l ys d (Paired.mapP G λ_ _ z=>rk (eG d).ts z)
 exact (Ń _ _ (į (η e))).trans (ϸ _ e)
def zx(h:iP k u=true):RelV (kV k) u:=by
 cases k with
 | inl i=>exact Value.isInt_shape h
 | inr x=>exact Value.isStrOf_shape h
noncomputable def nKs(es:Ú (Int×Int)):List (Key×V):=es.map λx=>(.inl x.1,.int x.2)
theorem mH:∀{es:Ú DictEntry} {vs:Ú (Key×ß)} {xs:Ú (Int×Int)},Pairs (ay P w) es vs->KV (nKs xs) vs->es.length=xs.length/\∀(i:Nat) (x:Int×Int),xs[i]?=some x->∃e,es[i]?=some e/\RelV (.int x.1) e.key/\RelV (.int x.2) e.val
 | _,_,[],p,.nil=>by
  cases p
  exact ⟨ϱ,λi x e=>by cases e⟩
 | _,_,x::xs,p,.cons h t=>by
  cases p with
  | cons p1 p2 p3 =>
   obtain ⟨l,g⟩:=mH p3 t
   refine ⟨congrArg (·+1) l,λi y e=>?_⟩
   cases i with
   | zero =>
    cases e
    refine ⟨_,ϱ,zx (k:=.inl x.1) (by rw [show (Sum.inl x.1:Key)=_ from h.1];exact p1),?_⟩
    rw [p2]
    exact h.2
   | succ i=>exact g i y e
def F9{P:ä}{w:â}{K:Þ}{H:Hp}{d:ã}{es:Ú (Int×Int)}(hd:H d=some (.dK (nKs es))):∀h,HOk P w H h->∃ks,DEn h d ks/\Paired (λx kv=>∀H' a,df H H'->H' a=some (.tup [kv.1,kv.2])->sPa K H' x (.ref a)) es ks:=λh ok=>by
 obtain ⟨z,_,vs,rel,o,en,ep,h1,h2,h3,_,h4,_⟩:=(show ObjOk P w H h d (.dK _) from ok d _ hd)
 obtain ⟨ln,ge⟩:=mH h4 rel
 rw [Array.length_toList] at ln
 refine ⟨es.map λx=>(.int x.1,.int x.2),⟨en,ep,⟨o,h1,h2,h3⟩,by rw [ν,ln],λi kv e=>?_⟩,bJ (by rw [ν]) λi x kv ex ek H' a _ ha=>?_⟩
 .rw [Ź] at e
  obtain ⟨x,ex,rfl⟩:=ſ.mp e
  obtain ⟨e2,ek,r⟩:=ge i x ex
  exact ⟨e2,by rw [← Č];exact ek,r⟩
 .rw [Ź,ex] at ek
  cases ek
  exact ⟨a,ϱ,ha⟩
theorem F8{P:ä}{w:â}{K:Þ}{H:Hp}{d:ã}{es:Ú ((Int×Int)×Str)}(hd:H d=some (.dT (List.map (λx:(Int×Int)×Str=>([.inl x.1.1,.inl x.1.2],V.str x.2)) es))):∀h,HOk P w H h->∃ks,DEn h d ks/\Paired (λx kv=>∀H' a,df H H'->H' a=some (.tup [kv.1,kv.2])->sPS K H' x (.ref a)) es ks:=λh ok=>by
 obtain ⟨z,_,xs,rel,o,en,ep,h1,h2,h3,h4,h5⟩:=(show ObjOk P w H h d (.dT _) from ok d _ hd)
 have lx:es.length=xs.length:=by rw [← ĝ rel,ν]
 have at3:∀(i:Nat) (x:(Int×Int)×Str) (y:Ú Key×Addr×ß),es[i]?=some x->xs[i]?=some y->H y.2.1=some (.tup [.int x.1.1,.int x.1.2])/\RelV (.str x.2) y.2.2:=λi x y ex ey=>by
  obtain ⟨y',ey',ry⟩:=rel.get1 (j:=i) (x:=([.inl x.1.1,.inl x.1.2],V.str x.2)) (by rw [Ź,ex];rfl)
  rw [ey] at ey'
  cases ey'
  exact ⟨ry.2.1,ry.2.2⟩
 refine ⟨(es.zip xs).map λt=>(.ref t.2.2.1,.str t.1.2),⟨en,ep,⟨o,h1,h2,h3⟩,by rw [ÿ h4,ν,Ł];lia,λi kv e=>?_⟩,bJ (by rw [ν,Ł];lia) λi x kv ex ek H' a sm ha=>?_⟩
 .rw [Ź] at e
  obtain ⟨t,et,rfl⟩:=ſ.mp e
  rw [Ŀ] at et
  exact ⟨entryOfKey (tupleKind (ay P w)) t.2,by rw [entry_at h4,et.2];rfl,ϱ,(at3 i _ _ et.1 et.2).2⟩
 .rw [Ź] at ek
  obtain ⟨t,et,rfl⟩:=ſ.mp ek
  rw [Ŀ,ex] at et
  obtain ⟨e1,e2⟩:=et
  cases e1
  exact ⟨a,_,ϱ,ha,sm _ _ (at3 i _ _ ex e2).1⟩
end L2
namespace M
open PySem PySem.Spec L2
open PyProof.Rows hiding St
noncomputable def pA(p:Int×Int):AV:=.tup [.int p.1,.int p.2]
noncomputable def eA(e:(Int×Int)×Str):AV:=.tup [pA e.1,.str e.2]
section
variable {T:Tab}{ρ:Rho}{H H':Hp}{K:Þ}
def Fy(h:RV T ρ H (pA x) v):sPa K H x v:=by
 obtain ⟨a,j,rfl,h1,b,ws,rfl,⟨_,c⟩,d,us,rfl,⟨_,e⟩,i⟩:=h
 cases (show b=_ from c);cases (show d=_ from e);cases (show us=[] from i)
 exact ⟨a,ϱ,h1⟩
def CA(h:sPa K H x v):RV T ρ H (pA x) v:=let ⟨a,e,h1⟩:=h;⟨a,_,e,h1,_,_,rfl,⟨rfl,rfl⟩,_,_,rfl,⟨rfl,rfl⟩,rfl⟩
def HL(h:RV T ρ H (eA x) v):sPS K H x v:=by
 obtain ⟨a,l,rfl,h1,m,ws,rfl,⟨_,c⟩,d,us,rfl,⟨_,e⟩,i⟩:=h
 obtain ⟨b,rfl,j⟩:=Fy (K:=K) c
 cases (show d=_ from e);cases (show us=[] from i)
 exact ⟨a,b,ϱ,h1,j⟩
def E6(h:sPS K H x v):RV T ρ H (eA x) v:=let ⟨a,b,e,h1,h2⟩:=h;⟨a,_,e,h1,_,_,rfl,⟨rfl,CA (K:=K) (x:=x.1) ⟨b,rfl,h2⟩⟩,_,_,rfl,⟨rfl,rfl⟩,rfl⟩
theorem oB{α:Type}{f:α->AV}{R:α->V->Prop}(h:∀{x v},RV T ρ H (f x) v->R x v):∀{es:Ú α} {vs:Ú V},RVs T ρ H (es.map f) vs->Paired R es vs
 | [],_,e=>by cases (show _=[] from e);exact .nil
 | x::es,_,⟨v,ws,e,h1,h2⟩=>by subst e;exact .cons (h h1.2) (oB h h2)
theorem iz{α:Type}{f:α->AV}{R:α->V->Prop}(nf:∀x,aT (f x)=false)(h:∀{x v},R x v->RV T ρ H (f x) v):∀{es:Ú α} {vs:Ú V},Paired R es vs->RVs T ρ H (es.map f) vs
 | _,_,.nil=>rfl
 | _,_,.cons r t=>⟨_,_,rfl,⟨nf _,h r⟩,iz nf h t⟩
def sPa.back(h:sPa K (upd H l (.lst ys)) x v):sPa K H x v:=by
 obtain ⟨a,e,h⟩:=h
 refine ⟨a,e,?_⟩
 by_cases z:a=l
 .subst z;rw [ai] at h;cases h
 .rwa [ah z] at h
def sPS.back(h:sPS K (upd H l (.lst ys)) x v):sPS K H x v:=by
 obtain ⟨a,b,e,h,c⟩:=h
 refine ⟨a,b,e,?_,?_⟩
 .by_cases z:a=l
  .subst z;rw [ai] at h;cases h
  .rwa [ah z] at h
 .by_cases z:b=l
  .subst z;rw [ai] at c;cases c
  .rwa [ah z] at c
theorem m7(k:df H H'):Ext ρ H ρ H':=⟨λ_ _ z=>z,λ_ _ z=>.inl z,λa o z _=>k a o z,λa z=>by
 cases y:H a with
 | none=>rfl
 | some o=>rw [k a o y] at z;cases z⟩
end
section
variable {X:Cx}{T:Tab}
def qu(x:AV)(A:AH)(Q:AQ):Prop:=ok (listOf x A) λxs=>(∃es:Ú (Int×Int),xs=es.map pA/\es.length<64/\Q (.frl ((bh ltP es).map pA)) A)\/∃es:Ú ((Int×Int)×Str),xs=es.map eA/\es.length<64/\Q (.frl ((bh ltE es).map eA)) A
def ua(hK:X.K=T.K)(hu:X.A.units+4<cLine):AC X T (.builtin "sorted") (λxs A Q=>match xs with | [x]=>qu x A Q | _=>False) :=
 bR (CallR.or (fq (X:=X) (R:=λH x v=>sPa X.K H x v) uK (λ{H H' x v} e ⟨a,h1,h2⟩=>⟨a,h1,e _ _ h2⟩) (λok q r=>u7 ok q r) hu) (fq (X:=X) (R:=λH x v=>sPS X.K H x v) qc (λe q=>q.keep e) (λok q r=>q.ent ok r) hu)) fun ρ0 H0 ρ A H x v QA Q e l rv fz q fin=>by
  obtain ⟨xs,h1,q⟩:=q.of
  obtain ⟨a,vs,rfl,h2,h3⟩:=aN l rv h1
  rcases q with ⟨es,rfl,h64,q⟩ | ⟨es,rfl,h64,q⟩
  .exact .inl ⟨a,vs,es,ϱ,hK▸h2,oB Fy h3,h64,λl' ys hl py=>Fin.lst (Fin.after fin e) l hl (iz (λ_=>rfl) (λz=>CA (K:=X.K) (M.sPa.back z)) py) q⟩
  .exact .inr ⟨a,vs,es,ϱ,hK▸h2,oB HL h3,h64,λl' ys hl py=>Fin.lst (Fin.after fin e) l hl (iz (λ_=>rfl) (λz=>E6 (K:=X.K) (M.sPS.back z)) py) q⟩
def sN(D:PE X o td)(b:attributeBase o "items" X.env (eval o X.env)=eval o X.env)(c:(apos.endLine==cpos.line)=true) :
  PE X (.Call (.Attribute o "items" apos) [] [] cpos) (fun σ H Q=>td σ H λx H1=>∃a,x=.ref a/\IsD H1 a/\∀v,H1 v=none->Q (.ref v) (upd H1 v (Vw v a))):=by
 intro i s σ H Q I h
 refine wpAny_Call_method0_late b c (thn (D i s σ H _ I h) λu d ⟨x,H1,l,w,a,y,e,q⟩=>?_)
 subst y
 obtain rfl:u=Value.ref a:=w
 obtain ⟨j,m,n⟩:=v7 l e
 refine ⟨"dict","dict.items",Ŕ,PySem.F.slot_dict_items,PySem.F.type_dict_items,j,m,đ rfl (PySem.evalArgs_none ?_)⟩
 refine ĺ PySem.F.slot_dict_items j PySem.F.entry_dict_items ?_ (PySem.F.args_dict_items_1 _)
 unfold Builtin.«dict.items» Builtin.Dict.noArgs
 refine ε (ε (Ľ j (π ?_)))
 show wpAny _ _ (Builtin.Dict.showsAll a >>= λ_=>_) _ _ d
 unfold Builtin.Dict.showsAll
 rw [Ž (by rw [n];exact Ų)]
 refine ε (π (ε (wpAny_newObj_type (π ⟨_,ϱ,?_⟩))))
 refine ⟨.ref d.heap.objs.size,_,l.laid (a:=d.heap.objs.size) (o:=Vw d.heap.objs.size a) (t':=d.toks) (λ_ _ z=>ϸ _ z) (ι _) ⟨⟨_,ϻ _ rfl,ϱ,ϱ⟩,⟨_,ϻ _ rfl⟩,λg1 G ⟨C,p,r⟩ k=>⟨C,k _ p,r⟩⟩,ϱ,q _ (l.hok.fresh (ι _))⟩
def xL(ta:ATE):ATE:=fun σ A Q=>ta σ A λx A1=>match x with
 | .ref n=>match A1 n with
  | some (.dK ks xs)=>∃es:Ú (Int×Int),ks=es.map (λe=>.inl e.1)/\xs=es.map (λe=>.int e.2)/\es.length<64/\Q (.frl ((bh ltP es).map pA)) A1
  | some (.dT ks xs)=>∃es:Ú ((Int×Int)×Str),ks=es.map (λe=>[.inl e.1.1,.inl e.1.2])/\xs=es.map (λe=>.str e.2)/\es.length<64/\Q (.frl ((bh ltE es).map eA)) A1
  | _=>False
 | _=>False
theorem il{α:Type}{f:α->AV}{g:α->V}(h:∀{x v},RV T ρ H (f x) v->v=g x):∀{es:Ú α} {vs:Ú V},RVs T ρ H (es.map f) vs->vs=es.map g
 | [],_,e=>e
 | x::es,_,⟨v,ws,e,h1,h2⟩=>by subst e;rw [h h1.2,il h h2];rfl
theorem oj{α β γ:Type}{f:α->β}{g:α->γ}:∀{l:Ú α},(l.map f).zip (l.map g)=l.map λx=>(f x,g x)
 | []=>rfl
 | _::l=>congrArg (_::·) (oj (l:=l))
theorem xy(hc:X.calm=true)(hu:X.A.units+4<cLine)(ho:AE X T o ta)(hbase:attributeBase o "items" X.env (eval o X.env)=eval o X.env)(hline:(apos.endLine==cpos.line)=true)(hg:Gl X "sorted")(hm:X.mg "sorted"=none) :
  AE X T (.Call (.Name "sorted" p) [.Call (.Attribute o "items" apos) [] [] cpos] [] pos) (xL ta) :=
 (iD (CallR.or (ft (X:=X) (R:=λH x v=>sPa X.K H x v) uK (λ{H H' x v} e ⟨a,h1,h2⟩=>⟨a,h1,e _ _ h2⟩) (λok q r=>u7 ok q r) hc hu) (ft (X:=X) (R:=λH x v=>sPS X.K H x v) qc (λe q=>q.keep e) (λok q r=>q.ent ok r) hc hu)) hg hm PyProof.Rows.boot_sorted (bu (sN ho hbase hline) pa_nil rfl) ζ ζ rfl rfl).imp fun σv H Q ⟨ρ,σ,A,QA,rs,h,fin⟩=>ao rs h fun ρ1 x v A1 H1 e1 rs1 rv fz q=>by
  have fin':=Fin.after fin e1
  cases x with
  | ref n =>
   obtain ⟨a,rfl,hn⟩:=rv
   simp only [] at q
   cases e:A1 n with
   | none=>rw [e] at q;exact q.elim
   | some ob =>
    rw [e] at q
    obtain ⟨a',h1,h2⟩:=rs1.rl.obj n _ e
    rw [hn] at h1;cases h1
    cases ob with
    | dK ks xs =>
     obtain ⟨es,rfl,rfl,h64,q⟩:=q
     obtain ⟨vs,g1,g2,g3⟩:=h2
     have hv:=il (f:=λe:Int×Int=>.int e.2) (g:=λe:Int×Int=>.int e.2) (λz=>z) g3
     subst hv
     rw [oj] at g1
     refine ⟨a,ϱ,.inl ⟨_,.inl g1⟩,λw hw=>.inl ⟨w,a,es,ϱ,ai,F9 (K:=X.K) ((ah (aj g1 hw)).trans g1),h64,λH2 l ys sm hl py=>?_⟩⟩
     have sm1:df H1 H2:=λb o z=>sm b o ((ah (aj z hw)).trans z)
     have ex:Ext ρ1 H1 ρ1 H2:=m7 sm1
     have l2:=rs1.rl.same ex sm1
     exact Fin.lst (Fin.after fin' ex) l2 hl (iz (λ_=>rfl) (λz=>CA (K:=X.K) (M.sPa.back z)) py) q
    | dT ks xs =>
     obtain ⟨es,rfl,rfl,h64,q⟩:=q
     obtain ⟨vs,g1,g2,g3⟩:=h2
     have hv:=il (f:=λe:(Int×Int)×Str=>.str e.2) (g:=λe:(Int×Int)×Str=>.str e.2) (λz=>z) g3
     subst hv
     rw [oj] at g1
     refine ⟨a,ϱ,.inr ⟨_,.inl g1⟩,λw hw=>.inr ⟨w,a,es,ϱ,ai,F8 (K:=X.K) ((ah (aj g1 hw)).trans g1),h64,λH2 l ys sm hl py=>?_⟩⟩
     have sm1:df H1 H2:=λb o z=>sm b o ((ah (aj z hw)).trans z)
     have ex:Ext ρ1 H1 ρ1 H2:=m7 sm1
     have l2:=rs1.rl.same ex sm1
     exact Fin.lst (Fin.after fin' ex) l2 hl (iz (λ_=>rfl) (λz=>E6 (K:=X.K) (M.sPS.back z)) py) q
    | _=>exact q.elim
  | _=>exact q.elim
end
end M
namespace L2
open PySem PySem.Spec PyProof.Rows PySem.W
section
variable {prog:ä}{w:â}{A:à}{E:ü}{s:å}{it d:ã}{i ep:Nat}{es:Array DictEntry}
def mI:Builtin.Dict_items.ownsTuple "dict_keyiterator"=false:=by decide
def yG{Q:ü}(c:(d==sysModules)=false)(j:RawD s.heap d es ep)
  (l:Q (.ref s.heap.objs.size) {s with heap:=s.heap.push {cls:=.type "dict_keyiterator",data:=.fields #[.ref d,.int 0 0,.int es.size 0,.int ep 0]}}):wpAny (model prog w) A (pyIter (.ref d)) Q E s:=by
 obtain ⟨h,a,i,e⟩:=j
 have b:s.TypeIs (.ref d) "dict":=⟨h,a,i.1⟩
 refine wpAny_pyIter_slot b PySem.F.slot_dict_iter (ĺ PySem.F.slot_dict_iter b PySem.F.entry_dict_iter ?_ (PySem.F.args_dict_iter_1 _))
 unfold Builtin.«dict.__iter__» Builtin.Dict.dictSlotNone
 refine ε (ε (Ľ b ?_))
 refine π ?_
 show wpAny _ _ (Builtin.Dict.showsAll d >>= λ_=>_) _ _ s
 unfold Builtin.Dict.showsAll
 rw [Ž (by rw [c];exact Ų)]
 refine ε (π (ε (ř a e (ε (ď a e ?_)))))
 refine ε (wpAny_newObj_type (π ⟨_,ϱ,"dict_keyiterator",_,⟨_,ϻ _ rfl,ϱ⟩,PySem.F.slot_dict_keyiterator_next.lookup,?_⟩))
 simpa [rawInt] using l
theorem yF{Q:è->å->Prop}(h:s.heap.IsKeyIter it d i es.size ep)(m:RawD s.heap d es ep)(n:es[i]?=some e)
  (o:∀h',h'.IsKeyIter it d (i+1) es.size ep->Heap.SameBut it s.heap h'->Q (some e.key) {s with heap:=h'}):wpAny (model prog w) A (pyNext (.ref it)) Q E s:=by
 obtain ⟨p,h1,l,j⟩:=id h
 obtain ⟨q,b,_,c⟩:=m
 have ty:=h.typeIs
 unfold pyNext
 refine ε (wpAny_attempt (Ė (name:=("__next__":Str)) ty Ř (ĺ Ř ty PySem.F.entry_dict_keyiterator_next ?_ (PySem.F.args_dict_keyiterator_next_1 _))))
 refine ε (π (ε (ε ?_)))
 first | refine ε (ĵ ty (π ?_)) | refine ε (ě ty (π ?_))
 refine ε (wpAny_fieldsOf h1 j ?_)
 simp only [mI,Bool.false_eq_true,if_false]
 show wpAny _ _ (if (Value.ref d==Value.none)=true then _ else (_:Sem (Option (Array DictEntry×Int)))) _ _ s
 rw [Ž (show ¬((Value.ref d==Value.none)=true) by intro z;cases z)]
 refine ε (π (ε (ř b c ?_)))
 rw [if_neg (by simp)]
 refine ε (π (ε (ď b c ?_)))
 rw [if_neg (by simp)]
 refine π ?_
 simp only [show ¬((i:Int)<0) by lia,if_false,Int.toNat_natCast,n]
 refine ε ?_
 first | refine ε (ĵ ty (π ?_)) | refine ε (ě ty (π ?_))
 refine ε (wpAny_isOneOf_keyiter ty ?_)
 show wpAny _ _ (setField (.ref it) 1 (rawInt ((i:Int)+1)) >>= λ_=>_) _ _ s
 refine wpAny_bind (wpAny_setField h1 j (by simp) ?_)
 have a:(s.heap.update it (Obj.mapFields (·.setIfInBounds 1 (rawInt ((i:Int)+1))))).IsKeyIter it d (i+1) es.size ep :=
  ⟨_,Heap.get?_update_self _ h1 (Obj.isFreed_of_fields (Obj.data_mapFields j _)),(Obj.cls_mapFields ..).trans l,by rw [Obj.data_mapFields j];simp [rawInt]⟩
 refine ε (Ĭ (ε (wpAny_isOneOf_keyiter (s:={s with heap:=s.heap.update it (Obj.mapFields (·.setIfInBounds 1 (rawInt ((i:Int)+1))))}) a.typeIs ?_)))
 show wpAny _ _ (pure e.key) _ _ _
 exact π (π ⟨_,ϱ,π (o _ a (ţ ..))⟩)
theorem CB{Q:è->å->Prop}(hh:A.handled=none)(h:s.heap.IsKeyIter it d i es.size ep)(l:RawD s.heap d es ep)(n:es.size<=i)
  (o:∀h',Heap.ExtBut it s.heap h'->Q none {s with heap:=h'}):wpAny (model prog w) A (pyNext (.ref it)) Q E s:=by
 obtain ⟨p,h1,q,j⟩:=id h
 obtain ⟨r,c,_,e⟩:=l
 have ty:=h.typeIs
 unfold pyNext
 refine ε (wpAny_attempt (Ė (name:=("__next__":Str)) ty Ř (ĺ Ř ty PySem.F.entry_dict_keyiterator_next ?_ (PySem.F.args_dict_keyiterator_next_1 _))))
 refine ε (π (ε (ε ?_)))
 first | refine ε (ĵ ty (π ?_)) | refine ε (ě ty (π ?_))
 refine ε (wpAny_fieldsOf h1 j ?_)
 simp only [mI,Bool.false_eq_true,if_false]
 show wpAny _ _ (if (Value.ref d==Value.none)=true then _ else (_:Sem (Option (Array DictEntry×Int)))) _ _ s
 rw [Ž (show ¬((Value.ref d==Value.none)=true) by intro z;cases z)]
 refine ε (π (ε (ř c e ?_)))
 rw [if_neg (by simp)]
 refine ε (π (ε (ď c e ?_)))
 rw [if_neg (by simp)]
 refine π ?_
 simp only [show ¬((i:Int)<0) by lia,if_false,Int.toNat_natCast,Array.getElem?_eq_none n]
 refine ε ?_
 first | refine ε (ĵ ty (π ?_)) | refine ε (ě ty (π ?_))
 show wpAny _ _ (setField (.ref it) 0 .none >>= λ_=>_) _ _ s
 refine wpAny_bind (wpAny_setField h1 j (by simp) ?_)
 show wpAny _ _ (newExc (.type "StopIteration") [] >>= λ_=>_) _ _ _
 refine ε ?_
 simp only [newExc,newTuple]
 refine wpAny_bind (wpAny_newObj_type (wpAny_bind (m:=firstArgMember _ _) (wpAny_of_eq (a:=Value.none) (by first | rfl | (simp only [firstArgMember];rfl)) (wpAny_newObj_type ?_ (by size_fits)))) (by size_fits))
 simp only [raiseNew]
 refine ε (wpAny_handled ?_)
 rw [show A.in1.handled=none from hh]
 refine ε (π (wpAny_throw ?_));refine ε (wpAny_isInstance (T:="StopIteration") (b:=true) ⟨_,ϻ _ rfl,ϱ⟩ isSubtype_stop ?_)
 exact π (o _ (((ţ ..).extBut.push _).push _))
end
end L2
namespace L2
open PySem PySem.Spec PyProof.Rows PySem.W
def Fz(a:ã)(o:Obj):HO:=.ext λh=>h.get? a=some o
def FzD(P:ä)(w:â)(H:Hp)(a:ã)(o:Obj)(kvs:List (List Key×V)):Prop :=
 kvs.length<=sizeLine/\(a==sysModules)=false/\∃xs es ep,KT H kvs xs/\o.ExactDict/\o.data=.dict es ep/\es.toList=xs.map (entryOfKey (tupleKind (ay P w)))/\(xs.map (·.1)).Nodup
def FzD.keep(e:gy H H')(f:FzD P w H a o kvs):FzD P w H' a o kvs:=by
 obtain ⟨z,b,c,d,h,r,q⟩:=f
 exact ⟨z,b,c,d,h,r.keeps e,q⟩
section
variable {X:Cx}{pins:ý}{σ:St}{H:Hp}{s:å}{a:ã}{o:Obj}{kvs:List (List Key×V)}
def Dx(I:Inv X pins σ H s)(e:H a=some (.dT kvs)):∃o,Inv X pins σ (upd H a (Fz a o)) s/\FzD X.prog X.w (upd H a (Fz a o)) a o kvs/\s.heap.get? a=some o:=by
 obtain ⟨z,c,d,r,o,h,i,h1,j,l,m,n⟩:=(show ObjOk X.prog X.w H s.heap a (.dT kvs) from I.hok a _ e)
 refine ⟨o,I.write (x:=a) (e:=a) (h':=s.heap) (t':=s.toks) (by rw [e];exact ϰ) (.inl rfl) (λb u _ q=>q) ⟨_,h1⟩ ⟨h1,⟨_,h1⟩,λg1 v p k=>k _ p⟩,⟨z,c,d,h,i,KT.keeps (H:=H) r λb y q=>?_,j,l,m,n⟩,h1⟩
 rw [ah (qC q e (λz=>nomatch z))]
 exact q
def uB(I:Inv X pins σ H s)(e:H a=some (Fz a o))(f:FzD X.prog X.w H a o kvs):Inv X pins σ (upd H a (.dT kvs)) s:=by
 obtain ⟨z,c,d,h,i,r,j,l,m,n⟩:=f
 obtain ⟨h1,_⟩:=(show ObjOk X.prog X.w H s.heap a (Fz a o) from I.hok a _ e)
 refine I.write (x:=a) (e:=a) (h':=s.heap) (t':=s.toks) (by rw [e];exact ϰ) (.inl rfl) (λb u _ q=>q) ⟨_,h1⟩ ⟨z,c,d,r.keeps λb p q=>?_,o,h,i,h1,j,l,m,n⟩
 rw [ah (qC q e (λz=>nomatch z))]
 exact q
def zO(I:Inv X pins σ H s)(e:H a=some (Fz a o))(f:FzD X.prog X.w H a o kvs):(a==sysModules)=false/\∃xs,KT H kvs xs/\s.heap.DictOfH (tupleKind (ay X.prog X.w)) a xs:=by
 obtain ⟨_,c,xs,r,d⟩:=nh (uB I e f).hok ai
 refine ⟨c,xs,r.keeps λb h q=>?_,d⟩
 by_cases hb:b=a
 .rw [hb,ai] at q
  cases q
 .rw [ah hb] at q
  exact q
end
def ER(P:ä)(w:â)(t:TE):TE:=fun σ H Q=>t σ H λv H1=>∃a o kvs,H1 a=some (Fz a o)/\FzD P w H1 a o kvs/\Q v (upd H1 a (.dT kvs))
def yS(l:PE X e t):PE X e (ER X.prog X.w t):=by
 intro b s σ H Q I h
 refine thn (l b s σ H _ I h) λu m ⟨x,H1,c,d,a,o,i,j,f,q⟩=>?_
 exact ⟨x,_,uB c j f,d,q⟩
def uG(P:ä)(w:â)(td ty:TE):TE:=fun σ H Q=>td σ H λx H1=>ty σ H1 λy H2=>∃a o kvs k b v,x=.ref a/\y=.ref b/\H2 a=some (Fz a o)/\FzD P w H2 a o kvs/\H2 b=some (.tup (List.map kV k))/\bC kvs k=some v/\Q v H2
def vG(hu:X.A.units+1<cLine)(ho:PE X o td)(hi:PE X i ty)(hs:GX i):PE X (.Subscript o i pos) (uG X.prog X.w td ty):=by
 intro c s σ H Q I h
 refine yd PySem.F.slot_dict_getitem.lookup hs (thn (ho c s σ H _ I h) λu z ⟨x,H1,C,D,G⟩=>thn (hi c z σ H1 _ C G) λK s2 ⟨y,L,m,N,a,ob,O,k,b,v,S,U,Y,f,Z,l,q2⟩=>?_)
 subst S U
 obtain rfl:u=Value.ref a:=D
 obtain rfl:K=Value.ref b:=N
 obtain ⟨_,q,d,n⟩:=zO m Y f
 obtain ⟨w',r,e⟩:=RelO.some_of (v:=v) (o:=(atKey q k).map (·.2)) (by rw [← l];exact d.val k)
 obtain ⟨p,hp,j⟩:=ſ.mp r
 refine ⟨n.typeIs,wpAny_getItem_heap (œ hu) (bX m.hok Z) n hp ?_⟩
 rw [j]
 exact ⟨v,L,m.tok _,e,q2⟩
def Itk(a:ã)(o:Obj):It :=
 ⟨λi H=>H a=some (Fz a o)/\∃es ep h b v,o.data=.dict es ep/\es[i]?=some ⟨h,.ref b,v⟩,λi H x H'=>H'=H/\∃es ep h b v,o.data=.dict es ep/\es[i]?=some ⟨h,.ref b,v⟩/\x=.ref b,
  λi H=>H a=some (Fz a o)/\∃es ep,o.data=.dict es ep/\es.size<=i⟩
def rW{P:ä}{w:â}{K:Þ}{tg:Û}(a it:ã)(o:Obj)(S:o.ExactDict):uc P w K tg (Itk a o) [it] it (λi h=>∃es ep,o.data=.dict es ep/\h.IsKeyIter it a i es.size ep) where
 mem:=by simp
 obj:=λi h st b hb=>by
  have e:b=it:=by simpa using hb
  subst e
  obtain ⟨_,_,_,o,e,c,d⟩:=st
  exact ⟨o,e,λv z=>by rw [d] at z;cases z⟩
 keep:=λi h h' st k=>by
  obtain ⟨es,ep,d,st⟩:=st
  exact ⟨es,ep,d,st.at λo e=>k it (by simp) o e⟩
 item:=by
  intro X G L N Q i m s σ H E I q st O
  subst G L N
  obtain ⟨es,ep,l,st⟩:=st
  obtain ⟨e0,r,u,U,b,v,j,p⟩:=O
  rw [l] at j
  cases j
  obtain ⟨h1,_⟩:=(show ObjOk X.prog X.w H s.heap a (Fz a o) from I.hok a _ e0)
  obtain ⟨x,y,Y,C,D,F⟩:=q it (by simp)
  refine yF st ⟨o,h1,S,l⟩ p λh' n sb=>?_
  have Z:Inv X m σ H {s with heap:=h'}:=I.turned (t':=s.toks) (λb o hb e=>(sb.2 b hb).trans e) x y C D F
  obtain ⟨oi,e,c,d⟩:=id n
  exact ⟨.ref b,ϱ,mY (s:={s with heap:=h'}) e c d ζ ⟨.ref b,H,Z,ϱ,⟨ϱ,es,ep,U,b,v,l,p,ϱ⟩,⟨es,ep,l,n⟩,λb hb=>(q b hb).1⟩⟩
 done:=by
  intro X G L N Q i m s σ H E I q st O
  subst G L N
  obtain ⟨es,ep,l,st⟩:=st
  obtain ⟨e0,r,u,j,p⟩:=O
  rw [l] at j
  cases j
  obtain ⟨h1,_⟩:=(show ObjOk X.prog X.w H s.heap a (Fz a o) from I.hok a _ e0)
  obtain ⟨x,y,Y,C,D,F⟩:=q it (by simp)
  exact CB (I.ok.hd Q) st ⟨o,h1,S,l⟩ p λh' eb=>⟨ϱ,I.turned (t':=s.toks) (λb o hb e=>eb b o hb e) x y C D F⟩
 self:=λ_ _ _ _ _ st h=>by
  obtain ⟨es,ep,l,st⟩:=st
  exact wpAny_pyIter_keyiter st h
def FZ(P:ä)(w:â)(tl:TE):TI:=fun σ H R=>tl σ H λx H1=>∃a kvs,x=.ref a/\H1 a=some (.dT kvs)/\∀o,FzD P w (upd H1 a (Fz a o)) a o kvs->R (Itk a o) (upd H1 a (Fz a o))
def yR{X:Cx}{tg l:Û}{n:TE}(K:PE X l n):PI X tg l (FZ X.prog X.w n):=by
 intro c s σ H R I h
 refine thn (K c s σ H _ I h) λv d ⟨x,H1,C,D,F⟩=>?_
 obtain ⟨a,p,e,r,q⟩:=F
 subst e
 cases D
 obtain ⟨o,i,f,h1⟩:=Dx C r
 obtain ⟨_,u,L,y,z,_,j,m,_,_⟩:=id f
 refine yG u ⟨o,h1,j,m⟩ ?_
 refine ⟨d.heap.objs.size,[d.heap.objs.size],_,_,_,ϱ,i.kept (t':=d.toks) λb o e=>ϸ _ e,rW a _ o j,⟨y,z,m,_,ϻ _ rfl,ϱ,ϱ⟩,λb G=>?_,q o f⟩
 have e:b=d.heap.objs.size:=by simpa using G
 subst e
 exact i.fpOk (ι _) (i.hok.fresh (ι _))
section
variable {P:ä}{w:â}{a:ã}{o:Obj}{kvs:List (List Key×V)}{tt:TT}{te:TE}{bl:St}{Fin:Ú V->Hp->Prop}{H:Hp}
theorem zq(f:FzD P w H a o kvs)(d:Nat->Ú V->Hp->Prop)(h0:d 0 [] H)(Y:∀i ys H',i<=kvs.length->d i ys H'->H' a=some (Fz a o)/\gy H H')
  (Z:∀i e b ys H',kvs[i]?=some e->H' b=some (.tup (e.1.map kV))->d i ys H'->tt (some (.ref b)::bl) H' λc H2=>if c=true then te (some (.ref b)::bl) H2 λy H3=>d (i+1) (ys++[y]) H3 else d (i+1) ys H2)
  (hd:∀ys H',d kvs.length ys H'->Fin ys H') :
  ∃(W:Nat->Ú V->Hp->Prop) (n:Nat),W 0 [] H/\n<=sizeLine/\∀i ys H,W i ys H->((Itk a o).stop i H/\Fin ys H) \/
   ((Itk a o).go i H/\i<n/\∀x H',(Itk a o).yld i H x H'->tt (some x::bl) H' λc H2=>if c=true then te (some x::bl) H2 λy H3=>W (i+1) (ys++[y]) H3 else W (i+1) ys H2):=by
 obtain ⟨F,_,xs,m,u,r,hx,h,C,_⟩:=f
 have O:m.size=kvs.length:=by rw [ÿ C];exact (ĝ r).symm
 refine ⟨λi ys H'=>i<=kvs.length/\d i ys H',kvs.length,⟨ϖ _,h0⟩,F,?_⟩
 rintro i ys H' ⟨X,p⟩
 obtain ⟨q,ts⟩:=Y i ys H' X p
 by_cases hlt:i<kvs.length
 .obtain ⟨y,G,I⟩:=r.get1 (ξ hlt)
  have D:m[i]?=some (entryOfKey (tupleKind (ay P w)) y):=by rw [entry_at C,G];rfl
  refine .inr ⟨⟨q,m,u,_,y.2.1,y.2.2,h,D⟩,hlt,λx H2 z=>?_⟩
  obtain ⟨e,K,L,hh,b,v,j,l,N⟩:=z
  subst e N
  rw [h] at j
  cases j
  rw [D] at l
  have Q:y.2.1=b:=by
   have:=congrArg DictEntry.key (Δ l)
   exact Value.ref.inj this
  subst Q
  have z:=Z i kvs[i] y.2.1 ys H2 (ξ hlt) (ts _ _ I.2.1) p
  have S:(λ(c:Bool) (H2:Hp)=>if c=true then te (some (.ref y.2.1)::bl) H2 λy H3=>i+1<=kvs.length/\d (i+1) (ys++[y]) H3 else i+1<=kvs.length/\d (i+1) ys H2)=λc H2=>if c=true then te (some (.ref y.2.1)::bl) H2 λy H3=>d (i+1) (ys++[y]) H3 else d (i+1) ys H2:=by
   have U:(i+1<=kvs.length)=True:=eq_true hlt
   funext c H2
   simp only [U,true_and]
  show tt _ _ _
  rw [S]
  exact z
 .have e:i=kvs.length:=by lia
  subst e
  exact .inl ⟨⟨q,m,u,h,by lia⟩,hd ys H' p⟩
end
end L2
namespace M
open PySem PySem.Spec L2
open PyProof.Rows hiding St
noncomputable def fG(ks:Ú (List Key))(xs:Ú AV)(js:Ú (List Key))(ys:Ú AV)(k:List Key):Option AV:=match glk js ys k with
 | some _=>none
 | none=>glk ks xs k
def ED(i f g:Nat):ATE:=fun σ A Q=>∃x n m ks xs js ys,σ[i]?=some (some x)/\fX x f A=some (.ref n)/\fX x g A=some (.ref m)/\n≠m/\A n=some (.dT ks xs)/\A m=some (.dT js ys)/\Q (.frl (ks.filterMap (fG ks xs js ys))) A
section
variable {T:Tab}{ρ:Rho}{A:AH}{H:Hp}
def rY(l:H D=some (.dT kvs))(j:df (upd H D (Fz D o)) H1)(hp:H1 p=none) :
  df H (upd (upd H1 p o2) D (.dT kvs))/\(upd (upd H1 p o2) D (.dT kvs)) p=some o2/\(upd H1 p o2) D=some (Fz D o)/\H p=none:=by
 have i:H1 D=some (Fz D o):=j _ _ ai
 have c:p≠D:=Ne.symm (aj i hp)
 have h:∀b a,b≠D->H b=some a->H1 b=some a:=λb a d e=>j _ _ (by rw [ah d];exact e)
 refine ⟨λb a e=>?_,by rw [ah c];exact ai,by rw [ah (Ne.symm c)];exact i,?_⟩
 .by_cases d:b=D
  .subst d
   rw [ai,← e,l]
  .rw [ah d,ah (λz=>by rw [← z,h b a d e] at hp;cases hp)]
   exact h b a d e
 .cases e:H p with
  | none=>rfl
  | some a=>rw [h p a c e] at hp;cases hp
theorem Ext.same(s:df H H'):Ext ρ H ρ H':=⟨λ_ _ e=>e,λ_ _ e=>.inl e,λa o e _=>s a o e,λa e=>by
 cases h:H a with
 | none=>rfl
 | some o=>rw [s a o h] at e;cases e⟩
def xW{κ:Type} [DecidableEq κ]{kvs:Ú (κ×V)}{t:Nat}{kv:κ×V}(h:kvs[t]?=some kv):bC kvs kv.1≠none:=λz=>by
 unfold bC at z
 rw [Option.map_eq_none_iff,List.find?_eq_none] at z
 exact z kv (List.mem_of_getElem? h) (by simp)
end
section
variable {X:Cx}{T:Tab}
def Ej{i f g:Nat}{x y:Str}{scope:Scope}{O:ó}{p1 Z p3 p4 p5 p6 p7 p8 p9 Y a8 pos:Pos}(hK:X.K=T.K)(hu:X.A.units+1<cLine)(S:l9 X.N X.env.scope scope 1 O [i])(hc:X.calm=true)(hg:∀C fp s H,PG (X.blk O scope C fp s H) (.Name y p5) (m6 0))
  (hx:∀p,PE X (.Name x p) (kq i))(h0:∀C fp s H p,PE (X.blk O scope C fp s H) (.Name y p) (kq 0))(h1:∀C fp s H p,PE (X.blk O scope C fp s H) (.Name x p) (kq 1)) :
  AE X T (.ListComp (.Subscript (.Attribute (.Name x p1) (nm f) Z) (.Name y p3) p4) [⟨.Name y p5,.Attribute (.Name x p6) (nm f) p7,[.Compare (.Name y p8) [.NotIn] [.Attribute (.Name x p9) (nm g) Y] a8],0⟩] scope pos) (ED i f g):=by
 have b4:=yS (vz (tt:=tB (qa (kq 0) (Cc X.K (kq 1) (nm g)))) (te:=uG X.prog X.w (Cc X.K (kq 1) (nm f)) (kq 0)) (pos:=pos) (elt:=.Subscript (.Attribute (.Name x p1) (nm f) Z) (.Name y p3) p4) (ifs:=[.Compare (.Name y p8) [.NotIn] [.Attribute (.Name x p9) (nm g) Y] a8]) Dh S hg hc (yR (tg:=.Name y p5) (kH (pos:=p7) (f:=nm f) (hx p6) rfl))
  (λC fp s H=>qm (CJ (sP (X:=X.blk O scope C fp s H) hu (h0 C fp s H p8) (kH (X:=X.blk O scope C fp s H) (pos:=Y) (f:=nm g) (h1 C fp s H p9) rfl)) rfl)) (λC fp s H=>vG (X:=X.blk O scope C fp s H) hu (kH (X:=X.blk O scope C fp s H) (pos:=Z) (f:=nm f) (h1 C fp s H p1) rfl) (h0 C fp s H p3) (λ_ _=>rfl)) (λ_=>rfl))
 refine b4.imp fun σv H Q ⟨ρ,σ,A,QA,G,h,bd⟩=>?_
 obtain ⟨ax,n,m,c,D,F,I,e0,e1,e2,ar,e3,e4,q⟩:=h
 obtain ⟨v,hv,_,rv⟩:=G.at_ i ax e0
 obtain ⟨a,C,dx,fs,w,rfl,ha,a1,f1,f2,_,d,rfl,q7⟩:=gU G.rl rv e1
 obtain ⟨a',C',ct,cv,w',z1,Z,p3,g1,g2,_,e,rfl,p7⟩:=gU G.rl rv e2
 cases z1
 rw [ha] at Z;cases Z
 obtain ⟨d',b1,vs,d1,d2,d3⟩:=G.rl.obj n _ e3
 obtain ⟨e',c1,us,j1,j2,j3⟩:=G.rl.obj m _ e4
 rw [q7] at b1;cases b1
 rw [p7] at c1;cases c1
 have b5:d≠e:=λz=>ar (G.rl.inj n m d q7 (z▸p7))
 have hz:(c.zip vs).length=c.length:=by rw [Ł,← d3.len,d2,Nat.min_self]
 refine ⟨_,hv,a,C,dx,fs,_,ϱ,ha,hK▸a1,hK▸f1,f2,d,_,ϱ,d1,λo fz=>?_⟩
 have b6:a≠d:=λz=>by rw [z,d1] at ha;cases ha
 have a4:upd H d (Fz d o) a=some (.ins C dx fs):=by rw [ah b6];exact ha
 have bb:upd H d (Fz d o) e=some (.dT (F.zip us)):=by rw [ah (Ne.symm b5)];exact j1
 refine zq fz (λt ws H1=>df (upd H d (Fz d o)) H1/\RVs T ρ H ((c.take t).filterMap (fG c D F I)) ws) ⟨df.refl _,ϱ⟩ (λt ws H' _ z=>⟨z.1 _ _ ai,z.1.ts⟩) (λt j b ws H' U hb z=>?_) ?_
 .obtain ⟨u,l⟩:=z
  have hk:c[t]?=some j.1:=by
   rw [Ŀ] at U
   exact U.1
  have ht:(c.take (t+1)).filterMap (fG c D F I)=(c.take t).filterMap (fG c D F I)++(fG c D F I j.1).toList:=by
   rw [List.take_succ,hk,List.filterMap_append]
   cases e:fG c D F I j.1<;>simp [e]
  obtain ⟨b1,b2⟩:=dO (k:=j.1) j2 j3
  obtain ⟨c1,c2⟩:=dO (k:=j.1) d2 d3
  have L:Cls X.K C:=hK▸a1
  have a6:(some (V.ref b)::bj [i] σv)[1]?=some (some (V.ref a)):=by simp [bj,hv]
  refine ⟨_,ϱ,_,a6,a,C,dx,fs,_,ϱ,u _ _ a4,L,hK▸g1,g2,e,_,ϱ,DGet.t (k:=j.1) (u _ _ bb) hb,_,ϱ,?_⟩
  cases eg:glk F I j.1 with
  | some y =>
   obtain ⟨w,hw,_⟩:=b2 y eg
   rw [hw]
   exact HF ⟨u,by rw [ht,show fG c D F I j.1=none by unfold fG;rw [eg]];simpa using l⟩
  | none =>
   rw [b1 eg]
   have hin:∃y,glk c D j.1=some y:=by
    cases ey:glk c D j.1 with
    | some y=>exact ⟨y,rfl⟩
    | none=>exact absurd (c1 ey) (xW U)
   obtain ⟨y,ey⟩:=hin
   obtain ⟨w,hw,b3⟩:=c2 y ey
   refine HE ⟨_,a6,a,C,dx,fs,_,ϱ,u _ _ a4,L,hK▸f1,f2,_,ϱ,d,o,_,j.1,b,w,ϱ,ϱ,u _ _ ai,fz.keep u.ts,hb,hw,u,?_⟩
   rw [ht,show fG c D F I j.1=some y by unfold fG;rw [eg];exact ey]
   exact l.snoc (d3.nf y (fW ey)) b3
 .rintro ws H1 ⟨u,l⟩ r hr
  obtain ⟨t1,t2,t3,t4⟩:=rY (o2:=.lst ws) d1 u hr
  refine ⟨d,o,_,t3,(fz.keep u.ts).keep (eG hr).ts,?_⟩
  rw [hz,ő] at l
  exact bd ρ (.frl _) _ A _ (Ext.same t1) (G.rl.same (Ext.same t1) t1) ⟨r,ws,ϱ,G.rl.nrN t4,t2,l.ext G.rl.kd (Ext.same t1)⟩ (λ_ b e=>by cases e;exact t4) q
end
inductive Op where
 | add | sub | mul | fdiv | mod | pow | lt | le | gt | ge | eq | ne | is_ | isnot | in_ | notin | ix
inductive Bi where
 | len | list | tuple | all | any | sum | str | int | ord | dict | sorted
inductive Ex where
 | bad | v (i:Nat) | c (x:AV) | fld (e:Ex) (f:Nat) | op (o:Op) (a b:Ex) | not (a:Ex) | bool (o:Bool) (a b:Ex) | ite (t a b:Ex)
 | tup (es:(List) Ex) | lst (es:(List) Ex) | call (f:Nat) (es:(List) Ex) | meth (e:Ex) (bm:Option Bm) (m:Nat) (es:(List) Ex) | make (c:Nat) (es:(List) Ex) | blt (b:Bi) (e:Ex) | rng1 (a:Ex) | rng2 (a b:Ex)
 | neg (a:Ex) | chain (o o':Op) (a b c:Ex) | sl (e:Ex) (lo hi:(List) Ex) | dic | isin (c:Ty) (e:Ex) | tabI (D:(List) (Str×KTD.Dat)) (e:Ex) | tabS (D:(List) (Str×KTD.Dat)) (e:Ex) | inP (ps:(List) (Str×Str)) (e:Ex)
 | sortI (e:Ex) | callv (i:Nat) (e:Ex) | methl (o:Ex) (m:Nat) (es:(List) Ex) (fk tn:Nat) (lp:Pos) (q:Str) (fvs:(List Nat)) (bd:Ex)
 | sel (i f g:Nat)
 | comp (it:Ex) (mm:Nat) (tp:Bool) (is fv:(List Nat)) (ifs:(List) Ex) (elt:Ex)
inductive Sm where
 | bad | set (i:Nat) (e:Ex) | setf (o e:Ex) (f:Nat) | seti (o k e:Ex) | aug (o:Ex) (f:Nat) (j:Int) | ex (e:Ex) | ret (e:Ex) | retn | ite (t:Ex) (a b:(List) Sm)
 | for_ (tp:Bool) (is:(List Nat)) (it:Ex) (body:(List) Sm) | wh (t:Ex) (body:(List) Sm) | brk | pass | blk (ss:(List) Sm) | setT (is:(List Nat)) (e:Ex)
structure Fd where
 np:Nat
 nl:Nat
 body:Ú Sm
structure Rn where
 call:Nat->ASp
 me:Nat->Nat->Option Nat
 ini:Nat->Option Nat
 fl:Nat->Nat->Bool
 fd:Nat->Option Fd
structure Ev where
 e:ATE
 t:ATT
 i:ATI
def Ev.of(e:ATE):Ev:=⟨e,aB e,Du e⟩
def opP:Op->A2
 | .add=>Fx
 | .sub=>pI TT2 λi j=>.int (i-j)
 | .mul=>pIa CMul λi j=>.int (i*j)
 | .fdiv=>pI oh λi j=>.int (i/j)
 | .mod=>pI (λ_ j=>0<j) λi j=>.int (i%j)
 | .pow=>pI xS λi j=>.int (i ^ j.toNat)
 | .lt=>pI TT2 λi j=>.bl (decide (i<j))
 | .le=>pI TT2 λi j=>.bl (decide (i<=j))
 | .gt=>pI TT2 λi j=>.bl (decide (j<i))
 | .ge=>pI TT2 λi j=>.bl (decide (j<=i))
 | .eq=>pEq false
 | .ne=>pEq true
 | .is_=>y0 false
 | .isnot=>y0 true
 | .in_=>pIn false
 | .notin=>pIn true
 | .ix=>pIx
def biP:Bi->AV->AH->AQ->Prop
 | .len=>Fu
 | .list=>Bj
 | .tuple=>vK
 | .all=>y7 (·.all id)
 | .any=>y7 (·.any id)
 | .sum=>Fp
 | .str=>Fq
 | .int=>Fv
 | .ord=>Ft
 | .dict=>Bk
 | .sorted=>qu
noncomputable def gOf(tp:Bool)(is:ñ):ATG:=if tp then gT is else match is with
 | [i]=>gN i
 | _=>λ_ _=>none
def aBi(p:AV->AH->AQ->Prop)(ta:ATE):ATE:=fun σ A Q=>ta σ A λx A1=>p x A1 Q
mutual
def ev(R:Rn):Ex->Ev
 | .bad=>⟨λ_ _ _=>False,λ_ _ _=>False,λ_ _ _=>False⟩
 | .v i=>.of (EC i)
 | .c x=>.of (aC x)
 | .fld e f=>.of (GQ (ev R e).e f)
 | .op o a b=>.of (aOp (opP o) (ev R a).e (ev R b).e)
 | .not a=>⟨BK (ev R a).e,EE (ev R a).t,λ_ _ _=>False⟩
 | .bool o a b=>if o then ⟨BP (ev R a).e (ev R b).e,GT (ev R a).t (ev R b).t,λ_ _ _=>False⟩ else ⟨GK (ev R a).e (ev R b).e,aOr (ev R a).t (ev R b).t,λ_ _ _=>False⟩
 | .ite t a b=>⟨aIf (ev R t).t (ev R a).e (ev R b).e,λ_ _ _=>False,Du (aIf (ev R t).t (ev R a).e (ev R b).e)⟩
 | .tup es=>.of (GH (evs R es))
 | .lst es=>.of (GM (evs R es))
 | .call f es=>.of (rO (R.call f) (evs R es))
 | .meth e b m es=>.of (pQ R.me R.call b m (ev R e).e (evs R es))
 | .neg a=>.of (GL (ev R a).e)
 | .chain o o' a b c=>.of (l7 (opP o) (opP o') (ev R a).e (ev R b).e (ev R c).e)
 | .sl e lo hi=>.of (aSl (ev R e).e (evo R lo) (evo R hi))
 | .dic=>.of GR
 | .isin c e=>.of (BL c (ev R e).e)
 | .tabI D e=>.of (BE D (ev R e).e)
 | .tabS D e=>.of (BD D (ev R e).e)
 | .inP ps e=>.of (EF ps (ev R e).e)
 | .make c es=>.of (fun σ A Q=>ok (R.ini c) λf=>j9 c (R.call f) (evs R es) σ A Q)
 | .blt b e=>.of (aBi (biP b) (ev R e).e)
 | .rng1 a=>⟨λ_ _ _=>False,λ_ _ _=>False,qL (ev R a).e⟩
 | .rng2 a b=>⟨λ_ _ _=>False,λ_ _ _=>False,qK (ev R a).e (ev R b).e⟩
 | .sortI e=>.of (xL (ev R e).e)
 | .callv i e=>.of (pR R.call i (l6 (ev R e).e jB))
 | .methl o m es fk tn lp q fvs bd=>.of (xM R.me R.call (R.fd fk=some ⟨fvs.length+1,fvs.length+1,[.ret bd]⟩) fk tn lp q fvs m (ev R o).e (evs R es))
 | .sel i f g=>.of (ED i f g)
 | .comp it mm tp is fv ifs elt=>.of (nY (ev R it).i mm (gOf tp is) fv (evt R ifs) (ev R elt).e)
def evs(R:Rn):Ú Ex->ATA
 | []=>jB
 | e::es=>l6 (ev R e).e (evs R es)
def evo(R:Rn):Ú Ex->ATO
 | []=>rM
 | [e]=>BJ (ev R e).e
 | _=>λ_ _ _=>False
def evt(R:Rn):Ú Ex->ATT
 | []=>nX
 | [c]=>(ev R c).t
 | _=>λ_ _ _=>False
end
def BF(is:ñ)(ta:ATE):ATS:=λD σ A=>ta σ A λx A1=>nd (aT x=false) (gs (gT is x σ) fun σ1=>D.nx σ1 A1)
mutual
def evS(R:Rn):Sm->ATS
 | .bad=>λ_ _ _=>False
 | .set i e=>ub i (ev R e).e
 | .setf o e f=>BH R.fl (ev R o).e (ev R e).e f
 | .seti o k e=>BG (ev R o).e (ev R k).e (ev R e).e
 | .aug o f j=>BO R.fl (ev R o).e f j
 | .ex e=>BM (ev R e).e
 | .ret e=>GJ (ev R e).e
 | .retn=>BI
 | .ite t a b=>GN (ev R t).t (bi R a) (bi R b)
 | .for_ tp is it body=>GP (ev R it).i (gOf tp is) (bi R body)
 | .wh t body=>aWh (ev R t).t (bi R body)
 | .brk=>λD σ A=>D.bk σ A
 | .pass=>rN
 | .blk ss=>bi R ss
 | .setT is e=>BF is (ev R e).e
def bi(R:Rn):Ú Sm->ATS
 | []=>rN
 | s::r=>GI (evS R s) (bi R r)
end
structure Tb where
 fn:Nat->Option Fd
 me:Nat->Nat->Option Nat
 ini:Nat->Option Nat
 fl:Nat->Nat->Bool
 isl:Nat->Bool
noncomputable def start(np nl:Nat)(xs:Ú AV):ASt:=xs.map some++List.replicate (nl-np) none
def cC(Q:AQ):AEnds:=⟨λ_ A=>Q .non A,Q,λ_ _=>False,λ_ _=>False⟩
def Bs(tb:Tb):Nat->Nat->ASp
 | 0,_=>λ_ _ _=>False
 | n+1,f=>λxs A Q=>ok (tb.fn f) λd=>nd (xs.length=d.np) (bi ⟨Bs tb n,tb.me,tb.ini,tb.fl,tb.fn⟩ d.body (cC Q) (start d.np d.nl xs) A)
@[irreducible] def fnSp (tb:Tb) (n f:Nat) (xs:Ú AV) (A:AH) (Q:AQ):Prop:=Bs tb n f xs A Q
def fZ:fnSp tb 0 f xs A Q=False:=by delta fnSp;rfl
def dg:fnSp tb (n+1) f xs A Q=ok (tb.fn f) λd=>nd (xs.length=d.np) (bi ⟨fnSp tb n,tb.me,tb.ini,tb.fl,tb.fn⟩ d.body (cC Q) (start d.np d.nl xs) A):=by delta fnSp;rfl
structure Sc where
 N:ó
 ns:Ú (Str×NameKind)
 top:Bool
 lm:Option (Nat×Nat×Str)
structure Gn where
 fn:Ú (Str×Nat)
 cl:Ú (Str×Nat)
 cs:Ú (Str×AV)
 kt:Ú (Str×Ú (Str×KTD.Dat)):=[]
 kp:Ú (Str×Ú (Str×Str)):=[]
 cm:Ú ((Str×Str)×Nat):=[]
 sn:Nat->Str:=nm
noncomputable def enc(x:Str):Option Nat:=if nm (und x.cps.toList)=x then some (und x.cps.toList) else none
def f8(h:enc x=some n):x=nm n:=by
 unfold enc at h
 split at h
 .rename_i e;cases h;exact e.symm
 .cases h
def KOk:NameKind->Option NameKind->Prop
 | .local,o=>o=some .local
 | .cell,o=>o=some .cell\/o=some .free
 | .free,o=>o=some .cell\/o=some .free
 | .globalImplicit,o=>o=some .globalImplicit
 | _,_=>True
noncomputable def cP(x:Str):Bool:=!(x==("__debug__":Str))&&!(x==("__classdict__":Str))&&!(x==("__name__":Str))
noncomputable def slot(S:Sc)(x:Str):Option Nat:=S.N.findIdx? (·==x)
structure XOk(G:Gn)(S:Sc)(X:Cx)(T:Tab)(R:Rn)(k:Nat):Prop where
 hK:X.K=T.K
 calm:X.calm=true
 room:Room (k+1) X.A
 N:X.N=S.N
 nd:S.N.Nodup
 kd:∀x q,S.ns.lookup x=some q->KOk q (X.env.kindOf x)
 fnT:S.top=true->(∀x,X.fn x=true)/\(∀x,X.env.kindOf x=S.ns.lookup x)/\X.env.blockKind=.function/\PassesOwn (model X.prog X.w) X.A X.env X.xe
 fnF:∀x f,G.fn.lookup x=some f->∃a,X.mg x=some (.ref a)/\Fo X T k a (R.call f)
 meF:∀c m f,R.me c m=some f->∃g,n8 X.K (T.cl c) (nm m) g/\Fo X T k g (R.call f)
 clF:∀x c,G.cl.lookup x=some c->X.mg x=some (.ref (T.cl c))/\Cls T.K (T.cl c)
 iniF:∀c f,R.ini c=some f->∃a,Mk X.K (T.cl c) a/\Fo X T k a (R.call f)
 flF:∀c f,R.fl c f=true->NoAttr T.K (T.cl c) (nm f)
 csF:∀x a,G.cs.lookup x=some a->∃u v,X.mg x=some u/\RelV v u/\aT a=false/\∀ρ H,RV T ρ H a v
 bt:∀x∈(da:ó),X.mg x=none
 ktF:∀x D,G.kt.lookup x=some D->(D.all λp=>KTD.plain p.2)=true/\∃a,X.mg x=some (.ref a)/\TabK X.K a D
 kpF:∀x ps,G.kp.lookup x=some ps->∃a,X.mg x=some (.ref a)/\PrK X.K a ps
 cmF:∀x m f,G.cm.lookup (x,m)=some f->∃C a,X.mg x=some (.ref C)/\rQ X.K C m a/\Fo X T k a (R.call f)
 kit:∀t c:Ty,PySem.W.kitOne X.K (.type t.s) (.type c.s)=some (t.sub c)
 hB:BB X.mg X.base
 meL:∀c m f,R.me c m=some f->∃g,n8 X.K (T.cl c) (nm m) g/\∀B:Ý,X.K.In B->BB X.mg B->∃fd ps,dW X.prog X.w X.K X.mg B CX0 k g fd ps (lF {T with bs:=B} (R.call f))/\Binds X.K fd ps []
 clO:∀fk f c φ ψ vs,T.crB T.bs fk f c φ ψ vs->xR X.prog X.w X.K X.mg X.base T k f c φ ψ vs (R.call fk)
 lam:∀fk tn q,S.lm=some (fk,tn,q)->S.top=true/\∃cc,X.env.code=.ref cc/\PySem.W.codeHdIn X.K cc (T.ta fk)=true/\X.env.qual++"<lambda>"=q
 sn:G.sn=nm
section
variable {G:Gn}{S:Sc}{X:Cx}{T:Tab}{R:Rn}{k:Nat}
def Sd(X:Cx)(T:Tab)(R:Rn)(e:Û)(x:Ex):Prop:=AE X T e (ev R x).e/\AT X T e (ev R x).t/\∀tg,AI X T tg e (ev R x).i
def noE:AE X T e (λ_ _ _=>False):=λpins s σv H Q I ⟨ρ,σ,A,QA,rs,h,fin⟩=>h.elim
def noT:AT X T e (λ_ _ _=>False):=λpins s σv H Q I ⟨ρ,σ,A,QA,rs,h,fin⟩=>h.elim
def noI(tg:Û):AI X T tg e (λ_ _ _=>False):=λpins s σv H Q I ⟨ρ,σ,A,QA,rs,h,fin⟩=>h.elim
def bD:Sd X T R e .bad:=⟨noE,noT,noI⟩
def Sd.of{e:Û}{t:ATE}(hX:XOk G S X T R k)(he:AE X T e t)(hp:∀whole,isTrue e X.env whole=(do let v ← whole;standAt e.pos;holding [v] (truthy v))):AE X T e (Ev.of t).e/\AT X T e (Ev.of t).t/\∀tg,AI X T tg e (Ev.of t).i :=
 ⟨he,DZ he hp,λtg=>ji hX.hK he⟩
def XOk.units(hX:XOk G S X T R k):X.A.units+64<cLine:=hX.room.units
def cY(b:XOk G S X T R k)(h:slot S x=some i):X.N[i]?=some x:=by
 obtain ⟨h1,a,_⟩:=List.findIdx?_eq_some_iff_getElem.mp h
 rw [b.N,ξ h1]
 exact congrArg some (by simpa using a)
def bf{α:Type}{o:Option α}{f:α->Ex}{e:Û}(h:∀a,o=some a->Sd X T R e (f a)):Sd X T R e (o.elim .bad f):=by
 cases o with
 | none=>exact bD
 | some a=>exact h a rfl
def bT [Decidable c](h:c->Sd X T R e x):Sd X T R e (if c then x else .bad):=by
 split
 .exact h ‹_›
 .exact bD
def ml{c:Bool}{x:Ex}{e:Û}(h:c=false->Sd X T R e x):Sd X T R e (if c then .bad else x):=by
 cases c
 .exact h rfl
 .exact bD
noncomputable def one{α:Type}(l:Ú α):Option α:=by
 rcases l with _ | ⟨a,_ | _⟩
 .exact none
 .exact some a
 .exact none
def a7{α:Type}{l:Ú α}{a:α}(h:one l=some a):l=[a]:=by
 rcases l with _ | ⟨b,_ | _⟩
 .cases h
 .cases h;rfl
 .cases h
noncomputable def two{α:Type}(l:Ú α):Option (α×α):=by
 rcases l with _ | ⟨a,l⟩
 .exact none
 .exact (one l).map λb=>(a,b)
def ki{α:Type}{l:Ú α}{q:α×α}(h:two l=some q):l=[q.1,q.2]:=by
 rcases l with _ | ⟨b,l⟩
 .cases h
 .obtain ⟨c,g,rfl⟩:=ſ.mp (show (one l).map _=_ from h)
  rw [a7 g]
noncomputable def vN(e:Û):Option Str:=by
 cases e with
 | Name x _=>exact some x
 | _=>exact none
def ns{α:Type}{a:α}{P:Prop}(h:none=some a):P:=nomatch h
def nt{P:Prop}(h:false=true):P:=nomatch h
def pX{e:Û}{x:Str}(h:vN e=some x):∃p,e=.Name x p:=by
 cases e<;>first | exact ns h | (cases h;exact ⟨_,ϱ⟩)
noncomputable def isV(q:NameKind):Bool:=q==.local||q==.cell||q==.free
noncomputable def Bw(G:Gn)(S:Sc)(x:Str):Ex:=if cP x then (S.ns.lookup x).elim .bad λq=>if isV q then (slot S x).elim .bad .v else if q==.globalImplicit then (G.cs.lookup x).elim .bad .c else .bad else .bad
def db(h:cP x=true):((x==("__debug__":Str))=false/\(x==("__classdict__":Str))=false)/\(x==("__name__":Str))=false:=by
 simpa [cP] using h
def um(a:XOk G S X T R k){x:Str}{q:NameKind}(e:S.ns.lookup x=some q)(b:isV q=true):X.env.kindOf x=some .local\/X.env.kindOf x=some .cell\/X.env.kindOf x=some .free:=by
 have h:=a.kd x q e
 cases q<;>first | exact .inl h | exact .inr h | exact absurd b ζ
def yq(b:XOk G S X T R k)(x:Str)(pos:Pos):Sd X T R (.Name x pos) (Bw G S x):=by
 refine bT λn=>bf λq e=>?_
 obtain ⟨⟨c,d⟩,h⟩:=db n
 split
 .rename_i hq
  exact bf λi o=>Sd.of b (Eh (cY b o) (um b e hq) c d) λ_=>rfl
 .refine bT λp=>bf λa r=>?_
  cases (by simpa using p:q=.globalImplicit)
  obtain ⟨u,v,h1,j,l,m⟩:=b.csF x a r
  exact Sd.of b (xI (c8 (b.kd x _ e) h1 j c) m l) λ_=>rfl
noncomputable def wV(G:Gn)(c:Const):Ex:=by
 cases c with
 | int i=>exact .c (.int i)
 | bool b=>exact .c (.bl b)
 | none=>exact .c .non
 | str x=>exact (enc x).elim .bad λn=>.c (.str (G.sn n))
 | _=>exact .bad
def uY(a:XOk G S X T R k)(c:Const)(j:Nat)(pos:Pos):Sd X T R (.Constant c j pos) (wV G c):=by
 cases c with
 | int i=>exact Sd.of a (xI vA (λ_ _=>rfl) rfl) λ_=>rfl
 | bool b=>exact Sd.of a (xI Fn (λ_ _=>rfl) rfl) λ_=>rfl
 | none=>exact Sd.of a (xI CW (λ_ _=>rfl) rfl) λ_=>rfl
 | str x =>
  refine bf (o:=enc x) λn e=>?_
  rw [a.sn,← f8 e]
  exact Sd.of a (xI CU (λ_ _=>rfl) rfl) λ_=>rfl
 | _=>exact bD
noncomputable def cz(e:Û):Bool:=by
 cases e with
 | Call f a k _=>exact (vN f).isSome&&a.isEmpty&&k.isEmpty
 | _=>exact false
def cF{o:Û}{f:Str}{env:Env}{w:Sem ß}(h:cz o=false):attributeBase o f env w=w:=by
 cases o<;>first | rfl | skip
 rename_i g a k _
 cases g<;>first | rfl | skip
 cases a<;>cases k<;>first | rfl | exact nt h.symm
noncomputable def Gg(e:Ex)(o:Û)(f:Str):Ex:=(enc f).elim .bad λn=>if cz o then .bad else .fld e n
def Cu(hX:XOk G S X T R k){o:Û}{x:Ex}(h:Sd X T R o x)(f:Str)(pos:Pos):Sd X T R (.Attribute o f pos) (Gg x o f) :=
 bf λn e=>ml λhb=>by
  rw [f8 e]
  exact Sd.of hX (En hX.hK h.1 (cF hb)) λ_=>rfl
noncomputable def Gh(op:Operator)(a b:Ex):Ex:=by
 cases op with
 | Add=>exact .op .add a b
 | Sub=>exact .op .sub a b
 | Mult=>exact .op .mul a b
 | FloorDiv=>exact .op .fdiv a b
 | Mod=>exact .op .mod a b
 | Pow=>exact .op .pow a b
 | _=>exact .bad
def Cw(c:XOk G S X T R k)(d:Sd X T R a x)(e:Sd X T R b y)(op:Operator)(pos:Pos):Sd X T R (.BinOp a op b pos) (Gh op x y):=by
 cases op with
 | Add=>exact Sd.of c (j8 (Eb c.hK) d.1 e.1) λ_=>rfl
 | Sub=>exact Sd.of c (j8 D7 d.1 e.1) λ_=>rfl
 | Mult=>exact Sd.of c (j8 D9 d.1 e.1) λ_=>rfl
 | FloorDiv=>exact Sd.of c (j8 As d.1 e.1) λ_=>rfl
 | Mod=>exact Sd.of c (j8 Ea d.1 e.1) λ_=>rfl
 | Pow=>exact Sd.of c (j8 D8 d.1 e.1) λ_=>rfl
 | _=>exact bD
noncomputable def opC(o:CmpOp):Op:=by
 cases o with
 | Lt=>exact .lt
 | LtE=>exact .le
 | Gt=>exact .gt
 | GtE=>exact .ge
 | Eq=>exact .eq
 | NotEq=>exact .ne
 | In=>exact .in_
 | NotIn=>exact .notin
 | Is=>exact .is_
 | IsNot=>exact .isnot
theorem oO(a:XOk G S X T R k)(op:CmpOp):AOp X T (compareOp op) (opP (opC op)):=by
 have u:=a.units
 cases op with
 | Lt=>exact Gv
 | LtE=>exact Gw
 | Gt=>exact Gz
 | GtE=>exact GA
 | Eq=>exact GB a.hK (by lia)
 | NotEq=>exact Gu a.hK (by lia)
 | In=>exact Gy a.hK (by lia)
 | NotIn=>exact xm a.hK (by lia)
 | Is=>exact Gx
 | IsNot=>exact xn
noncomputable def DS(cmp:Û->Ex)(ops:Ú CmpOp)(bs:ï)(x:Ex):Ex :=
 if ops.length=1 then (one ops).elim .bad λop=>(one bs).elim .bad λb=>if behindInMarks op b then .bad else (.op (opC op) x (cmp b))
 else (two ops).elim .bad λq=>(two bs).elim .bad λr=>if lastMarks [q.1,q.2] [r.1,r.2] then .bad else .chain (opC q.1) (opC q.2) x (cmp r.1) (cmp r.2)
def Cv(l:XOk G S X T R k){j:Û->Ex}(h:∀e,Sd X T R e (j e)){a:Û}{ops:Ú CmpOp}{bs:ï}{pos:Pos}:Sd X T R (.Compare a ops bs pos) (DS j ops bs (j a)):=by
 unfold DS
 split
 .refine bf λn h1=>bf λb m=>ml λi=>?_
  rw [a7 h1,a7 m]
  have c:=oO l n
  exact ⟨xD c (h a).1 (h b).1 i,Af c (h a).1 (h b).1 i,λo=>ji l.hK (xD c (h a).1 (h b).1 i)⟩
 .refine bf λq h1=>bf λr m=>ml λi=>?_
  rw [ki h1,ki m]
  have c:=oO l q.1
  have d:=oO l q.2
  exact ⟨nV c d (h a).1 (h r.1).1 (h r.2).1 i,w8 c d (h a).1 (h r.1).1 (h r.2).1 i,λo=>ji l.hK (nV c d (h a).1 (h r.1).1 (h r.2).1 i)⟩
noncomputable def aA(e:Û):Bool:=by
 cases e with
 | Starred _ _=>exact false
 | _=>exact true
def aF(h:aA e=true):starEach (e::es) env=(false,eval e env)::starEach es env:=by
 cases e<;>first | rfl | cases h
def gh{a:Û->Ex}(h:∀e,Sd X T R e (a e))(c:es.all aA=true):AAs X T es (evs R (es.map a)):=by
 induction es with
 | nil=>exact rL
 | cons e es ih =>
  obtain ⟨h1,b⟩:=ż.mp (show (aA e&&es.all aA)=true from c)
  exact nW (h e).1 (ih b) (aF h1)
end
section
variable {G:Gn}{S:Sc}{X:Cx}{T:Tab}{R:Rn}{k:Nat}
noncomputable def rm(o:Bool):Ú Ex->Ex
 | []=>.bad
 | x::xs=>if xs.isEmpty then x else .bool o x (rm o xs)
def Sw(X:Cx)(T:Tab)(R:Rn)(e:Û)(x:Ex):Prop:=AE X T e (ev R x).e/\AW X T e (ev R x).t
def uI:Sw X T R e .bad:=⟨noE,λwh pins s σv H Q I ⟨ρ,σ,A,QA,rs,h,fin⟩=>h.elim⟩
def Ch{a:Û->Ex}(h:∀e,Sd X T R e (a e))(es:ï):Sw X T R (.BoolOp .And es pos) (rm true (es.map a)):=by
 induction es with
 | nil=>exact uI
 | cons e es ih =>
  cases es with
  | nil=>exact ⟨vt (h e).1,Ab (h e).2.1⟩
  | cons e' es=>exact ⟨Ep (h e).1 ih.1,DX (h e).2.1 ih.2⟩
def EY{a:Û->Ex}(h:∀e,Sd X T R e (a e))(es:ï):Sw X T R (.BoolOp .Or es pos) (rm false (es.map a)):=by
 induction es with
 | nil=>exact uI
 | cons e es ih =>
  cases es with
  | nil=>exact ⟨vt (h e).1,DW (h e).2.1⟩
  | cons e' es=>exact ⟨GF (h e).1 ih.1,Gr (h e).2.1 ih.2⟩
noncomputable def wY(op:BoolOp)(xs:Ú Ex):Ex:=if xs.tail.isEmpty then .bad else rm (op==.And) xs
def yy{c:Û->Ex}(h:∀e,Sd X T R e (c e)):Sd X T R (.BoolOp op es pos) (wY op (es.map c)):=by
 rcases es with _ | ⟨a,_ | ⟨b,r⟩⟩
 .exact bD
 .exact bD
 .cases op with
  | And=>have q:=Ch (pos:=pos) h (a::b::r);exact ⟨q.1,q.2.pt,noI⟩
  | Or=>have q:=EY (pos:=pos) h (a::b::r);exact ⟨q.1,q.2.pt,noI⟩
noncomputable def cUn(op:UnaryOp)(x:Ex):Ex:=by
 cases op with
 | Not=>exact .not x
 | USub=>exact .neg x
 | _=>exact .bad
def E3(a:XOk G S X T R k)(h:Sd X T R e x):Sd X T R (.UnaryOp op e pos) (cUn op x):=by
 cases op with
 | Not=>exact ⟨Ek h.1,D0 h.2.1,noI⟩
 | USub=>exact Sd.of a (El h.1) λ_=>rfl
 | _=>exact bD
def E5(hX:XOk G S X T R k)(hc:Sd X T R c z)(ha:Sd X T R a x)(hb:Sd X T R b y):Sd X T R (.IfExp c a b pos) (.ite z x y) :=
 ⟨BC hc.2.1 ha.1 hb.1,noT,λtg=>ji hX.hK (BC hc.2.1 ha.1 hb.1)⟩
noncomputable def Gd(es:ï)(xs:Ú Ex):Ex:=if es.all aA then .tup xs else .bad
def Gf(es:ï)(xs:Ú Ex):Ex:=if es.all aA then .lst xs else .bad
def Cr(hX:XOk G S X T R k){cmp:Û->Ex}(h:∀e,Sd X T R e (cmp e)):Sd X T R (.Tuple es j pos) (Gd es (es.map cmp)) :=
 bT λhs=>Sd.of hX (Ei (gh h hs)) λ_=>rfl
def Ct(hX:XOk G S X T R k){cmp:Û->Ex}(h:∀e,Sd X T R e (cmp e)):Sd X T R (.List es pos) (Gf es (es.map cmp)) :=
 bT λhs=>Sd.of hX (Em (gh h hs)) λ_=>rfl
noncomputable def fe(e:Û):Bool:=by
 cases e with
 | Slice _ _ _ _=>exact true
 | _=>exact false
noncomputable def Ge(b:Û)(x y:Ex):Ex:=if fe b then .bad else .op .ix x y
def mG(h:fe b=false):hE b:=λo i=>by cases b<;>first | rfl | cases h
def Cs(hX:XOk G S X T R k)(ha:Sd X T R a x)(hb:Sd X T R b y):Sd X T R (.Subscript a b pos) (Ge b x y) :=
 ml λh=>Sd.of hX (GG (GD hX.hK (by have u:=hX.units;omega)) ha.1 hb.1 (mG h)) λ_=>rfl
def Bf{lo:Option Û}{a:Û->Ex}(h:∀e,Sd X T R e (a e)):APo X T lo (evo R (lo.toList.map a)):=by
 cases lo with
 | none=>exact Aq
 | some e=>exact Ap (h e).1
noncomputable def vSl(e:Û):Option (Option Expr×Option Û):=by
 cases e with
 | Slice lo hi st _=>exact if st.isNone then some (lo,hi) else none
 | _=>exact none
def BX(h:vSl e=some q):∃p,e=.Slice q.1 q.2 none p:=by
 cases e<;>first | exact ns h | skip
 rename_i lo hi st p
 cases st<;>cases h
 exact ⟨_,ϱ⟩
def E4(d:XOk G S X T R k){c:Û->Ex}(i:vSl b=some q)(h:∀e,Sd X T R e (c e)):Sd X T R (.Subscript a b pos) (.sl (c a) (q.1.toList.map c) (q.2.toList.map c)):=by
 obtain ⟨p,rfl⟩:=BX i
 exact Sd.of d (GE d.hK (h a).1 (Bf h) (Bf h)) λ_=>rfl
noncomputable def biN:Bi->Str
 | .len=>"len"
 | .list=>"list"
 | .tuple=>"tuple"
 | .all=>"all"
 | .any=>"any"
 | .sum=>"sum"
 | .str=>"str"
 | .int=>"int"
 | .ord=>"ord"
 | .dict=>"dict"
 | .sorted=>"sorted"
noncomputable def rA(x:Str):Option Bi:=[Bi.len,.list,.tuple,.all,.any,.sum,.str,.int,.ord,.dict,.sorted].find? λb=>biN b==x
def wZ(h:rA x=some b):x=biN b:=by
 have:=List.find?_some h
 exact (by simpa using this:biN b=x).symm
noncomputable def pL(cmp:Û->Ex)(x:Str)(es:ï):Ex :=
 if es.length=1 then (one es).elim .bad λe=>(rA x).elim (if x==("range":Str) then .rng1 (cmp e) else .bad) (.blt · (cmp e))
 else (two es).elim .bad λq=>if x==("range":Str) then .rng2 (cmp q.1) (cmp q.2) else .bad
noncomputable def wX(cmp:Û->Ex)(G:Gn)(S:Sc)(x:Str)(args:ï):Ex:=if cP x&&args.all aA&&(S.ns.lookup x==some .globalImplicit) then
  (G.fn.lookup x).elim ((G.cl.lookup x).elim (pL cmp x args) (.make · (args.map cmp))) (.call · (args.map cmp))
 else .bad
def iR(h:es.all aA=true):(backTo pos (starEach es env)).any (·.1)=false:=by
 induction es with
 | nil=>rfl
 | cons e es ih =>
  obtain ⟨h1,a⟩:=ż.mp (show (aA e&&es.all aA)=true from h)
  rw [aF h1]
  exact ih a
def Gq(a:XOk G S X T R k)(r:Gl X x)(w:rA x=some b)(z:Sd X T R e y)(n:aA e=true)(u:(x==("__name__":Str))=false)(v:(x==("__debug__":Str))=false):AE X T (.Call (.Name x p) [e] [] pos) (aBi (biP b) (ev R y).e):=by
 have o:AA X T [e] (BN (ev R y).e jB):=AN z.1 EB (aF n)
 cases wZ w
 have d:∀{id:String} {q:AV->AH->AQ->Prop},AC X T (.builtin id) (λi A Q=>match i with | [x]=>q x A Q | _=>False)->X.mg (biN b)=none->bootBuiltins (biN b)=some (.builtin id)->AE X T (.Call (.Name (biN b) p) [e] [] pos) (aBi q (ev R y).e) :=
  λj l m=>xG j r l m o (ū.mp u) v (aF n) rfl
 have h:∀{ty:String} {q:AV->AH->AQ->Prop},AC X T (.type ty) (λi A Q=>match i with | [x]=>q x A Q | _=>False)->X.mg (biN b)=none->bootBuiltins (biN b)=some (.type ty)->AE X T (.Call (.Name (biN b) p) [e] [] pos) (aBi q (ev R y).e) :=
  λj l m=>xF j r l m o (ū.mp u) v (aF n) rfl
 have K:=a.hK
 have c:=a.calm
 cases b with
 | len=>exact d (Eu K) (a.bt _ ζ) PySem.boot_len
 | list=>exact h (AK K) (a.bt _ ζ) PyProof.Rows.boot_list
 | tuple=>exact h (xJ K) (a.bt _ ζ) PyProof.Rows.boot_tuple
 | all=>exact d (Ez K c) (a.bt _ ζ) PyProof.Rows.boot_all
 | any=>exact d (Ey K c) (a.bt _ ζ) PyProof.Rows.boot_any
 | sum=>exact d (Er K c) (a.bt _ ζ) PyProof.Rows.boot_sum
 | str=>exact h Es (a.bt _ ζ) PyProof.Rows.boot_str
 | int=>exact h Ew (a.bt _ ζ) PyProof.Rows.boot_int
 | ord=>exact d Et (a.bt _ ζ) PyProof.Rows.boot_ord
 | dict=>exact h (AL c) (a.bt _ ζ) PyProof.Rows.boot_dict
 | sorted=>exact d (ua K (by have:=a.units;omega)) (a.bt _ ζ) PyProof.Rows.boot_sorted
def u6(d:XOk G S X T R k){c:Û->Ex}(h:∀e,Sd X T R e (c e))(j:Gl X x)(l:(x==("__debug__":Str))=false)(m:(x==("__name__":Str))=false)(o:args.all aA=true) :
  Sd X T R (.Call (.Name x p) args [] pos) (pL c x args):=by
 unfold pL
 split
 .refine bf λe r=>?_
  cases a7 r
  have n:aA e=true:=by simpa using o
  cases eb:rA x with
  | some b=>exact Sd.of d (Gq d j eb (h e) n m l) λ_=>rfl
  | none =>
   refine bT λi=>?_
   cases (by simpa using i:x="range")
   exact ⟨noE,noT,λu=>t8 j (d.bt _ ζ) (h e).1 (aF n)⟩
 .refine bf λq v=>bT λi=>?_
  cases ki v
  cases (by simpa using i:x="range")
  have a:aA q.1=true/\aA q.2=true:=by simpa using o
  exact ⟨noE,noT,λu=>t6 j (d.bt _ ζ) (h q.1).1 (h q.2).1 (by rw [aF a.1,aF a.2];rfl) (aF a.2)⟩
def u5(b:XOk G S X T R k){i:Û->Ex}(h:∀e,Sd X T R e (i e)):Sd X T R (.Call (.Name x p) args [] pos) (wX i G S x args):=by
 refine bT λq=>?_
 obtain ⟨q,D⟩:=ż.mp q
 obtain ⟨K,j⟩:=ż.mp q
 obtain ⟨⟨d,L⟩,r⟩:=db K
 have m:Gl X x:=b.kd x .globalImplicit (by simpa using D)
 have pl:∀whole,isTrue (.Call (.Name x p) args [] pos) X.env whole=(do let v ← whole;standAt (Expr.Call (.Name x p) args [] pos).pos;holding [v] (truthy v)):=λ_=>rfl
 have n:Room k X.A:=b.room.mono (ğ _)
 cases ef:G.fn.lookup x with
 | some f =>
  obtain ⟨a,l,F⟩:=b.fnF x f ef
  cases args with
  | nil=>exact Sd.of b (xH F n m l d) pl
  | cons e es =>
   obtain ⟨u,w⟩:=ż.mp (show (aA e&&es.all aA)=true from j)
   exact Sd.of b (AF F n m l (gh h j) d (aF u) (iR w)) pl
 | none =>
  cases ec:G.cl.lookup x with
  | none=>exact u6 b h m d r j
  | some c =>
   obtain ⟨l,C⟩:=b.clF x c ec
   refine Sd.of b (t:=fun σ A Q=>ok (R.ini c) λf=>j9 c (R.call f) (evs R (args.map i)) σ A Q) (λo s O H Q I ⟨ρ,σ,A,U,Y,y,z⟩=>?_) pl
   obtain ⟨f,N,y⟩:=y.of
   obtain ⟨a,M,F⟩:=b.iniF c f N
   refine (?_:AE X T (.Call (.Name x p) args [] pos) (j9 c (R.call f) (evs R (args.map i)))) o s O H Q I ⟨ρ,σ,A,U,Y,y,z⟩
   cases args with
   | nil=>exact xB F M b.hK C b.room m l d
   | cons e es =>
    obtain ⟨u,w⟩:=ż.mp (show (aA e&&es.all aA)=true from j)
    exact Az F M b.hK C b.room m l (gh h j) d (aF u) (iR w)
noncomputable def tyN(y:Str):Option Ty:=([.int,.bool,.str,.tuple,.list]:Ú Ty).find? λc=>(c.s:Str)==y
def B7(a:XOk G S X T R k)(h:tyN y=some c):X.mg y=none/\bootBuiltins y=some (.type c.s)/\y≠"__name__"/\(y==("__debug__":Str))=false:=by
 cases (show (c.s:Str)=y by simpa using List.find?_some h)
 have b:=List.mem_of_find?_eq_some h
 cases c with
 | int=>exact ⟨a.bt _ ζ,PyProof.Rows.boot_int,ζ,ζ⟩
 | bool=>exact ⟨a.bt _ ζ,PyProof.Rows.boot_bool,ζ,ζ⟩
 | str=>exact ⟨a.bt _ ζ,PyProof.Rows.boot_str,ζ,ζ⟩
 | tuple=>exact ⟨a.bt _ ζ,PyProof.Rows.boot_tuple,ζ,ζ⟩
 | list=>exact ⟨a.bt _ ζ,PyProof.Rows.boot_list,ζ,ζ⟩
 | _=>simp at b
noncomputable def wU(S:Sc)(cmp:Û->Ex)(args:ï):Ex:=(two args).elim .bad λq=>(vN q.2).elim .bad λy=>(tyN y).elim .bad λc=>if aA q.1&&(S.ns.lookup ("isinstance":Str)==some .globalImplicit)&&(S.ns.lookup y==some .globalImplicit) then .isin c (cmp q.1) else .bad
def yt(a:XOk G S X T R k){b:Û->Ex}(h:∀e,Sd X T R e (b e)):Sd X T R (.Call (.Name "isinstance" p) args [] pos) (wU S b args):=by
 refine bf λq u=>bf λy v=>bf λc w=>bT λd=>?_
 obtain ⟨i,x⟩:=q
 cases ki u
 obtain ⟨z,rfl⟩:=pX v
 obtain ⟨d,j⟩:=ż.mp d
 obtain ⟨h1,l⟩:=ż.mp d
 obtain ⟨m,n,o,r⟩:=B7 a w
 exact Sd.of a (AB (h i).1 (a.kd _ .globalImplicit (by simpa using l)) (a.bt _ ζ) (a.kd _ .globalImplicit (by simpa using j)) m n o r (λt=>a.kit t c) (aF h1)) λ_=>rfl
def sd(h:es.all aA=true):(backTo pos (starEach es env)).all (λx=>!x.1)=true:=by
 induction es with
 | nil=>rfl
 | cons e es ih =>
  obtain ⟨h1,a⟩:=ż.mp (show (aA e&&es.all aA)=true from h)
  rw [aF h1]
  exact ih a
def fN (h : cz o = false) (b : args.all aA = true) (c : args.length < 30) (d : (apos.endLine == pos.line) = true) : eval (.Call (.Attribute o m apos) args [] pos) env = (do
      let ov ← eval o env
      standAt apos.atName
      let (f,first) ← holding [ov] (getMethod ov m (do return (← importBound o env).getD true))
      callWith pos f first (backTo pos (starEach args env)) (backToKw pos (keywordEach [] env))):=by
 have a:methodCallForm (args.length+([]:Ú Keyword).length) (backTo pos (starEach args env)) (backToKw pos (keywordEach [] env))=true:=by
  unfold methodCallForm
  rw [sd b]
  exact τ c
 rw [arm_eval_Call,cF h]
 unfold methodCall
 rw [a]
 unfold calleeOf methodCallPos
 simp only [if_true,Bool.not_true,Bool.false_or,d,pure_bind]
noncomputable def Gm(m:Str):Option Bm:=[Bm.append,.clear,.get,.split,.starts,.isdigit,.join,.pop,.update,.extend,.setdef,.lstrip].find? λb=>bmN b==m
def rq(h:Gm m=some b):m=bmN b:=by
 have:=List.find?_some h
 exact (by simpa using this:bmN b=m).symm
noncomputable def Bx(o:Û)(m:Str)(apos pos:Pos)(args:ï)(x:Ex)(xs:Ú Ex):Ex:=(enc m).elim .bad λn=>if args.all aA&&!cz o&&decide (args.length<30)&&(apos.endLine==pos.line) then .meth x (Gm m) n xs else .bad
def yr(b:XOk G S X T R k){d:Û->Ex}(h:∀e,Sd X T R e (d e)):Sd X T R (.Call (.Attribute o m apos) args [] pos) (Bx o m apos pos args (d o) (args.map d)):=by
 refine bf λn e=>bT λi=>?_
 cases f8 e
 obtain ⟨i,p⟩:=ż.mp i
 obtain ⟨i,q⟩:=ż.mp i
 obtain ⟨h1,l⟩:=ż.mp i
 have l:cz o=false:=by simpa using l
 have tr:=fN (o:=o) (m:=nm n) (args:=args) (env:=X.env) (apos:=apos) (pos:=pos) l h1 (Ξ q) p
 have j:Room k X.A:=b.room.mono (ğ _)
 refine Sd.of b ?_ λ_=>rfl
 cases args with
 | nil=>exact t9 b.hK (λ_=>rq) (by have:=b.units;omega) (λc f=>b.meF c n f) j (h o).1 tr
 | cons a as =>
  obtain ⟨r,u⟩:=ż.mp (show (aA a&&as.all aA)=true from h1)
  exact xA b.hK (λ_=>rq) (by have:=b.units;omega) (λc f=>b.meF c n f) j (h o).1 (gh h h1) (aF r) (iR u) tr
noncomputable def mZ(S:Sc)(e:Û):Option Str:=(vN e).bind λy=>if cP y&&(S.ns.lookup y==some .globalImplicit) then some y else none
def gS(c:XOk G S X T R k)(h:mZ S e=some y):(∃p,e=.Name y p)/\Gl X y/\(y==("__debug__":Str))=false:=by
 obtain ⟨z,a,h⟩:=ų.mp h
 split at h
 .rename_i hc
  cases h
  obtain ⟨h1,b⟩:=ż.mp hc
  exact ⟨pX a,c.kd y .globalImplicit (by simpa using b),(db h1).1.1⟩
 .cases h
noncomputable def re(G:Gn)(S:Sc)(a b:Û)(x y:Ex):Ex:=((mZ S a).bind λy=>G.kt.lookup y).elim (Ge b x y) λD=>if fe b then .bad else .tabI D y
def yp(c:XOk G S X T R k)(n:Sd X T R a x)(d:Sd X T R b y):Sd X T R (.Subscript a b pos) (re G S a b x y):=by
 unfold re
 cases h:(mZ S a).bind λy=>G.kt.lookup y with
 | none=>exact Cs c n d
 | some D =>
  obtain ⟨z,h1,e⟩:=ų.mp h
  obtain ⟨⟨p,rfl⟩,g1,i⟩:=gS c h1
  obtain ⟨hp,a,j,l⟩:=c.ktF z D e
  exact ml λm=>Sd.of c (Ay d.1 g1 j i l hp (mG m)) λ_=>rfl
noncomputable def pK(cmp:Û->Ex)(G:Gn)(S:Sc)(o:Û)(m:Str)(apos pos:Pos)(args:ï):Ex:=((mZ S o).bind λy=>G.kt.lookup y).elim (Bx o m apos pos args (cmp o) (args.map cmp)) λD=>(one args).elim .bad λe=>if aA e&&(m==("get":Str))&&(apos.endLine==pos.line) then .tabS D (cmp e) else .bad
def uX(c:XOk G S X T R k){b:Û->Ex}(h:∀e,Sd X T R e (b e)):Sd X T R (.Call (.Attribute o m apos) args [] pos) (pK b G S o m apos pos args):=by
 unfold pK
 cases hD:(mZ S o).bind λy=>G.kt.lookup y with
 | none=>exact yr c h
 | some D =>
  obtain ⟨z,h1,i⟩:=ų.mp hD
  obtain ⟨⟨p,rfl⟩,g1,j⟩:=gS c h1
  obtain ⟨hp,a,l,n⟩:=c.ktF z D i
  refine bf λe v=>bT λd=>?_
  cases a7 v
  obtain ⟨d,q⟩:=ż.mp d
  obtain ⟨r,u⟩:=ż.mp d
  cases (by simpa using u:m="get")
  have st:starEach [e] X.env=[(false,eval e X.env)]:=aF r
  exact Sd.of c (Ax (h e).1 g1 l j n ⟨ϱ,by rw [st];rfl,q,by rw [st];rfl⟩) λ_=>rfl
noncomputable def pJ(cmp:Û->Ex)(G:Gn)(S:Sc)(o:Û)(m:Str)(apos pos:Pos)(args:ï):Ex:=((mZ S o).bind λy=>G.cm.lookup (y,m)).elim (pK cmp G S o m apos pos args) λf=>if args.all aA&&decide (args.length<30)&&(apos.endLine==pos.line)&&!args.isEmpty then .call f (args.map cmp) else .bad
def uW(c:XOk G S X T R k){d:Û->Ex}(h:∀e,Sd X T R e (d e)):Sd X T R (.Call (.Attribute o m apos) args [] pos) (pJ d G S o m apos pos args):=by
 unfold pJ
 cases hf:(mZ S o).bind λy=>G.cm.lookup (y,m) with
 | none=>exact uX c h
 | some f =>
  obtain ⟨y,h1,j⟩:=ų.mp hf
  obtain ⟨⟨p,rfl⟩,g1,l⟩:=gS c h1
  obtain ⟨C,a,n,q,F⟩:=c.cmF y m f j
  refine bT λb=>?_
  obtain ⟨b,r⟩:=ż.mp b
  obtain ⟨b,u⟩:=ż.mp b
  obtain ⟨i,v⟩:=ż.mp b
  have tr:=fN (o:=.Name y p) (m:=m) (args:=args) (env:=X.env) (apos:=apos) (pos:=pos) rfl i (Ξ v) u
  cases args with
  | nil=>cases r
  | cons e es =>
   obtain ⟨w,x⟩:=ż.mp (show (aA e&&es.all aA)=true from i)
   exact Sd.of c (AD F q (c.room.mono (ğ _)) g1 n l (gh h i) (aF w) (iR x) tr) λ_=>rfl
noncomputable def rj(G:Gn)(S:Sc)(ops:Ú CmpOp)(bs:ï)(x:Ex):Option Ex:=if ops=[.In] then (one bs).bind λb=>((mZ S b).bind λy=>G.kp.lookup y).map (.inP · x) else none
def yw(c:XOk G S X T R k)(j:Sd X T R a x)(h:rj G S ops bs x=some z):Sd X T R (.Compare a ops bs pos) z:=by
 unfold rj at h
 split at h
 .rename_i ho
  subst ho
  obtain ⟨b,l,h⟩:=ų.mp h
  cases a7 l
  obtain ⟨m,h0,rfl⟩:=ſ.mp h
  obtain ⟨z,h1,n⟩:=ų.mp h0
  obtain ⟨⟨p,rfl⟩,g1,d⟩:=gS c h1
  obtain ⟨o,e,i⟩:=c.kpF z m n
  have u:=c.units
  exact ⟨xC j.1 g1 e d i ω,D1 j.1 g1 e d i ω,λq=>ji c.hK (xC j.1 g1 e d i ω)⟩
 .cases h
end
section
variable {G:Gn}{S:Sc}{X:Cx}{T:Tab}{R:Rn}{k:Nat}
noncomputable def tgN(e:Û):Option (Bool×ó):=by
 cases e with
 | Name x _=>exact some (false,[x])
 | Tuple es _ _=>exact (es.mapM vN).map λxs=>(true,xs)
 | _=>exact none
noncomputable def aR(scope:Scope):ó:=(scope.names.filter λy=>y.2==.free).map (·.1)
noncomputable def fy(S:Sc)(scope:Scope)(tgs:ó):Option (Sc×ñ) :=
 match (aR scope).mapM (slot S) with
 | none=>none
 | some fv =>
  let N':=tgs++aR scope
  if scope.kind=.function/\N'.Nodup/\(scope.names.all λy=>!(y.2==.cell)&&(!(y.2==.local)||scope.names.lookup y.1==some .local)&&(!(y.2==.free)||scope.names.lookup y.1==some .free&&(S.ns.lookup y.1==some .cell||S.ns.lookup y.1==some .free)))=true /\
   (tgs.all λx=>scope.names.lookup x==some .local)=true then some (⟨N',scope.names,false,none⟩,fv) else none
theorem eV{α β:Type}{f:α->Option β}:∀{l:Ú α} {r:Ú β},l.mapM f=some r->l.length=r.length/\∀(j:Nat) a,l[j]?=some a->∃b,r[j]?=some b/\f a=some b
 | [],r,h=>by
  have:r=[]:=by simpa using h.symm
  subst this
  exact ⟨ϱ,λj a e=>by simp at e⟩
 | a::l,r,h=>by
  rw [List.mapM_cons] at h
  cases e1:f a with
  | none=>rw [e1] at h;cases h
  | some b =>
   cases e2:l.mapM f with
   | none=>rw [e1,e2] at h;cases h
   | some bs =>
    rw [e1,e2] at h
    have:r=b::bs:=by simpa using h.symm
    subst this
    obtain ⟨i1,i2⟩:=eV e2
    refine ⟨by simp [i1],λj x e=>?_⟩
    cases j with
    | zero=>simp at e;subst e;exact ⟨b,rfl,e1⟩
    | succ j=>obtain ⟨y,h1,h2⟩:=i2 j x (by simpa using e);exact ⟨y,by simpa using h1,h2⟩
theorem ir{env:Env}:∀{names:Ú (Str×NameKind)} {x:Str} {q:NameKind},names.lookup x=some q ->
  KOk q ((names.map λ(n,k)=>if (k==NameKind.free&&env.scope.kind==.function&&env.kindOf n==some .cell) then (n,NameKind.cell) else (n,k)).lookup x)
 | [],_,_,h=>by simp at h
 | (n,k)::r,x,q,h=>by
  have ih:=@ir env r x q
  show KOk q (List.lookup x ((if (k==NameKind.free&&env.scope.kind==.function&&env.kindOf n==some .cell)=true then (n,NameKind.cell) else (n,k))::_))
  cases hx:x==n with
  | true =>
   simp only [List.lookup_cons,hx] at h
   cases h
   by_cases hc:(k==NameKind.free&&env.scope.kind==.function&&env.kindOf n==some .cell)=true
   .rw [Ż hc]
    simp only [List.lookup_cons,hx]
    simp only [Bool.and_eq_true] at hc
    rw [ć.mp hc.1.1]
    exact .inl rfl
   .rw [Ž hc]
    simp only [List.lookup_cons,hx]
    cases k<;>first | trivial | rfl | exact .inl rfl | exact .inr rfl
  | false =>
   simp only [List.lookup_cons,hx] at h
   by_cases hc:(k==NameKind.free&&env.scope.kind==.function&&env.kindOf n==some .cell)=true
   .rw [if_pos hc];simp only [List.lookup_cons,hx];exact ih h
   .rw [if_neg hc];simp only [List.lookup_cons,hx];exact ih h
def DU(h:fy S scope tgs=some (S',fv)):S'=⟨tgs++aR scope,scope.names,false,none⟩/\(aR scope).mapM (slot S)=some fv:=by
 unfold fy at h
 cases e:(aR scope).mapM (slot S) with
 | none=>rw [e] at h;exact ns h
 | some fv' =>
  rw [e] at h
  simp only [] at h
  split at h
  .cases h;exact ⟨ϱ,ϱ⟩
  .cases h
theorem pM(b:XOk G S X T R k){scope:Scope}{d:ó}{r:Sc}{K:ñ}(h:fy S scope d=some (r,K)) :
  l9 X.N X.env.scope scope d.length r.N K/\(∀C fp s H,XOk G r (X.blk r.N scope C fp s H) T R k)/\(∀x∈d,scope.names.lookup x=some .local)/\(∀(j:Nat) x,d[j]?=some x->r.N[j]?=some x)/\r.top=false/\r.lm=none:=by
 unfold fy at h
 cases e:(aR scope).mapM (slot S) with
 | none=>rw [e] at h;cases h
 | some fv' =>
  rw [e] at h
  simp only [] at h
  split at h
  .rename_i hc
   obtain ⟨L,F,O,Q⟩:=hc
   cases h
   obtain ⟨I,U⟩:=eV e
   have all:∀y∈scope.names,y.2≠.cell/\(y.2=.local->scope.names.lookup y.1=some .local)/\(y.2=.free->scope.names.lookup y.1=some .free/\(S.ns.lookup y.1=some .cell\/S.ns.lookup y.1=some .free)):=λy n=>by
    have:=ŗ.mp O y n
    simp only [Bool.and_eq_true,Bool.or_eq_true,Bool.not_eq_true',beq_eq_false_iff_ne,beq_iff_eq,ne_eq] at this
    obtain ⟨⟨Y,Z⟩,a3⟩:=this
    exact ⟨Y,λz=>Z.resolve_left (λw=>w z),λz=>a3.resolve_left (λw=>w z)⟩
   have tg:∀x∈d,scope.names.lookup x=some .local:=λx u=>by simpa using List.all_eq_true.mp Q x u
   have kd:∀x q,scope.names.lookup x=some q->KOk q ((relabel scope X.env).names.lookup x):=λx q hq=>ir hq
   refine ⟨⟨λy n=>(all y n).1,L,λy n=>(all y n).2.1,λy n o=>?_,F,?_,λj hj=>?_⟩,λC fp s H=>?_,tg,λj x u=>?_,ϱ,ϱ⟩
   .rcases ((all y n).2.2 o).2 with z | z
    .have q:=b.kd _ _ z;exact q
    .have q:=b.kd _ _ z;exact q
   .rw [ŷ,I,Nat.add_comm]
   .have p:j<(aR scope).length:=by rw [I];exact hj
    have D:(d++aR scope)[j+d.length]?=some (aR scope)[j]:=by
     rw [ť (by lia),Nat.add_sub_cancel,ξ p]
    obtain ⟨i,h1,l⟩:=U j _ (ξ p)
    refine ⟨by rw [D];rfl,?_,?_⟩
    .rw [D,h1];exact (cY b l).symm
    .rw [D]
     have hm:(aR scope)[j]∈aR scope:=Ī p
     obtain ⟨y,n,v⟩:=ϑ.mp hm
     obtain ⟨n,hk⟩:=ŵ.mp n
     rw [← v]
     exact ((all y n).2.2 (by simpa using hk)).1
   .exact ⟨b.hK,b.calm,b.room,rfl,F,kd,(λz=>nomatch z),λx f o=>let ⟨a,h1,l⟩:=b.fnF x f o;⟨a,h1,l.ex,l.kp⟩,λc m f o=>let ⟨g,h1,l⟩:=b.meF c m f o;⟨g,h1,l.ex,l.kp⟩,b.clF,
     λc f o=>let ⟨a,h1,l⟩:=b.iniF c f o;⟨a,h1,l.ex,l.kp⟩,b.flF,b.csF,b.bt,b.ktF,b.kpF,λx m f o=>let ⟨C,a,h1,l,h3⟩:=b.cmF x m f o;⟨C,a,h1,l,h3.ex,h3.kp⟩,b.kit,b.hB,b.meL,b.clO,(λ_ _ _ z=>nomatch z),b.sn⟩
   .rw [Ĥ (ž.mp u).1];exact u
  .cases h
end
section
variable {G:Gn}{S:Sc}{X:Cx}{T:Tab}{R:Rn}{k:Nat}
noncomputable def dG(S:Sc)(x:Str):Option Nat:=if S.ns.lookup x==some .local||(S.top&&S.ns.lookup x==some .cell) then slot S x else none
def gL(a:XOk G S X T R k)(h:dG S x=some i):X.N[i]?=some x/\Loc X.env.scope x/\(X.fn x=true\/X.env.scope.names.lookup x=some .local):=by
 unfold dG at h
 split at h
 .rename_i hc
  refine ⟨cY a h,?_⟩
  rcases Bool.or_eq_true_iff.mp hc with z | z
  .have q:=a.kd x .local (by simpa using z)
   exact ⟨.inl q,.inr q⟩
  .obtain ⟨b,c⟩:=ż.mp z
   obtain ⟨d,e,_⟩:=a.fnT b
   exact ⟨.inr ((e x).trans (by simpa using c)),.inl (d x)⟩
 .cases h
def dc(hX:XOk G S X T R k):X.N.Nodup:=by rw [hX.N];exact hX.nd
theorem vo(hX:XOk G S X T R k):∀{es:ï} {xs:ó} {is:ñ},es.mapM vN=some xs->xs.mapM (dG S)=some is->PGs X es (lGs T is)/\(assignEach es X.env).length=is.length/\(assignEach es X.env).findIdx? (·.1)=none
 | [],xs,is,h1,h2=>by
  have:xs=[]:=by simpa using h1.symm
  subst this
  have:is=[]:=by simpa using h2.symm
  subst this
  exact ⟨vp,ϱ,ϱ⟩
 | e::es,xs,is,h1,h2=>by
  rw [List.mapM_cons] at h1
  cases e1:vN e with
  | none=>rw [e1] at h1;cases h1
  | some x =>
   cases e2:es.mapM vN with
   | none=>rw [e1,e2] at h1;cases h1
   | some ys =>
    rw [e1,e2] at h1
    have:xs=x::ys:=by simpa using h1.symm
    subst this
    rw [List.mapM_cons] at h2
    cases e3:dG S x with
    | none=>rw [e3] at h2;cases h2
    | some i =>
     cases e4:ys.mapM (dG S) with
     | none=>rw [e3,e4] at h2;cases h2
     | some js =>
      rw [e3,e4] at h2
      have:is=i::js:=by simpa using h2.symm
      subst this
      obtain ⟨p,rfl⟩:=pX e1
      obtain ⟨q1,q2,q3⟩:=vo hX e2 e4
      obtain ⟨s1,s2,s3⟩:=gL hX e3
      exact ⟨sL (dc hX) s1 s2 s3 q1 rfl,show (assignEach es X.env).length+1=_ by rw [q2];rfl,show List.findIdx? (·.1) ((_,_)::assignEach es X.env)=none by rw [List.findIdx?_cons,q3];rfl⟩
def xx(b:XOk G S X T R k)(h1:tgN tg=some (tp,xs))(d:xs.mapM (dG S)=some is):AG X T tg (gOf tp is) is:=by
 cases tg<;>first | (cases h1;done) | skip
 .rename_i x p
  cases h1
  obtain ⟨e,h⟩:=eV d
  obtain ⟨i,a,c⟩:=h 0 x rfl
  have:is=[i]:=by
   match is,e,a with
   | [j],_,a=>simp at a;rw [a]
  subst this
  obtain ⟨l,m,n⟩:=gL b c
  exact Aw (dc b) l m n
 .rename_i es j p
  obtain ⟨u,a,c⟩:=ſ.mp (show (es.mapM vN).map (λxs=>(true,xs))=some (tp,xs) from h1)
  cases c
  obtain ⟨o,q,r⟩:=vo b a d
  exact Eg b.hK b.calm o q r
noncomputable def mT(e:Û):Bool:=by
 cases e with
 | Set _ _ _=>exact true
 | _=>exact false
def jS(h:mT e=false)(x:ß):foldedSetIterable e env x=pure x:=by
 cases e<;>first | rfl | cases h
def DY{a:Û->Ex}(h:∀e,Sd X' T R e (a e))(ifs:ï):ATs X' T ifs (evt R (ifs.map a)):=by
 rcases ifs with _ | ⟨c,_ | _⟩
 .exact Ae
 .exact Ad (h c).2.1
 .exact λb s i H Q I ⟨ρ,σ,A,j,l,h,d⟩=>h.elim
noncomputable def rh(cmp:Sc->Û->Ex)(S:Sc)(elt:Û)(gens:Ú Comprehension)(scope:Scope):Ex:=(one gens).elim .bad λg=>(tgN g.target).elim .bad λq=>(fy S scope q.2).elim .bad λu=>(q.2.mapM (dG u.1)).elim .bad λis =>
 if mT g.iter||!(is.all λi=>i<q.2.length)||!decide (g.is_async=0) then .bad else .comp (cmp S g.iter) q.2.length q.1 is u.2 (g.ifs.map (cmp u.1)) (cmp u.1 elt)
noncomputable def fP(pr:Arguments):Option Str:=if pr.posonlyargs.isEmpty&&pr.vararg.isNone&&pr.kwonlyargs.isEmpty&&pr.kw_defaults.isEmpty&&pr.kwarg.isNone&&pr.defaults.isEmpty then (one pr.args).bind λa=>if a.arg="cell"\/a.arg="one"\/a.arg="p" then some a.arg else none else none
def jK(h:fP pr=some x):∃y p,pr=⟨[],[⟨x,y,p⟩],none,[],[],none,[]⟩/\(x="cell"\/x="one"\/x="p"):=by
 obtain ⟨c,a,d,e,i,j,l⟩:=pr
 unfold fP at h
 split at h
 .rename_i hc
  simp only [Bool.and_eq_true,List.isEmpty_iff,Option.isNone_iff_eq_none] at hc
  obtain ⟨⟨⟨⟨⟨rfl,rfl⟩,rfl⟩,rfl⟩,rfl⟩,rfl⟩:=hc
  obtain ⟨⟨z,y,p⟩,b,g⟩:=ų.mp h
  clear h
  rw [show a=_ from a7 b]
  split at g
  .cases g;exact ⟨y,p,ϱ,‹_›⟩
  .cases g
 .cases h
structure GY(G:Gn)(fd:Nat->Option Fd)(B:Ý)(fk:Nat)(pr:Arguments)(b:Û)(sc:Scope)(cl:ö)(vs:Ú V)(N:ó)(x:Str)(cs:Ú (Addr×V))(bd:Ex):Prop where
 hfd:fd fk=some ⟨N.length,N.length,[.ret bd]⟩
 snd:∀(T:Tab) (R:Rn) (k:Nat) (X:Cx),XOk G ⟨N,sc.names,false,none⟩ X T R k->Sd X T R b bd
 hsc:og N x sc cl
 len:N.length=vs.length+1
 pin:ue [] cs B
 hcl:∀y a,cl.lookup y=some a->∃v,(a,v)∈cs
 hfv:∀(j:Nat) (y:Str) (v:V),N[j+1]?=some y->vs[j]?=some v->sc.names.lookup y=some .free/\∃a,cl.lookup y=some a/\∀v',(a,v')∈cs->v'=v
 arg:fP pr=some x
def CrI(G:Gn)(T:Tab)(R:Rn):Prop:=∀(B:Ý) fk f c q pr b sc cl vs N x cs bd,GY G R.fd B fk pr b sc cl vs N x cs bd->T.crB B fk f c (pT f q pr b sc cl c) (ka c q) vs
def All(G:Gn)(cmp:Sc->Û->Ex):Prop:=∀(T:Tab) (R:Rn) (k:Nat) (S:Sc) (X:Cx),XOk G S X T R k->(∀z,S.lm=some z->CrI G T R)->∀e,Sd X T R e (cmp S e)
def qT{α β:Type}{b:β}{o:Option α}{f:α->β}{z:β}(c:¬z=b)(h:o.elim b f=z):∃a,o=some a/\f a=z:=by
 cases o with
 | none=>exact absurd h.symm c
 | some a=>exact ⟨a,rfl,h⟩
structure G2(X:Cx)(T:Tab)(R:Rn)(tg iter elt:Û)(ifs:ï)(scope:Scope)(it:ATI)(mm:Nat)(g:ATG)(is fv:ñ)(tt:ATT)(te:ATE):Prop where
 ex:∃N',(∀i∈is,i<mm)/\l9 X.N X.env.scope scope mm N' fv/\(∀C fp s H,AG (X.blk N' scope C fp s H) T tg g is)/\AI X T tg iter it/\(∀C fp s H,ATs (X.blk N' scope C fp s H) T ifs tt)/\(∀C fp s H,AE (X.blk N' scope C fp s H) T elt te)/\∀x,foldedSetIterable iter X.env x=pure x
def i8{b:Sc->Û->Ex}(q:All G b)(r:XOk G S X T R k)(D:∀z,S.lm=some z->CrI G T R){elt:Û}{gens:Ú Comprehension}{scope:Scope}:rh b S elt gens scope=.bad\/∃tg iter ifs it mm tp is fv fs el,gens=[⟨tg,iter,ifs,0⟩]/\rh b S elt gens scope=.comp it mm tp is fv fs el/\G2 X T R tg iter elt ifs scope (ev R it).i mm (gOf tp is) is fv (evt R fs) (ev R el).e:=by
 refine (Classical.em _).imp id λd=>?_
 obtain ⟨g,h0,a⟩:=qT d rfl
 obtain ⟨⟨tp,u⟩,h1,a⟩:=qT d a
 obtain ⟨⟨j,fv⟩,v,a⟩:=qT d a
 obtain ⟨is,w,a⟩:=qT d a
 obtain ⟨tg,iter,ifs,l⟩:=g
 split at a
 .exact absurd a.symm d
 .rename_i hc
  obtain ⟨⟨m,n⟩,o⟩:(mT iter=false/\∀i∈is,i<u.length)/\l=0:=by simpa using hc
  subst o
  obtain ⟨x,p,F,I,K,y⟩:=pM r v
  have c:∀z,j.lm=some z->CrI G T R:=λz e=>by rw [y] at e;cases e
  exact ⟨tg,iter,ifs,_,_,tp,is,fv,_,_,a7 h0,a.symm,j.N,n,x,λC h s H=>xx (p C h s H) h1 w,(q T R k S X r D iter).2.2 tg,
   λC h s H=>DY (λe=>q T R k j _ (p C h s H) c e) ifs,λC h s H=>(q T R k j _ (p C h s H) c elt).1,jS m⟩
def yu{a:Sc->Û->Ex}(c:All G a)(b:XOk G S X T R k)(d:∀z,S.lm=some z->CrI G T R):Sd X T R (.ListComp elt gens scope pos) (rh a S elt gens scope):=by
 rcases i8 c b d (elt:=elt) (gens:=gens) (scope:=scope) with h | ⟨tg,iter,ifs,it,mm,tp,is,fv,fs,el,rfl,h,N',p1,p2,p3,p4,p5,p6,p7⟩
 .rw [h];exact bD
 .rw [h]
  exact Sd.of b (rK p1 p2 p3 b.calm p4 p5 p6 p7) λ_=>rfl
noncomputable def EK(e:Û):Option (Arguments×Expr×Scope×Pos):=by
 cases e with
 | Lambda pr b sc p=>exact some (pr,b,sc,p)
 | _=>exact none
noncomputable def gO:ï->Option (Ú Expr×Arguments×Expr×Scope×Pos)
 | []=>none
 | e::es=>if es.isEmpty then (EK e).map (Prod.mk []) else (gO es).map λz=>(e::z.1,z.2)
def o6(h:gO es=some z):es=z.1++[.Lambda z.2.1 z.2.2.1 z.2.2.2.1 z.2.2.2.2]:=by
 induction es generalizing z with
 | nil=>cases h
 | cons e es ih =>
  cases es with
  | nil =>
   obtain ⟨w,g,rfl⟩:=ſ.mp (show (EK e).map _=_ from h)
   cases e<;>first | exact ns g | (cases g;rfl)
  | cons a as =>
   obtain ⟨w,g,rfl⟩:=ſ.mp (show (gO (a::as)).map _=_ from h)
   rw [ih g]
   rfl
noncomputable def pH(cmp:Sc->Û->Ex)(S:Sc)(o:Û)(m:Str)(apos pos:Pos)(args:ï):Option Ex:=(gO args).map λz=>S.lm.elim .bad λw=>(enc m).elim .bad λn=>(fP z.2.1).elim .bad λx=>(fy S z.2.2.2.1 [x]).elim .bad λu =>
 if z.1.all aA&&!cz o&&decide (args.length<30)&&(apos.endLine==pos.line)&&!z.2.2.2.1.isCoroutine&&!z.2.2.2.1.isGenerator&&((aR z.2.2.2.1).all λy=>S.ns.lookup y==some .cell) then .methl (cmp S o) n (z.1.map (cmp S)) w.1 w.2.1 z.2.2.2.2 w.2.2 u.2 (cmp u.1 z.2.2.1) else .bad
def nn(h:fP pr=some x):defaultsOf pr env=([],[]):=by
 obtain ⟨_,_,rfl,_⟩:=jK h
 rfl
theorem nD:∀(l:Ú (Str×NameKind)) (cs:ö) (y:Str),(∃a,cs.lookup y=some a/\env.cells.lookup y=some a)\/((y,NameKind.free)∈l/\(∃a,env.cells.lookup y=some a)/\∀a,cs.lookup y=some a->env.cells.lookup y=some a)->∃a,(aP env l cs).lookup y=some a/\env.cells.lookup y=some a
 | [],cs,y,h=>by
  rcases h with h | ⟨h,_⟩
  .exact h
  .cases h
 | (n,k)::r,cs,y,h=>by
  unfold aP
  have stp:∀b:ã,env.cells.lookup n=some b->∀a,((n,b)::cs).lookup y=some a->(∀a,cs.lookup y=some a->env.cells.lookup y=some a)->env.cells.lookup y=some a:=λb hb a ha hc=>by
   rw [ė] at ha
   split at ha
   .rename_i e;cases ha;rw [show y=n by simpa using e];exact hb
   .exact hc a ha
  refine nD r _ y ?_
  rcases h with ⟨a,h1,h2⟩ | ⟨h1,⟨a,h2⟩,h3⟩
  .split
   .split
    .rename_i b hb
     by_cases e:y=n
     .subst e;exact .inl ⟨b,by simp,hb⟩
     .exact .inl ⟨a,by rw [ė,show (y==n)=false from ū.mpr e];exact h1,h2⟩
    .exact .inl ⟨a,h1,h2⟩
   .exact .inl ⟨a,h1,h2⟩
  .rcases ϕ.mp h1 with e | h1
   .cases e
    rw [Ż ζ]
    split
    .rename_i b hb
     exact .inl ⟨b,by simp,hb⟩
    .rename_i hb
     rw [h2] at hb;cases hb
   .split
    .split
     .rename_i b hb
      exact .inr ⟨h1,⟨a,h2⟩,λa' ha=>stp b hb a' ha h3⟩
     .exact .inr ⟨h1,⟨a,h2⟩,h3⟩
    .exact .inr ⟨h1,⟨a,h2⟩,h3⟩
def EA{a:Û->Ex}(h:∀e,Sd X T R e (a e)){es:ï}{c:Û}{nt:Nm}{d:Nat}{lp:Pos}{q:Str}{i:Arguments}{b:Û}{j:Scope}{l:ö}(n:PA X [c] (lAL T jB nt d lp q i b j l))(o:es.all aA=true):PA X (es++[c]) (lAL T (evs R (es.map a)) nt d lp q i b j l):=by
 induction es with
 | nil=>exact n
 | cons e es ih =>
  obtain ⟨h1,m⟩:=ż.mp (show (aA e&&es.all aA)=true from o)
  exact xK (h e).1 (ih m) (aF h1)
theorem jW:∀(l:Ú (Str×NameKind)) (cs:ö) p,p∈aP env l cs->p∈cs\/(p.1,NameKind.free)∈l
 | [],cs,p,h=>.inl h
 | (n,k)::r,cs,p,h=>by
  unfold aP at h
  rcases jW r _ p h with z | z
  .split at z
   .rename_i hk
    split at z
    .rcases ϕ.mp z with z | z
     .subst z;exact .inr (by rw [show k=NameKind.free by simpa using hk];exact List.mem_cons_self)
     .exact .inl z
    .exact .inl z
   .exact .inl z
  .exact .inr (Θ _ z)
theorem uV{K:Sc->Û->Ex}(hA:All G K)(D:XOk G S X T R k)(hI:∀z,S.lm=some z->CrI G T R){o:Û}{m:Str}{args:ï}{apos pos:Pos}{y:Ex}(hc:pH K S o m apos pos args=some y):Sd X T R (.Call (.Attribute o m apos) args [] pos) y:=by
 obtain ⟨⟨es,pr,b,d,lp⟩,O,rfl⟩:=ſ.mp hc
 refine bf λw aa=>bf λn bL=>bf λx hx=>bf λu L=>bT λl=>?_
 clear hc
 rw [f8 bL]
 obtain ⟨fk,tn,q⟩:=w
 obtain ⟨S',fv⟩:=u
 have r:=o6 O
 obtain ⟨l,c7⟩:=ż.mp l
 obtain ⟨l,c6⟩:=ż.mp l
 obtain ⟨l,c5⟩:=ż.mp l
 obtain ⟨l,c4⟩:=ż.mp l
 obtain ⟨l,c3⟩:=ż.mp l
 obtain ⟨c1,c2⟩:=ż.mp l
 obtain ⟨b1,b2,b3,b4,b5,b6⟩:=pM D L
 obtain ⟨ht,cc,l1,l2,l3⟩:=D.lam _ _ _ aa
 obtain ⟨t1,t2,_⟩:=D.fnT ht
 obtain ⟨U,ax⟩:=DU L
 obtain ⟨m1,m2⟩:=eV ax
 have nd:(x::aR d).Nodup:=by have:=b1.nd;rw [U] at this;exact this
 have a4:args.all aA=true:=by rw [r,List.all_append,c1];rfl
 have kc:∀y,y∈aR d->X.env.kindOf y=some .cell:=λy C=>by
  rw [t2]
  simpa using List.all_eq_true.mp c7 y C
 have tr:=fN (o:=o) (m:=nm n) (args:=args) (env:=X.env) (apos:=apos) (pos:=pos) (by simpa using c2) a4 (of_decide_eq_true c3) c4
 have bl:Room k X.A:=D.room.mono (ğ _)
 refine Sd.of D (λab s σv H Q I hh=>?_) λ_=>rfl
 have fr:∀y,y∈aR d↔(y,NameKind.free)∈d.names:=λy=>by
  constructor
  .intro C
   obtain ⟨z,hz,rfl⟩:=ϑ.mp C
   obtain ⟨hz,hk⟩:=ŵ.mp hz
   rw [← show z.2=NameKind.free by simpa using hk]
   exact hz
  .intro C
   exact ϑ.mpr ⟨_,ŵ.mpr ⟨C,ϱ⟩,ϱ⟩
 have bm:=cL (scope:=d) (env:=X.env) λy C hk=>I.ok.has y.1 (b1.free y C hk)
 have a6:∀y,y∈aR d->∃a,(aP X.env d.names []).lookup y=some a/\X.env.cells.lookup y=some a:=λy C=>nD _ _ _ (.inr ⟨(fr y).mp C,I.ok.has y (.inl (kc y C)),λa z=>by simp at z⟩)
 have F:∀y a,(aP X.env d.names []).lookup y=some a->X.env.cells.lookup y=some a/\y∈aR d:=λy a h=>by
  have hm:=Ū h
  refine ⟨dm _ _ (λp z=>absurd z (by simp)) _ hm,(fr y).mpr ?_⟩
  rcases jW _ _ _ hm with z | z
  .cases z
  .exact z
 have Z:PE X (.Lambda pr b d lp) (uF (T.ta fk) lp q pr b d (aP X.env d.names [])):=yW l1 l2 D.hB l3 bm (nn hx)
 have a8:=EA (nt:=(tn,[])) (hA T R k S X D hI) (AM Z rfl) c1
 rw [← r] at a8
 have bn:∀(B:Ý) f c vs cs,R.fd fk=some ⟨fv.length+1,fv.length+1,[.ret (K S' b)]⟩->ue [] cs B->vs.length=(aR d).length->(∀(j:Nat) y v,(aR d)[j]?=some y->vs[j]?=some v->∃a,X.env.cells.lookup y=some a/\(a,v)∈cs/\∀v',(a,v')∈cs->v'=v)->T.crB B fk f c (pT f q pr b d (aP X.env d.names []) c) (ka c q) vs:=λB f c vs cs c0 hp hl hv=>by
  refine hI _ aa B fk f c q pr b d _ vs (x::aR d) x cs (K S' b) ⟨by rw [c0,List.length_cons,m1],λT R k X cd=>?_,⟨b1.kind,by simpa using c5,by simpa using c6,nd,ϱ,b3 x List.mem_cons_self,b1.nocell,λy C=>?_,λy z a h1 h2=>I.ok.inj _ _ a (F _ _ h1).1 (F _ _ h2).1⟩,by simp [hl],hp,λy a h=>?_,λj y v h1 h2=>?_,hx⟩
  .have:=hA T R k S' X (U▸cd) (λz e=>by rw [b6] at e;cases e) b
   exact this
  .obtain ⟨a,h,_⟩:=a6 y ((fr y).mpr (Ū C));exact ⟨a,h⟩
  .obtain ⟨h1,h2⟩:=F y a h
   obtain ⟨j,hj,e⟩:=Ŧ.mp h2
   obtain ⟨a',g1,g2,_⟩:=hv j y _ (by rw [ξ hj,e]) (ξ (by lia))
   rw [h1] at g1
   cases g1
   exact ⟨_,g2⟩
  .have h1:(aR d)[j]?=some y:=h1
   have bt:j<fv.length:=by rw [← m1];exact (ž.mp h1).1
   obtain ⟨_,_,Y⟩:=b1.at_ j bt
   have Y:((S'.N)[j+1]?).bind (λy=>d.names.lookup y)=some .free:=Y
   rw [U] at Y
   have Y:((aR d)[j]?).bind (λy=>d.names.lookup y)=some .free:=Y
   rw [h1] at Y
   obtain ⟨a,g1,g2⟩:=a6 y (Ÿ h1)
   obtain ⟨a',g3,g4,g5⟩:=hv j y v h1 h2
   rw [g2] at g3
   cases g3
   exact ⟨Y,a,g1,g5⟩
 have a0:∀(j:Nat) y,(aR d)[j]?=some y->∃i,fv[j]?=some i/\X.N[i]?=some y/\X.env.kindOf y=some .cell/\X.fn y=true:=λj y h=>by
  obtain ⟨i,g1,g2⟩:=m2 j y h
  exact ⟨i,g1,cY D g2,kc y (Ÿ h),t1 y⟩
 cases args with
 | nil=>cases es<;>cases r
 | cons a as =>
  obtain ⟨s1,s2⟩:=ż.mp (show (aA a&&as.all aA)=true from a4)
  exact xz (ys:=aR d) D.hK (λc f hf=>D.meL c n f hf) bl D.hB (ŝ.mp nd).2 m1 a0 bn (hA T R k S X D hI o).1 a8 (aF s1) (iR s2) tr ab s σv H Q I hh
noncomputable def wW(cmp:Û->Ex)(S:Sc)(x:Str)(args:ï):Option Ex:=(S.ns.lookup x).bind λq=>(slot S x).bind λi=>(one args).bind λe=>if isV q&&cP x&&aA e then some (.callv i (cmp e)) else none
def uZ(c:XOk G S X T R k){d:Û->Ex}(h:∀e,Sd X T R e (d e))(a:wW d S x args=some z):Sd X T R (.Call (.Name x p) args [] pos) z:=by
 obtain ⟨q,n,a⟩:=ų.mp a
 obtain ⟨i,o,a⟩:=ų.mp a
 obtain ⟨e,r,g⟩:=ų.mp a
 rw [a7 r]
 clear a
 split at g
 .rename_i b
  cases g
  obtain ⟨b,m⟩:=ż.mp b
  obtain ⟨u,b⟩:=ż.mp b
  obtain ⟨⟨j,l⟩,v⟩:=db b
  exact Sd.of c (xE (cY c o) (um c n u) (c.room.mono (ğ _)) c.clO (nW (h e).1 rL (aF m)) j l (aF m)) λ_=>rfl
 .cases g
noncomputable def vCA(e:Û):Option (Expr×Str×Pos×Pos):=by
 cases e with
 | Call f a k p =>
  cases f with
  | Attribute o m q=>exact if a.isEmpty&&k.isEmpty then some (o,m,q,p) else none
  | _=>exact none
 | _=>exact none
def BY(h:vCA e=some z):e=.Call (.Attribute z.1 z.2.1 z.2.2.1) [] [] z.2.2.2:=by
 cases e<;>first | exact ns h | skip
 rename_i f a k p
 cases f<;>first | exact ns h | skip
 cases a<;>cases k<;>first | exact ns h | (cases h;rfl)
noncomputable def wT(S:Sc)(cmp:Û->Ex)(x:Str)(args:ï):Option Ex:=(one args).bind λe=>(vCA e).bind λz=>if x==("sorted":Str)&&z.2.1==("items":Str)&&(S.ns.lookup ("sorted":Str)==some .globalImplicit)&&!cz z.1&&(z.2.2.1.endLine==z.2.2.2.line) then some (.sortI (cmp z.1)) else none
theorem uU(b:XOk G S X T R k){c:Û->Ex}(h:∀e,Sd X T R e (c e))(d:wT S c x args=some z):Sd X T R (.Call (.Name x p) args [] pos) z:=by
 obtain ⟨e,l,d⟩:=ų.mp d
 obtain ⟨⟨o,m,i,j⟩,n,g⟩:=ų.mp d
 rw [a7 l,BY n]
 clear d
 split at g
 .rename_i a
  cases g
  obtain ⟨a,q⟩:=ż.mp a
  obtain ⟨a,r⟩:=ż.mp a
  obtain ⟨a,u⟩:=ż.mp a
  obtain ⟨v,w⟩:=ż.mp a
  cases (by simpa using v:x="sorted")
  cases (by simpa using w:m="items")
  exact Sd.of b (xy b.calm (by have:=b.units;lia) (h o).1 (cF (by simpa using r)) q (b.kd _ .globalImplicit (by simpa using u)) (b.bt _ ζ)) λ_=>rfl
 .cases g
noncomputable def By(G:Gn)(C:Sc->Û->Ex)(S:Sc)(f:Û)(args:ï)(pos:Pos):Ex:=by
 cases f with
 | Name x _=>exact if x==("isinstance":Str) then wU S (C S) args else (wT S (C S) x args).getD ((wW (C S) S x args).getD (wX (C S) G S x args))
 | Attribute o m apos=>exact (pH C S o m apos pos args).getD (pJ (C S) G S o m apos pos args)
 | _=>exact .bad
noncomputable def Bv(G:Gn)(C:Sc->Û->Ex)(S:Sc)(e:Û):Ex:=by
 cases e with
 | Name x _=>exact Bw G S x
 | Constant c _ _=>exact wV G c
 | Attribute o f _=>exact Gg (C S o) o f
 | BinOp a op b _=>exact Gh op (C S a) (C S b)
 | Compare a ops bs _=>exact (rj G S ops bs (C S a)).getD (DS (C S) ops bs (C S a))
 | BoolOp op vs _=>exact wY op (vs.map (C S))
 | UnaryOp op a _=>exact cUn op (C S a)
 | IfExp c a b _=>exact .ite (C S c) (C S a) (C S b)
 | Tuple es _ _=>exact Gd es (es.map (C S))
 | List es _=>exact Gf es (es.map (C S))
 | Subscript a b _=>exact (vSl b).elim (re G S a b (C S a) (C S b)) λq=>.sl (C S a) (q.1.toList.map (C S)) (q.2.toList.map (C S))
 | Dict ks vs _=>exact if ks.isEmpty&&vs.isEmpty then .dic else .bad
 | ListComp elt gens scope _=>exact rh C S elt gens scope
 | Call f args kws pos=>exact if kws.isEmpty then By G C S f args pos else .bad
 | _=>exact .bad
noncomputable def jx(G:Gn):Nat->Sc->Û->Ex
 | 0=>λ_ _=>.bad
 | n+1=>Bv G (jx G n)
def qi(h:∀a,o=some a->Sd X T R e a)(h':Sd X T R e x):Sd X T R e (o.getD x):=by
 cases o with
 | none=>exact h'
 | some a=>exact h a rfl
def yx{C:Sc->Û->Ex}(c:All G C)(a:XOk G S X T R k)(d:∀z,S.lm=some z->CrI G T R):Sd X T R (.Call f args [] pos) (By G C S f args pos):=by
 have h:=c T R k S X a d
 cases f with
 | Name x p =>
  show Sd X T R _ (if x==("isinstance":Str) then wU S (C S) args else _)
  split
  .rename_i hx
   cases (by simpa using hx:x="isinstance")
   exact yt a h
  .exact qi (λz b=>uU a h b) (qi (λz b=>uZ a h b) (u5 a h))
 | Attribute o m apos=>exact qi (o:=pH C S o m apos pos args) (λz b=>uV c a d b) (uW a h)
 | _=>exact bD
theorem HN{C:Sc->Û->Ex}(ih:All G C):All G (Bv G C):=λT R k S X hX hI e=>by
 have h:=ih T R k S X hX hI
 cases e with
 | Name x pos=>exact yq hX x pos
 | Constant c j pos=>exact uY hX c j pos
 | Attribute o f pos=>exact Cu hX (h o) f pos
 | BinOp a op b pos=>exact Cw hX (h a) (h b) op pos
 | Compare a ops bs pos=>exact qi (o:=rj G S ops bs (C S a)) (λz hz=>yw hX (h a) hz) (Cv hX h)
 | BoolOp op vs pos=>exact yy h
 | UnaryOp op a pos=>exact E3 hX (h a)
 | IfExp c a b pos=>exact E5 hX (h c) (h a) (h b)
 | Tuple es j pos=>exact Cr hX h
 | List es pos=>exact Ct hX h
 | Subscript a b pos =>
  show Sd X T R _ ((vSl b).elim (re G S a b (C S a) (C S b)) λq=>.sl (C S a) (q.1.toList.map (C S)) (q.2.toList.map (C S)))
  cases hb:vSl b with
  | none=>exact yp hX (h a) (h b)
  | some q=>exact E4 hX hb h
 | Dict ks vs pos =>
  refine bT (c:=(ks.isEmpty&&vs.isEmpty)=true) λhc=>?_
  cases ks<;>cases vs<;>first | (cases hc;done) | exact Sd.of hX Eo λ_=>rfl
 | ListComp elt gens scope pos=>exact yu ih hX hI
 | Call f args kws pos =>
  refine bT (c:=kws.isEmpty=true) λhc=>?_
  cases kws with
  | cons _ _=>exact nt hc
  | nil=>exact yx ih hX hI
 | _=>exact bD
theorem gd:∀n,All G (jx G n)
 | 0=>λT R k S X hX hI e=>bD
 | n+1=>HN (gd n)
end
section
variable {G:Gn}{S:Sc}{X:Cx}{T:Tab}{R:Rn}{k:Nat}
noncomputable def dM(e:Û):Bool:=by
 cases e with
 | ListComp _ _ _ _=>exact true
 | SetComp _ _ _ _=>exact true
 | DictComp _ _ _ _ _=>exact true
 | _=>exact false
def hW(h:dM e=false):swapsWith e t l env=pure false:=by
 cases e<;>first | rfl | cases h
def bQ{st:Ü}{t:ATS}(h:∀D σ A,¬t D σ A):AS X T st t:=λpins s σv H D I ⟨ρ,σ,A,DA,rs,q,d⟩=>(h _ _ _ q).elim
def fB{α:Type}{o:Option α}{f:α->Sm}{s:Ü}(h:∀a,o=some a->AS X T s (evS R (f a))):AS X T s (evS R (o.elim .bad f)):=by
 cases o with
 | none=>exact bQ λ_ _ _ z=>z
 | some a=>exact h a rfl
def jh(h:c=false->AS X T s (evS R x)):AS X T s (evS R (if c then .bad else x)):=by
 cases c
 .exact h rfl
 .exact bQ λ_ _ _ z=>z
def k9(e:Û):Bool:=by
 cases e with
 | Tuple _ _ _=>exact true
 | _=>exact false
def r8(h:k9 e=false):swappedStores [.Tuple es k p] e env=pure none:=by
 cases e<;>first | rfl | cases h
def Ai(he:AE X T e ta)(hg:AG X T (.Tuple es kk p) (gT is) is)(hc:dM e=false)(ht:k9 e=false):AS X T (.Assign [.Tuple es kk p] e pos) (BF is ta) :=
 (CP (pos:=pos) he hg (show swapsWith e (some (.Tuple es kk p)) pos.line X.env=pure false from hW hc) (r8 ht) rfl).imp λD σv H ⟨ρ,σ,A,DA,rs,h,d⟩=>ao rs h fun ρ1 x v A1 H1 e1 rs1 rv fz q=>by
  obtain ⟨nf,q⟩:=nd.of q
  obtain ⟨σ1,h1,q⟩:=q.of
  exact ⟨ρ1,A1,x,σ,σ1,rs1,nf,rv,h1,fun σv1 r1 _=>d.nx ρ1 σ1 A1 σv1 H1 e1 r1 q⟩
noncomputable def Gj(cmp:Sc->Û->Ex)(S:Sc)(t e:Û):Sm:=by
 cases t with
 | Name x _=>exact (dG S x).elim .bad λi=>.set i (cmp S e)
 | Attribute o f _=>exact (enc f).elim .bad λn=>.setf (cmp S o) (cmp S e) n
 | Tuple es _ _=>exact (es.mapM vN).elim .bad λxs=>(xs.mapM (dG S)).elim .bad λis=>if dM e||k9 e then .bad else .setT is (cmp S e)
 | Subscript o i _=>exact if fe i then .bad else .seti (cmp S o) (cmp S i) (cmp S e)
 | _=>exact .bad
def Ao(a:XOk G S X T R k)(m:CrI G T R)(es:dG S x=some i):AS X T (.Assign [.Name x p] e pos) (ub i (ev R (jx G n S e)).e):=by
 obtain ⟨d,h,j⟩:=gL a es
 cases hc:dM e with
 | false=>exact xg (dc a) d h (gd (G:=G) n T R k S X a (λ_ _=>m) e).1 (hW hc) j
 | true =>
  have bad:jx G n S e=.bad->AS X T (.Assign [.Name x p] e pos) (ub i (ev R (jx G n S e)).e):=λc=>by rw [c];exact bQ λ_ _ _ z=>z
  cases n with
  | zero=>exact bad rfl
  | succ n =>
   cases e<;>first | exact nt hc | exact bad rfl | skip
   rename_i elt gens scope cp
   rcases i8 (gd (G:=G) n) a (λ_ _=>m) (elt:=elt) (gens:=gens) (scope:=scope) with c | ⟨tg,iter,ifs,it,mm,tp,is,fv,fs,el,hg,c,N',p1,p2,p3,p4,p5,p6,p7⟩
   .exact bad c
   .rw [show jx G (n+1) S (.ListComp elt gens scope cp)=_ from c,hg]
    show AS X T _ (ub i (nY (ev R it).i mm (gOf tp is) fv (evt R fs) (ev R el).e))
    obtain ⟨b,l⟩:∃b,swapsWith (.ListComp elt [⟨tg,iter,ifs,0⟩] scope cp) (some (.Name x p)) pos.line X.env=pure b:=⟨_,ϱ⟩
    cases b
    .exact xg (dc a) d h (rK p1 p2 p3 a.calm p4 p5 p6 p7) l j
    .exact Aj p1 p2 p3 a.calm p4 p5 p6 p7 (dc a) d h l j
theorem D6{n:Nat}(a:XOk G S X T R k)(j:CrI G T R){t e:Û}{pos:Pos}:AS X T (.Assign [t] e pos) (evS R (Gj (jx G n) S t e)):=by
 have h:=gd (G:=G) n T R k S X a λ_ _=>j
 have u:=a.units
 cases t with
 | Tuple b kk p =>
  refine fB (o:=b.mapM vN) λxs h1=>fB λis v=>jh λd=>?_
  obtain ⟨l,q⟩:dM e=false/\k9 e=false:=by simpa using d
  have r:=xx (G:=G) (k:=k) (R:=R) a (tg:=.Tuple b kk p) (tp:=true) (xs:=xs) (is:=is) (by show (b.mapM vN).map _=_;rw [h1];rfl) v
  exact Ai (h e).1 r l q
 | Name x p=>exact fB (o:=dG S x) λi b=>Ao a j b
 | Attribute o f p =>
  refine fB (o:=enc f) λm w=>?_
  rw [f8 w]
  exact Ah a.hK (λc=>a.flF c m) (h o).1 (h e).1 (by cases e<;>rfl)
 | Subscript o i p=>exact jh (c:=fe i) λd=>Ag (by lia) (h o).1 (h i).1 (h e).1 (by cases e<;>rfl)
 | _=>exact bQ λ_ _ _ z=>z
noncomputable def xY(e:Û):Option Int:=by
 cases e with
 | Constant c _ _ =>
  cases c with
  | int j=>exact some j
  | _=>exact none
 | _=>exact none
def xX(h:xY e=some j):∃k p,e=.Constant (.int j) k p:=by
 cases e<;>first | exact ns h | skip
 rename_i c k p
 cases c<;>first | exact ns h | (cases h;exact ⟨k,p,ϱ⟩)
noncomputable def Gi(cmp:Sc->Û->Ex)(S:Sc)(t:Û)(op:Operator)(v:Û):Sm:=by
 cases t with
 | Attribute o f _=>exact (xY v).elim .bad λj=>(enc f).elim .bad λn=>if !decide (op=.Add) then .bad else .aug (cmp S o) n j
 | _=>exact .bad
def D5{n:Nat}(a:XOk G S X T R k)(i:CrI G T R){t v:Û}{op:Operator}{pos:Pos}:AS X T (.AugAssign t op v pos) (evS R (Gi (jx G n) S t op v)):=by
 have h:=gd (G:=G) n T R k S X a λ_ _=>i
 cases t with
 | Attribute o f p =>
  refine fB (o:=xY v) λj b=>fB λm d=>jh λe=>?_
  cases (by simpa using e:op=.Add)
  obtain ⟨c,q,rfl⟩:=xX b
  rw [f8 d]
  exact An a.hK (λc=>a.flF c m) (h o).1
 | _=>exact bQ λ_ _ _ z=>z
noncomputable def iI(S:Sc)(x:Str)(i:Nat):Bool:=cP x&&(S.ns.lookup x==some .local||S.ns.lookup x==some .cell||S.ns.lookup x==some .free)&&slot S x==some i
def vx(a:XOk G S X T R k)(h:iI S x i=true):PE X (.Name x pos) (kq i):=by
 simp only [iI,cP,Bool.and_eq_true,Bool.or_eq_true,beq_iff_eq,Bool.not_eq_true'] at h
 obtain ⟨⟨⟨⟨b,c⟩,_⟩,q⟩,d⟩:=h
 refine oH (cY a d) ?_ b c
 rcases q with (q | q) | q<;>have h:=a.kd x _ q
 .exact .inl h
 .exact .inr h
 .exact .inr h
theorem Cp(hX:XOk G S X T R k)(h9:fy S scope [y]=some (S',[i]))(c1:iI S x i=true)(c2:iI S' y 0=true)(c3:iI S' x 1=true)(c4:dG S' y=some 0) :
  AE X T (.ListComp (.Subscript (.Attribute (.Name x p1) (nm f) p2) (.Name y p3) p4) [⟨.Name y p5,.Attribute (.Name x p6) (nm f) p7,[.Compare (.Name y p8) [.NotIn] [.Attribute (.Name x p9) (nm g) p10] p11],0⟩] scope pos) (ED i f g) :=
 have ⟨b1,b2,_⟩:=pM hX h9
 Ej hX.hK (by have:=hX.units;lia) b1 hX.calm (λC fp s H=>let ⟨s1,s2,s3⟩:=gL (b2 C fp s H) c4;kG (dc (b2 C fp s H)) s1 s2 s3) (λp=>vx hX c1) (λC fp s H p=>vx (b2 C fp s H) c2) (λC fp s H p=>vx (b2 C fp s H) c3)
noncomputable def Bu(E:Sc->Û->Ex)(C:Sc->Ü->Sm)(S:Sc)(s:Ü):Sm:=by
 cases s with
 | Assign ts e _=>exact (one ts).elim .bad λt=>Gj E S t e
 | AugAssign t op v _=>exact Gi E S t op v
 | Expr e _=>exact if dM e then .bad else .ex (E S e)
 | Return o _=>exact o.elim .retn λe=>.ret (E S e)
 | If c a b _=>exact .ite (E S c) (a.map (C S)) (b.map (C S))
 | For tg iter body els _=>exact (tgN tg).elim .bad λq=>(q.2.mapM (dG S)).elim .bad λis=>if mT iter||!els.isEmpty then .bad else .for_ q.1 is (E S iter) (body.map (C S))
 | While c body els _=>exact if !els.isEmpty then .bad else .wh (E S c) (body.map (C S))
 | Pass _=>exact .pass
 | Break _=>exact .brk
 | Try body hs els fin _=>exact if hs.isEmpty||!els.isEmpty||!fin.isEmpty then .bad else .blk (body.map (C S))
 | _=>exact .bad
noncomputable def wP(G:Gn):Nat->Sc->Ü->Sm
 | 0=>λ_ _=>.bad
 | n+1=>Bu (jx G n) (wP G n)
theorem gW{f:Ü->Sm}(h:∀s,AS X T s (evS R (f s))):∀l:Ú Ü,ASs X T l (bi R (l.map f))
 | []=>xi
 | s::l=>rE (h s) (gW h l)
def XOk.nox(hX:XOk G S X T R k):XOk G S X.nox T R k :=
 ⟨hX.hK,hX.calm,hX.room,hX.N,hX.nd,hX.kd,λz=>let ⟨a,b,c,_⟩:=hX.fnT z;⟨a,b,c,PassesOwn.never⟩,λx f hf=>let ⟨a,h1,h2⟩:=hX.fnF x f hf;⟨a,h1,h2.ex,h2.kp⟩,λc m f hf=>let ⟨g,h1,h2⟩:=hX.meF c m f hf;⟨g,h1,h2.ex,h2.kp⟩,hX.clF,
  λc f hf=>let ⟨a,h1,h2⟩:=hX.iniF c f hf;⟨a,h1,h2.ex,h2.kp⟩,hX.flF,hX.csF,hX.bt,hX.ktF,hX.kpF,λx m f hf=>let ⟨C,a,h1,h2,h3⟩:=hX.cmF x m f hf;⟨C,a,h1,h2,h3.ex,h3.kp⟩,hX.kit,hX.hB,hX.meL,hX.clO,hX.lam,hX.sn⟩
def wO(p:S.top=true)(q:CrI G T R){n:Nat}{C:Sc->Ü->Sm}(r:∀X:Cx,XOk G S X T R k->∀s,AS X T s (evS R (C S s)))(i:XOk G S X T R k)(s:Ü):AS X T s (evS R (Bu (jx G n) C S s)):=by
 have h:=gd (G:=G) n T R k S X i λ_ _=>q
 have l:=gW (r X i)
 obtain ⟨_,_,_,d⟩:=i.fnT p
 cases s with
 | Assign ts e pos =>
  refine fB (o:=one ts) λt p=>?_
  rw [a7 p]
  exact D6 i q
 | AugAssign t op v pos=>exact D5 i q
 | Expr e pos=>exact jh (c:=dM e) λj=>Am (h e).1 (hW j)
 | Return o pos =>
  cases o with
  | none=>exact Ak
  | some e=>exact xh (h e).1
 | If c a b pos=>exact Gs (h c).2.1 (l a) (l b)
 | For tg iter body els pos =>
  refine fB (o:=tgN tg) λ⟨w,x⟩ h1=>fB λy u=>jh λj=>?_
  obtain ⟨m,rfl⟩:mT iter=false/\els=[]:=by simpa using j
  exact D4 d i.calm ((h iter).2.2 tg) (xx i h1 u) (l body) (jS m)
 | While c body els pos =>
  refine jh (c:=!els.isEmpty) λj=>?_
  cases (by simpa using j:els=[])
  exact xf d (h c).2.1 (l body)
 | Pass pos=>exact Al
 | Break pos=>exact xj
 | Try body hs els fin pos =>
  refine jh (c:=hs.isEmpty||!els.isEmpty||!fin.isEmpty) λj=>?_
  obtain ⟨⟨m,rfl⟩,rfl⟩:(¬hs=[]/\els=[])/\fin=[]:=by simpa using j
  cases hs with
  | nil=>exact absurd rfl m
  | cons h0 hs=>exact yK (gW (r X.nox i.nox) body)
 | _=>exact bQ λ_ _ _ z=>z
theorem qZ(ht:S.top=true)(hI:CrI G T R):∀n (X:Cx),XOk G S X T R k->∀s,AS X T s (evS R (wP G n S s))
 | 0,X,hX,s=>bQ λ_ _ _ z=>z
 | n+1,X,hX,s=>wO ht hI (qZ ht hI n) hX s
end
def mP:∀q:NameKind,KOk q (some q):=λq=>by
 cases q<;>first | trivial | rfl | exact .inl rfl | exact .inr rfl
def BQ(G:Gn)(fd:Nat->Option Fd)(B:Ý)(fk:Nat)(f c:ã)(φ ψ:Ý->Prop)(vs:Ú V):Prop:=∃q pr b sc cl N x cs bd,φ=pT f q pr b sc cl c/\ψ=ka c q/\GY G fd B fk pr b sc cl vs N x cs bd
structure AR(K:Þ)(mg:û)(T:Tab)(tb:Tb)(G:Gn)(ad:Nat->ã):Prop where
 hK:T.K=K
 cr:T.crB=BQ G tb.fn
 fns:∀fi d,tb.fn fi=some d->tb.isl fi=false->∃x qual st fd N ps m lm,Fun K x qual st (ad fi) fd/\dv N ps (au st)/\Binds K fd ps []/\(∃bd,d=⟨ps.length,N.length,bd⟩/\(bd=(aW st).map (wP G m ⟨N,(au st).names,true,lm⟩)\/∀(X:Cx) (T:Tab) (R:Rn) (k:Nat),XOk G ⟨N,(au st).names,true,lm⟩ X T R k->ASs X T (aW st) (bi R bd))) /\
  ∀fk tn q,lm=some (fk,tn,q)->∃cc,fd.code=.ref cc/\PySem.W.codeHdIn K cc (T.ta fk)=true/\(qual++".<locals>.")++"<lambda>"=q
 fnG:∀x f,G.fn.lookup x=some f->mg x=some (.ref (ad f))/\(∃d,tb.fn f=some d)/\tb.isl f=false
 me:∀c m f,tb.me c m=some f->n8 K (T.cl c) (nm m) (ad f)/\(∃d,tb.fn f=some d)/\tb.isl f=false
 clG:∀x c,G.cl.lookup x=some c->mg x=some (.ref (T.cl c))/\Cls K (T.cl c)
 ini:∀c f,tb.ini c=some f->Mk K (T.cl c) (ad f)/\(∃d,tb.fn f=some d)/\tb.isl f=false
 fl:∀c f,tb.fl c f=true->NoAttr K (T.cl c) (nm f)
 cs:∀x a,G.cs.lookup x=some a->∃u v,mg x=some u/\RelV v u/\aT a=false/\∀B ρ H,RV {T with bs:=B} ρ H a v
 bt:∀x∈(da:ó),mg x=none
 kt:∀x D,G.kt.lookup x=some D->(D.all λp=>KTD.plain p.2)=true/\∃a,mg x=some (.ref a)/\TabK K a D
 kp:∀x ps,G.kp.lookup x=some ps->∃a,mg x=some (.ref a)/\PrK K a ps
 cm:∀x m f,G.cm.lookup (x,m)=some f->∃C,mg x=some (.ref C)/\rQ K C m (ad f)/\(∃d,tb.fn f=some d)/\tb.isl f=false
 kit:∀t c:Ty,PySem.W.kitOne K (.type t.s) (.type c.s)=some (t.sub c)
 sn:G.sn=nm
section
variable {P:ä}{w:â}{K:Þ}{mg:û}{T:Tab}{tb:Tb}{G:Gn}{ad:Nat->ã}
def xP(P:ä)(w:â)(K:Þ)(mg:û)(T:Tab)(tb:Tb)(ad:Nat->ã)(n:Nat):Prop:=∀base:Ý,BB mg base->∀fi d,tb.fn fi=some d->tb.isl fi=false ->
 PySem.W.keepIn K (.ref (ad fi))=true/\∃fd ps,dW P w K mg base CX0 (2*n) (ad fi) fd ps (lF {T with bs:=base} (fnSp tb n fi))/\Binds K fd ps []
def xQ(P:ä)(w:â)(K:Þ)(mg:û)(T:Tab)(tb:Tb)(n:Nat):Prop:=∀base:Ý,BB mg base->∀fk f c φ ψ vs,T.crB base fk f c φ ψ vs->xR P w K mg base {T with bs:=base} (2*n) f c φ ψ vs (fnSp tb n fk)
def ug(b:AR K mg T tb G ad){n:Nat}(z:xP P w K mg T tb ad n)(U:xQ P w K mg T tb n){X:Cx}{S:Sc}(hp:X.prog=P)(hw:X.w=w)(Y:X.K=K)(Z:X.mg=mg)(i:BB X.mg X.base)(j:X.calm=true)(l:Room (2*n+1) X.A)(hN:X.N=S.N)(nd:S.N.Nodup)
  (kd:∀x q,S.ns.lookup x=some q->KOk q (X.env.kindOf x))(p:S.top=true->(∀x,X.fn x=true)/\(∀x,X.env.kindOf x=S.ns.lookup x)/\X.env.blockKind=.function/\PassesOwn (model X.prog X.w) X.A X.env X.xe)
  (r:∀fk tn q,S.lm=some (fk,tn,q)->S.top=true/\∃cc,X.env.code=.ref cc/\PySem.W.codeHdIn X.K cc (T.ta fk)=true/\X.env.qual++"<lambda>"=q):XOk G S X {T with bs:=X.base} ⟨fnSp tb n,tb.me,tb.ini,tb.fl,tb.fn⟩ (2*n):=by
 subst hp hw Y Z
 have o:∀f,(∃d,tb.fn f=some d)/\tb.isl f=false->Fo X {T with bs:=X.base} (2*n) (ad f) (fnSp tb n f):=λf ⟨⟨d,hd⟩,hi⟩=>by
  obtain ⟨D,F,H,I,L⟩:=z _ i f d hd hi
  exact ⟨⟨F,H,I,L⟩,D⟩
 exact ⟨b.hK.symm,j,l,hN,nd,kd,p,λx f e=>⟨_,(b.fnG x f e).1,o f (b.fnG x f e).2⟩,λc m f e=>⟨_,(b.me c m f e).1,o f (b.me c m f e).2⟩,
  λx c y=>⟨(b.clG x c y).1,b.hK▸(b.clG x c y).2⟩,λc f e=>⟨_,(b.ini c f e).1,o f (b.ini c f e).2⟩,λc f e=>b.hK▸b.fl c f e,λx a O=>let ⟨u,v,h1,h2,h3,h4⟩:=b.cs x a O;⟨u,v,h1,h2,h3,h4 _⟩,b.bt,b.kt,b.kp,
  λx m f e=>let ⟨C,h1,h2,h3⟩:=b.cm x m f e;⟨C,_,h1,h2,o f h3⟩,b.kit,i,λc m f e=>⟨_,(b.me c m f e).1,λB _ i=>let ⟨⟨d,hd⟩,hi⟩:=(b.me c m f e).2;(z B i f d hd hi).2⟩,λfk f c φ ψ Q h=>U _ i fk f c φ ψ Q h,r,b.sn⟩
def w6(h:fP pr=some x)(u a d:ß):BindsTo s (PySem.W.kla_fn "<lambda>" q pr b sc cl a (.ref c) d) ⟨[u],[]⟩ [(x,u)]:=by
 obtain ⟨y,p,rfl,hy | hy | hy⟩:=jK h<;>(subst hy;exact .of_eq rfl)
def mw{ρ:Rho}{xs:Ú AV}{A:AH}{H:Hp}{vs:Ú V}{m:Nat}(l:Rl T ρ A H)(rv:RVg T ρ H xs vs):Rs T ρ (xs.map some++List.replicate m none) A (vs.map some++List.replicate m none) H :=
 ⟨l,by simp [rv.len],λi y hy=>by
  by_cases hi:i<xs.length
  .rw [List.getElem?_append_left (by simpa using hi),List.getElem?_map] at hy
   obtain ⟨z,hz,hz2⟩:=ſ.mp hy
   cases hz2
   obtain ⟨v,hv,nq,rv'⟩:=rv.get hz
   exact ⟨v,by rw [List.getElem?_append_left (by simp [← rv.len,hi]),List.getElem?_map,hv];rfl,nq,rv'⟩
  .rw [List.getElem?_append_right (by simpa using hi),List.getElem?_replicate] at hy
   split at hy<;>cases hy⟩
theorem Ee(O:AR K mg T tb G ad):∀n,xP P w K mg T tb ad n/\xQ P w K mg T tb n:=by
 have aS:∀n B,CrI G {T with bs:=B} ⟨fnSp tb n,tb.me,tb.ini,tb.fl,tb.fn⟩:=λn B B' fk f c q Y b o I p N x cs bd h=>by
  show T.crB B' fk f c (pT f q Y b o I c) (ka c q) p
  rw [O.cr]
  exact ⟨q,Y,b,o,I,N,x,cs,bd,ϱ,ϱ,h⟩
 have a6:∀{f c:ã} {q:Str} {Y:Arguments} {b:Û} {o:Scope} {I:ö} (h:Ý),pT f q Y b o I c h->PySem.W.FnAt f h:=λh ⟨pm,ct,e⟩=>⟨_,_,_,_,e⟩
 intro n
 induction n with
 | zero =>
  refine ⟨λa hB fi d hd hi=>?_,λa hB fk f c φ ψ p h=>?_⟩
  .obtain ⟨x,C,st,fd,N,U,m,lm,F,FS,B,⟨bd,rfl,a3⟩,a4⟩:=O.fns fi d hd hi
   refine ⟨F.kp,fd,U,⟨λp H Q E ⟨ρ,D,A,Z,_,_,h,_⟩=>?_,λA i s H bt us p Q E _ _ _ _ ⟨ρ,D,j,Z,_,_,h,_⟩=>?_⟩,B⟩
   .rw [fZ] at h;exact h.elim
   .rw [fZ] at h;exact h.elim
  .rw [O.cr] at h
   obtain ⟨q,Y,b,o,I,N,x,cs,bd,rfl,rfl,L⟩:=h
   refine ⟨a6,λA i s H v u Q hr e0 hf hc r ⟨ρ,D,j,Z,_,_,h,_⟩=>?_⟩
   rw [fZ] at h;exact h.elim
 | succ n ih =>
  obtain ⟨iF,iC⟩:=ih
  refine ⟨λa hB fi d hd hi=>?_,λa hB fk f c φ ψ p h=>?_⟩
  .obtain ⟨x,C,st,fd,N,U,m,lm,F,FS,B,⟨bd,rfl,a3⟩,a4⟩:=O.fns fi d hd hi
   have c2:U.length<=N.length:=by have:=congrArg List.length FS.pre;rw [ű] at this;lia
   refine ⟨F.kp,fd,U,?_,B⟩
   rw [show 2*(n+1)=(2*n+1)+1 by lia]
   refine Fun.okC F FS (λp H Q E ⟨ρ,D,A,Z,_,rv,h,_⟩=>?_) λA i s H p Q E hr ⟨ρ,D,A1,Z,rl,rv,h,y⟩=>?_
   .rw [dg] at h
    obtain ⟨d',e,h⟩:=h.of
    rw [hd] at e;cases e
    rw [← rv.len];exact h.of.1
   .rw [dg] at h
    obtain ⟨d',e,h⟩:=h.of
    rw [hd] at e;cases e
    obtain ⟨hl,h⟩:=h.of
    have hl:D.length=U.length:=hl
    have hX:=ug (S:=⟨N,(au st).names,true,lm⟩) (X:=(pD CX0 P w K mg a N C (au st) (ad fi) fd.code A i s H E).nox) O iF iC rfl rfl rfl rfl hB rfl hr rfl FS.nd (λx q hq=>by
      show KOk q ((au st).names.lookup x)
      rw [show (au st).names.lookup x=some q from hq]
      exact mP q) (λ_=>⟨λ_=>rfl,λ_=>rfl,by
      show Env.blockKind _=_
      unfold Env.blockKind
      show (if (au st).kind.isAnnotationScope=true then ScopeKind.function else (au st).kind)=.function
      rw [FS.kind];rfl,PassesOwn.never⟩) (λfk tn q e=>⟨ϱ,a4 fk tn q e⟩)
    refine ⟨_,a3.elim (λz=>z▸gW (qZ rfl (aS n a) m _ hX) _) λz=>z _ _ _ _ hX,ρ,_,A1,_,?_,h,?_⟩
    .have:=mw (m:=N.length-U.length) rl rv
     unfold L2.start
     rw [← rv.len,hl]
     exact this
    .exact ⟨fun ρ' σ' j an H' e r q=>y ρ' .non .non j H' e r.rl rfl (nfr rfl) q,fun ρ' x v j H' e l r z q=>y ρ' x v j H' e l r z q,fun ρ' σ' j an H' e r q=>q.elim,fun ρ' σ' j an H' e r q=>q.elim⟩
  .have h0:=h
   rw [O.cr] at h
   obtain ⟨q,Y,b,o,I,N,x,cs,bd,rfl,rfl,L⟩:=h
   refine ⟨a6,λA i s H v u Q hr e0 hf hc r ⟨ρ,D,j,Z,rl,rv,h,y⟩=>?_⟩
   rw [dg] at h
   obtain ⟨d',e,h⟩:=h.of
   rw [L.hfd] at e;cases e
   obtain ⟨hl,h⟩:=h.of
   have a8:Room ((2*n+1)+1) A:=by rw [show 2*n+1+1=2*(n+1) by lia];exact hr
   refine v4 (N:=N) (x:=x) (fvs:=p) (cs:=cs) a8 e0 L.pin L.hsc L.len L.hcl L.hfv hf hc r (λpm ct=>w6 L.arg u pm ct) ⟨_,(L.snd _ _ _ _ (ug (S:=⟨N,o.names,false,none⟩) (X:=qY CX0 P w K mg a N q o f (.ref c) I A i s H E0) O iF iC rfl rfl rfl rfl hB rfl (a8.deeper _) rfl L.hsc.nd (λx q hq=>?_) (λz=>nomatch z) λ_ _ _ z=>nomatch z)).1,ρ,_,j,Z,?_,h,y⟩
   .show KOk q (o.names.lookup x)
    rw [show o.names.lookup x=some q from hq]
    exact mP q
   .have:=mw (m:=0) rl rv
    show Rs _ ρ (M.start N.length N.length D) j ((v::p).map some) H
    unfold M.start
    rw [ā]
    exact (by simpa using this:Rs {T with bs:=a} ρ (D.map some++List.replicate 0 none) j ((v::p).map some) H)
def Ed(hT:AR K mg T tb G ad)(n:Nat):xP P w K mg T tb ad n:=(Ee hT n).1
end
noncomputable def stN(s:Ü):Str:=by
 cases s with
 | FunctionDef n _ _ _ _ _ _ _ _ _=>exact n
 | ClassDef n _ _ _ _ _ _ _ _ _ _=>exact n
 | _=>exact ⟨#[]⟩
noncomputable def eN(x:Str):Nat:=und x.cps.toList
noncomputable def kjO:Nat->ñ->Ú (Nat×Nat)
 | _,[]=>[]
 | k,c::r=>(match c with
  | 0=>[]
  | 1=>[(k,0)]
  | m+2=>(List.range m).map λj=>(k,j+1))++kjO (k+1) r
structure Kl where
 n:Str
 ok:Bool
 me:Ú (Nat×Nat)
 fl:ñ
noncomputable def klF(n:Nat):Ú Kl->Option Kl
 | []=>none
 | k::r=>match eN k.n==n with
  | true=>some k
  | false=>klF n r
noncomputable def bsN(bs:ï):Nat:=(bs.head?.bind vN).elim 0 eN
noncomputable def klS(st:Ü)(own:Ú (Nat×Nat))(acc:Ú Kl):Kl:=by
 cases st with
 | ClassDef n bs _ _ _ _ _ _ _ fs _=>exact (klF (bsN bs) acc).elim ⟨n,bs.isEmpty,own,fs.map eN⟩ λk=>⟨n,k.ok,own++k.me.filter (λp=>(own.lookup p.1).isNone),fs.map eN++k.fl⟩
 | _=>exact ⟨⟨#[]⟩,false,[],[]⟩
noncomputable def klG(sB:Nat->Nat->Ü):Nat->Nat->Ú Kl->ñ->Ú Kl
 | _,_,acc,[]=>acc
 | k,i,acc,c::r=>match c with
  | 0=>klG sB (k+1) i acc r
  | 1=>klG sB (k+1) (i+1) acc r
  | m+2=>klG sB (k+1) (i+m) (acc++[klS (sB k 0) ((List.range m).map λj=>(eN (stN (sB k (j+1))),i+j)) acc]) r
noncomputable def klO(sB:Nat->Nat->Ü)(cnt:ñ):Ú Kl:=klG sB 0 0 [] cnt
noncomputable def csS(st:Ü):Option (Str×AV):=by
 cases st with
 | Assign ts e _=>exact (one ts).bind λt=>(vN t).bind λx=>(xY e).map λi=>(x,.int i)
 | _=>exact none
noncomputable def psS(st:Ü):ó:=(cD st).args.map λa=>a.arg
noncomputable def nsS(st:Ü):ó:=psS st++((au st).names.filterMap λy=>if y.2==.globalImplicit then none else some y.1).filter λx=>!(psS st).contains x
noncomputable def gnO(sB:Nat->Nat->Ü)(cnt:ñ)(g:Gn):Gn :=
 {g with
   fn:=(kjO 0 cnt).zipIdx.filterMap λp=>match p.1.2 with
    | 0=>some (stN (sB p.1.1 0),p.2)
    | _=>none
   cl:=(klO sB cnt).zipIdx.filterMap λp=>if p.1.ok then some (p.1.n,p.2) else none
   cs:=(List.range cnt.length).filterMap λk=>csS (sB k 0)}
noncomputable def fdO(g:Gn)(lm:Nat->Option (Nat×Nat×Str))(i:Nat)(st:Ü):Fd:=⟨(psS st).length,(nsS st).length,(aW st).map (wP g 60 ⟨nsS st,(au st).names,true,lm i⟩)⟩
noncomputable def HJ(sB:Nat->Nat->Ü)(cnt:ñ)(g:Gn)(lm:Nat->Option (Nat×Nat×Str)):Ú Fd:=(kjO 0 cnt).zipIdx.map λp=>fdO g lm p.2 (sB p.1.1 p.1.2)
section
noncomputable abbrev n4:Ú (Str×PyProof.Rows.KTD.Dat):=[(nm 211317490,.flat (.int 0)),(nm 232289005,.flat (.int 1)),(nm 3498214716515,.flat (.int 2))]
noncomputable abbrev nZ:Ú (Str×PyProof.Rows.KTD.Dat):=[(nm 213577972,.flat (.str (nm 8648))),(nm 232289005,.flat (.str (nm 8648))),(nm 1800947,.flat (.str (nm 1089736))),(nm 213759207,.flat (.str (nm 8648))),(nm 1651297,.flat (.str (nm 1417672))),(nm 243103344,.flat (.str (nm 86))),(nm 211383022,.flat (.str (nm 86)))]
noncomputable abbrev AU:Ú (Str×Str):=[(nm 211317490,nm 211317490),(nm 211317490,nm 232289005),(nm 232289005,nm 211317490)]
abbrev Zi(n:Int):Ex:=.c (.int n)
abbrev Zx(a:Nat)(n:Int):Ex:=.op .ix (.v a) (.c (.int n))
noncomputable abbrev Zs(n:Nat):Ex:=.c (.str (nm n))
abbrev Zf(a f:Nat):Ex:=.fld (.v a) f
abbrev Zm(a m:Nat)(es:Ú Ex):Ex:=.meth (.v a) none m es
noncomputable def lmS(i:Nat):Option (Nat×Nat×Str):=if i=73 then some (117,0,"Works.do_step.<locals>.<lambda>") else none
abbrev DT:=Ú (Str×PyProof.Rows.KTD.Dat)
noncomputable def cnt:ñ:=[1,0,0,0,7,3,3,3,1,0,2,2,2,2,3,0,13,0,0,0,0,0,0,0,0,0,1,1,1,9,0,0,0,8,4,5,5,7,6,7,5,5,1,1,1,1,0,18,0,7,0,14,0,1,1,1,1,1,1,1,1,1,1,1,1,1,1]
noncomputable def gn0(f:Nat->Str)(t3 t7:DT)(tp:Ú (Str×Str)):Gn:=gnO Q.sB cnt {fn:=[],cl:=[],cs:=[],kt:=[("RANKS",t3),("SHAPES",t7)],kp:=[("SHARING",tp)],cm:=[(("CellStep","__init__"),38)],sn:=f}
set_option cbv.maxSteps 100000000
set_option maxHeartbeats 0
set_option maxRecDepth 1000000
noncomputable def fdN(f:Nat->Str)(t3 t7:DT)(tp:Ú (Str×Str)):Ú Fd:=by
 refine (?g:∀s,(HJ Q.sB cnt (gn0 f t3 t7 tp) lmS).set 98 ⟨1,1,[(.ret (.sel 0 509274079392498 242825061))]⟩++[⟨3,3,[(.ret (Zm 2 65732096642724086 [(.v 1),(.v 0)]))]⟩]=s->_) ?s ?h
 case h=>cbv;rfl
 case g=>exact λs _=>s
end
section
set_option cbv.maxSteps 100000000
set_option maxHeartbeats 0
set_option maxRecDepth 1000000
noncomputable def klN:Ú (Ú (Nat×Nat)×Ú Nat×Option Nat):=by
 refine (?g:∀s,((klO Q.sB cnt).map λk=>(k.me,k.fl,if k.ok then k.me.lookup 53902074141372383 else none))=s->_) ?s ?h
 case h=>cbv;rfl
 case g=>exact λs _=>s
noncomputable def tb:Tb where
 fn i:=(fdN nm n4 nZ AU)[i]?
 isl i:=Nat.ble 117 i
 me c m:=klN[c]?.bind λl=>l.1.lookup m
 ini c:=klN[c]?.bind λl=>l.2.2
 fl c f:=(klN[c]?.elim [] λl=>l.2.1).contains f
end
end M
namespace M.Z57
open PySem PySem.Spec PySem.W
open PyProof.Rows hiding St
open L2
abbrev Rw:=Addr×Str×Ü
noncomputable def gz:Q.Go:=Q.gc 67 (Q.gH λ_=>0)
noncomputable def rws:Ú Rw:=gz.fs.map λp=>(p.1,p.2.1,Q.sB p.2.2.1 p.2.2.2)
noncomputable def ad(i:Nat):ã:=(rws[i]?.map (·.1)).getD 0
noncomputable def ca(c:Nat):ã:=gz.cs.getD c 0
noncomputable def gn:Gn:=gn0 nm n4 nZ AU
noncomputable def scS(i:Nat)(st:Ü):Sc:=⟨nsS st,(au st).names,true,lmS i⟩
end M.Z57
namespace M.Z57
open PySem PySem.Spec PySem.W
open PyProof.Rows hiding St
open L2
noncomputable def ckB(S:Sc)(sc:Scope):Bool:=(fy S sc ["p"]).elim false λu=>decide (u.2=[0])&&iI u.1 "p" 0&&iI u.1 "self" 1&&iI S "self" 0&&decide (dG u.1 "p"=some 0)
noncomputable def nmB(x:Str)(e:Û):Bool:=decide (vN e=some x)
def kM(h:nmB x e=true):∃p,e=.Name x p:=pX (Ξ h)
noncomputable def atB(f:Nat)(e:Û):Bool:=by
 cases e with
 | Attribute o g _=>exact nmB "self" o&&decide (g=nm f)
 | _=>exact false
def pN(h:atB f e=true):∃p q,e=.Attribute (.Name "self" p) (nm f) q:=by
 cases e<;>first | exact nt h | skip
 obtain ⟨a,b⟩:=ż.mp h
 obtain ⟨p,rfl⟩:=kM a
 exact ⟨p,_,by rw [Ξ b]⟩
noncomputable def elB(F:Nat)(e:Û):Bool:=by
 cases e with
 | Subscript a i _=>exact atB F a&&nmB "p" i
 | _=>exact false
noncomputable def cmB(G:Nat)(e:Û):Bool:=by
 cases e with
 | Compare l o r _=>exact (one r).elim false λr=>nmB "p" l&&decide (o=[.NotIn])&&atB G r
 | _=>exact false
noncomputable def lcB(F G:Nat)(S:Sc)(e:Û):Bool:=by
 cases e with
 | ListComp e gs sc _=>exact (one gs).elim false λg=>(one g.ifs).elim false λc=>decide (g.is_async=0)&&elB F e&&nmB "p" g.target&&atB F g.iter&&cmB G c&&ckB S sc
 | _=>exact false
noncomputable def reB(F G:Nat)(S:Sc)(s:Ü):Bool:=by
 cases s with
 | Return o _=>exact o.elim false (lcB F G S)
 | _=>exact false
noncomputable def Cq(F G:Nat)(S:Sc)(b:Ú Ü):Bool:=(one b).elim false (reB F G S)
def tQ{α:Type}{o:Option α}{f:α->Bool}(h:o.elim false f=true):∃a,o=some a/\f a=true:=by
 cases o with
 | none=>exact nt h
 | some a=>exact ⟨a,rfl,h⟩
def DH(h:elB F e=true):∃p q r s,e=.Subscript (.Attribute (.Name "self" p) (nm F) q) (.Name "p" r) s:=by
 cases e<;>first | exact nt h | skip
 obtain ⟨a,b⟩:=ż.mp h
 obtain ⟨p,q,rfl⟩:=pN a
 obtain ⟨r,rfl⟩:=kM b
 exact ⟨_,_,_,_,ϱ⟩
def DP{G:Nat}{e:Û}(h:cmB G e=true):∃p q r s,e=.Compare (.Name "p" p) [.NotIn] [.Attribute (.Name "self" q) (nm G) r] s:=by
 cases e<;>first | exact nt h | skip
 obtain ⟨r,c,h⟩:=tQ h
 obtain ⟨h,d⟩:=ż.mp h
 obtain ⟨a,b⟩:=ż.mp h
 obtain ⟨p,rfl⟩:=kM a
 obtain ⟨q,r,rfl⟩:=pN d
 exact ⟨p,q,r,_,by rw [Ξ b,a7 c]⟩
def su{F G:Nat}{S:Sc}{b:Ú Ü}(h:Cq F G S b=true):∃scope S' p1 p2 p3 p4 p5 p6 p7 p8 p9 p10 p11 pos q,b=[.Return (some (.ListComp (.Subscript (.Attribute (.Name "self" p1) (nm F) p2) (.Name "p" p3) p4) [⟨.Name "p" p5,.Attribute (.Name "self" p6) (nm F) p7,[.Compare (.Name "p" p8) [.NotIn] [.Attribute (.Name "self" p9) (nm G) p10] p11],0⟩] scope pos)) q] /\
  fy S scope ["p"]=some (S',[0])/\iI S "self" 0=true/\iI S' "p" 0=true/\iI S' "self" 1=true/\dG S' "p"=some 0:=by
 obtain ⟨s,j,h⟩:=tQ h
 cases s<;>first | exact nt h | skip
 obtain ⟨e,l,h⟩:=tQ (show (Option.elim _ false (lcB F G S))=true from h)
 cases e<;>first | exact nt h | skip
 obtain ⟨⟨t,i,d,m⟩,n,h⟩:=tQ h
 obtain ⟨c,o,h⟩:=tQ h
 simp only [Bool.and_eq_true,decide_eq_true_eq] at h
 obtain ⟨⟨⟨⟨⟨p,a⟩,t⟩,i⟩,c⟩,k⟩:=h
 obtain ⟨p1,p2,p3,p4,rfl⟩:=DH a
 obtain ⟨p5,rfl⟩:=kM t
 obtain ⟨p6,p7,rfl⟩:=pN i
 obtain ⟨p8,p9,p10,p11,rfl⟩:=DP c
 obtain ⟨⟨S',y⟩,e,k⟩:=tQ k
 simp only [Bool.and_eq_true,decide_eq_true_eq] at k
 obtain ⟨⟨⟨⟨r,u⟩,v⟩,w⟩,x⟩:=k
 exact ⟨_,S',p1,p2,p3,p4,p5,p6,p7,p8,p9,p10,p11,_,_,by rw [a7 j,l,a7 n,show d=_ from a7 o,p],by rw [e,r],w,u,v,x⟩
def uR(h:Cq F G S b=true)(j:XOk gn S X T R k):ASs X T b (bi R [.ret (.sel 0 F G)]):=by
 obtain ⟨_,_,_,_,_,_,_,_,_,_,_,_,_,_,_,rfl,e,a,c,d,i⟩:=su h
 exact rE (xh (Cp j e a c d i)) xi
noncomputable def sg:Ü:=(rws[98]?.map λr=>r.2.2).getD (.Pass ⟨0,0,0,0⟩)
def E2:Cq 509274079392498 242825061 (scS 98 sg) (aW sg)=true:=by kernel_rfl
def G3:tb.fn 98=some ⟨(psS sg).length,(nsS sg).length,[.ret (.sel 0 509274079392498 242825061)]⟩:=by kernel_rfl
noncomputable def C7(st:Ü):Bool:=decide ((au st).kind=.function)&&!(au st).isCoroutine&&!(au st).isGenerator&&decide (nsS st).Nodup&&decide ((nsS st).take (psS st).length=psS st)&&(psS st).all (λx=>decide ((au st).names.lookup x=some .local)||decide ((au st).names.lookup x=some .cell))&&(au st).names.all λy=>!decide (y.2=.free)
def zc{st:Ü}(h:C7 st=true):dv (nsS st) (psS st) (au st):=by
 simp only [C7,Bool.and_eq_true,decide_eq_true_eq,Bool.not_eq_true',List.all_eq_true,Bool.or_eq_true,decide_eq_false_iff_not] at h
 obtain ⟨⟨⟨⟨⟨⟨a,b⟩,c⟩,d⟩,e⟩,f⟩,g⟩:=h
 exact ⟨a,b,c,d,e,f,g⟩
def Cy:(rws.all λr=>C7 r.2.2)=true:=by kernel_rfl
def EL(us:õ):(List.range us.length).map (λi=>us[i]?.getD .none)=us:=by
 apply List.ext_getElem
 .simp
 .intro i h1 a
  simp [List.getElem?_eq_getElem a]
def jc:(rws.map λr (f:Nat->ß) (pm cdv:ß)=>bindArgs (fnOf (stN r.2.2) r.2.1 (cD r.2.2) (aW r.2.2) (au r.2.2) .none .none .none pm none cdv .none) ⟨(List.range (psS r.2.2).length).map f,[]⟩) =
  rws.map λr f pm cdv=>pure ((psS r.2.2).zip ((List.range (psS r.2.2).length).map f)):=by kernel_rfl
end M.Z57
namespace M.Z57
open PySem PySem.Spec PySem.W
open PyProof.Rows hiding St
open L2
section
variable (P:Params)
noncomputable def pmO:Option Obj->ß
 | some ⟨_,_,.func fd,_⟩=>fd.pyModule
 | _=>.none
noncomputable def fnO(o:Option Obj)(r:Rw):Option Obj:=some ⟨.type "function",none,.func (fnOf (stN r.2.2) r.2.1 (cD r.2.2) (aW r.2.2) (au r.2.2) .none .none .none (pmO o) none (.ref (r.1-1)) .none),#[]⟩
def Hy:rws.map (λr=>(Q.Kf P).lookup r.1)=rws.map λr=>fnO ((Q.Kf P).lookup r.1) r:=by kernel_rfl
def FP:(rws.all λr=>codeIn (Q.Kf P) (.ref (r.1-1)) r.2.1&&isFn (Q.Kf P) (.ref r.1)&&keepIn (Q.Kf P) (.ref r.1))=true:=by kernel_rfl
noncomputable def mAll:Ú (Nat×Nat×Nat):=klN.zipIdx.flatMap λp=>p.1.1.map λq=>(p.2,q.1,q.2)
noncomputable def gAll:Ú (Nat×Nat):=klN.zipIdx.flatMap λp=>p.1.2.1.map λq=>(p.2,q)
def Hs:mAll.map (λq=>findIn (Q.Kf P) (.ref (ca q.1)) (nm q.2.1))=mAll.map λq=>some (some (.ref (ad q.2.2))):=by kernel_rfl
def Hz:gAll.map (λq=>findIn (Q.Kf P) (.ref (ca q.1)) (nm q.2))=gAll.map λ_=>some none:=by kernel_rfl
def Hw:gn.fn.map (λq=>nsIn (Q.Kf P) mainGlobals q.1)=gn.fn.map λq=>some (some (.ref (ad q.2))):=by kernel_rfl
def Hx:gn.cl.map (λq=>nsIn (Q.Kf P) mainGlobals q.1)=gn.cl.map λq=>some (some (.ref (ca q.2))):=by kernel_rfl
def HC:gn.cl.map (λq=>(plainGet (Q.Kf P) (ca q.2) Str.empty,hasDictIn (Q.Kf P) (ca q.2),plainOver (Q.Kf P) (ca q.2),findIn (Q.Kf P) (.ref (ca q.2)) "__setattr__"))=gn.cl.map λ_=>(true,true,true,some (some (.builtin "object.__setattr__"))):=by kernel_rfl
noncomputable def iL:Ú (Nat×Nat):=(List.range 23).filterMap λc=>(tb.ini c).map λf=>(c,f)
def Hu:iL.map (λq=>(makesIn (Q.Kf P) (ca q.1),findIn (Q.Kf P) (.ref (ca q.1)) "__init__",isFn (Q.Kf P) (.ref (ad q.2)),keepIn (Q.Kf P) (.ref (ca q.1))))=iL.map λq=>(true,some (some (.ref (ad q.2))),true,true):=by kernel_rfl
def bts:ó:=da
def HD:bts.map (λx=>nsIn (Q.Kf P) mainGlobals x)=bts.map λ_=>some none:=by kernel_rfl
noncomputable def csO:Option (è)->Option Tok
 | some (some (.int _ t))=>some t
 | _=>none
noncomputable def csV(i:Int):Option Tok->Option (è)
 | some t=>some (some (.int i t))
 | none=>none
noncomputable def csL:Ú (Str×Int):=gn.cs.map λp=>(p.1,match p.2 with
 | .int i=>i
 | _=>0)
def Ga:gn.cs=csL.map λp=>(p.1,.int p.2):=by kernel_rfl
def HB:csL.map (λq=>nsIn (Q.Kf P) mainGlobals q.1)=csL.map λq=>csV q.2 (csO (nsIn (Q.Kf P) mainGlobals q.1)):=by kernel_rfl
def FO:(csL.map λq=>(csO (nsIn (Q.Kf P) mainGlobals q.1)).isSome)=csL.map λ_=>true:=by kernel_rfl
def Hk:PrK (Q.Kf P) 26 AU:=by
 have b:(Q.Kf P).lookup 26=some ⟨.type "tuple",none,.seq #[.ref 23,.ref 24,.ref 25] 0,#[]⟩:=by kernel_rfl
 have c:∀{a:ã} {x y:Str} {s t:Tok},(Q.Kf P).lookup a=some ⟨.type "tuple",none,.seq #[.str x s,.str y t] 0,#[]⟩->(cT2 gJ gJ).rp (Q.Kf P) (λ_=>none) (x,y) (.ref a):=λ{a x y s t} e=>⟨a,.str x,.str y,ϱ,.inr ⟨_,_,0,e,ϱ,ϱ,(by decide:2<=sizeLine),.cons ⟨s,ϱ⟩ (.cons ⟨t,ϱ⟩ .nil)⟩,ϱ,ϱ⟩
 exact ⟨[.ref 23,.ref 24,.ref 25],.inr ⟨_,_,0,b,ϱ,ϱ,ζ,.cons rfl (.cons rfl (.cons rfl .nil))⟩,
  .cons (c (s:=206) (t:=207) (by kernel_rfl)) (.cons (c (s:=208) (t:=209) (by kernel_rfl)) (.cons (c (s:=210) (t:=211) (by kernel_rfl)) .nil))⟩
def Hn:TabK (Q.Kf P) 22 n4:=(by kernel_rfl:KTD.tabLook zV (λb=>(Q.Kf P).lookup b) 22 n4=true)
def Hm:TabK (Q.Kf P) 369 nZ:=(by kernel_rfl:KTD.tabLook zV (λb=>(Q.Kf P).lookup b) 369 nZ=true)
def FM:[nsIn (Q.Kf P) mainGlobals "RANKS",nsIn (Q.Kf P) mainGlobals "SHAPES",nsIn (Q.Kf P) mainGlobals "SHARING",nsIn (Q.Kf P) mainGlobals "CellStep",nsIn (Q.Kf P) mainGlobals "law"]=[some (some (.ref 22)),some (some (.ref 369)),some (some (.ref 26)),some (some (.ref 449)),some (some (.ref 1096))]:=by kernel_rfl
def Ho:specialIn (Q.Kf P) (.ref 449) "__getattribute__"=some (some (.builtin "type.__getattribute__")):=by kernel_rfl
def Hq:readsIn (Q.Kf P) 449 (.type "type")=true:=by kernel_rfl
def HA:findCls (Q.Kf P) (.ref 449) (.type "type") "__init__"=some (.val (.ref (ad 38))):=by kernel_rfl
def Hv:handedIn (.ref (ad 38))=true:=by kernel_rfl
def Ht(t c:Ty):kitOne (Q.Kf P) (.type t.s) (.type c.s)=some (t.sub c):=by cases t<;>cases c<;>kernel_rfl
def Hr:noTabs (Q.Kf P)=true:=by kernel_rfl
def FN:codeHdIn (Q.Kf P) 775 771=true:=by kernel_rfl
end
end M.Z57
namespace M.Z57
open PySem PySem.Spec PySem.W
open PyProof.Rows hiding St
open L2
def cI{α β:Type}{l:Ú α}{f g:α->β}(e:l.map f=l.map g){a:α}(h:a∈l):f a=g a:=List.map_inj_left.mp e a h
theorem lkm{α β:Type} [BEq α] [LawfulBEq α]:∀{l:Ú (α×β)} {x:α} {y:β},l.lookup x=some y->(x,y)∈l
 | [],_,_,h=>nomatch h
 | (a,b)::l,x,y,h=>by
  rw [ė] at h
  split at h
  .rename_i e;cases h;rw [eq_of_beq e];exact Ω
  .exact Θ _ (lkm h)
def rng:((List.range 117).all λi=>(tb.fn i).isSome&&!tb.isl i&&(rws[i]?).isSome)=true:=by kernel_rfl
def kD(h:i<117):(∃d,tb.fn i=some d)/\tb.isl i=false/\∃r,rws[i]?=some r/\ad i=r.1:=by
 have:=ŗ.mp rng i (ę.mpr h)
 simp only [Bool.and_eq_true,Bool.not_eq_true'] at this
 obtain ⟨⟨a,b⟩,c⟩:=this
 obtain ⟨r,e⟩:=Ů.mp c
 exact ⟨Option.isSome_iff_exists.mp a,b,r,e,by unfold ad;rw [e];rfl⟩
def lts:(mAll.all (λq=>decide (q.2.2<117))&&gn.fn.all (λq=>decide (q.2<117))&&iL.all λq=>decide (q.2<117))=true:=by kernel_rfl
def HP:(rws.zipIdx.map λp=>if p.2=98 then none else tb.fn p.2)=rws.zipIdx.map λp=>if p.2=98 then none else some (fdO gn lmS p.2 p.1.2.2):=by kernel_rfl
def Hh:(rws[73]?.map λr=>(r.1,(r.2.1++".<locals>."++"<lambda>":Str)))=some (776,("Works.do_step.<locals>.<lambda>":Str)):=by kernel_rfl
section
variable {P:Params}{mg:û}
noncomputable def tab(P:Params)(bs:Ý):Tab:=⟨Q.Kf P,ca,BQ gn tb.fn,λ_=>771,bs⟩
def wr(h:i<117):isFn (Q.Kf P) (.ref (ad i))=true/\keepIn (Q.Kf P) (.ref (ad i))=true:=by
 obtain ⟨_,_,r,e,a⟩:=kD h
 have:=ŗ.mp (FP P) r (Ÿ e)
 simp only [Bool.and_eq_true] at this
 rw [a];exact ⟨this.1.2,this.2⟩
def qP(h:i<117):(∃d,tb.fn i=some d)/\tb.isl i=false:=⟨(kD h).1,(kD h).2.1⟩
def DB{i:Nat}{r:Rw}(e:rws[i]?=some r):∃fd,Fun (Q.Kf P) (stN r.2.2) r.2.1 r.2.2 r.1 fd/\Binds (Q.Kf P) fd (psS r.2.2) []/\fd.code=.ref (r.1-1):=by
 have a:=Ÿ e
 have b:=ŗ.mp (FP P) r a
 simp only [Bool.and_eq_true] at b
 have c:(Q.Kf P).lookup r.1=fnO ((Q.Kf P).lookup r.1) r:=cI (Hy P) a
 exact ⟨_,Dz c b.1.1 b.2,.all λus d=>by rw [← EL us,d];exact congrFun (congrFun (congrFun (cI jc a) _) _) _,ϱ⟩
def FQ(e:rws[i]?=some r):(r,i)∈rws.zipIdx:=Ď.mpr e
theorem DF{bs:Ý}{i:Nat}{d:Fd}(c:tb.fn i=some d)(l:tb.isl i=false):∃x qual st fd N ps m lm,Fun (Q.Kf P) x qual st (ad i) fd/\dv N ps (au st)/\Binds (Q.Kf P) fd ps []/\(∃bd,d=⟨ps.length,N.length,bd⟩/\(bd=(aW st).map (wP gn m ⟨N,(au st).names,true,lm⟩)\/∀(X:Cx) (T:Tab) (R:Rn) (k:Nat),XOk gn ⟨N,(au st).names,true,lm⟩ X T R k->ASs X T (aW st) (bi R bd))) /\
  ∀fk tn q,lm=some (fk,tn,q)->∃cc,fd.code=.ref cc/\codeHdIn (Q.Kf P) cc ((tab P bs).ta fk)=true/\(qual++".<locals>.")++"<lambda>"=q:=by
 have b:i<117:=by
  by_cases h:i<117
  .exact h
  .have:tb.isl i=true:=Nat.ble_eq_true_of_le (by lia)
   rw [this] at l;cases l
 obtain ⟨_,_,r,e,n⟩:=kD b
 obtain ⟨fd,F,B,o⟩:=DB (P:=P) e
 have S:=zc (ŗ.mp Cy r (Ÿ e))
 refine ⟨_,_,_,fd,_,_,60,lmS i,n▸F,S,B,?_,λfk tn q a=>?_⟩
 .by_cases h98:i=98
  .subst h98
   have j:sg=r.2.2:=by unfold sg;rw [e];rfl
   rw [G3] at c
   cases c
   rw [j]
   exact ⟨_,ϱ,.inr λX T R k u=>uR (j▸E2) u⟩
  .have h:=cI HP (FQ e)
   simp only [if_neg h98] at h
   rw [c] at h
   cases h
   exact ⟨_,ϱ,.inl rfl⟩
 .unfold lmS at a
  split at a
  .rename_i h73
   subst h73
   cases a
   have h:=Hh
   rw [e] at h
   obtain ⟨h1,p⟩:=Prod.mk.inj (Δ h)
   exact ⟨775,by rw [o,h1],FN P,p⟩
  .cases a
theorem EQ{h:Ý}(X:(Q.Kf P).In h)(G:h.Ns mainGlobals mg)(bs:Ý):AR (Q.Kf P) mg (tab P bs) tb gn ad:=by
 have F:=ż.mp lts
 have l2:=ż.mp F.1
 have v:=ŗ.mp l2.1
 have w:=ŗ.mp l2.2
 have y:=ŗ.mp F.2
 have I:=FM P
 simp only [List.cons.injEq,and_true] at I
 obtain ⟨K,L,N,O,_⟩:=I
 refine ⟨ϱ,ϱ,λi d U Y=>DF U Y,λx f j=>?_,λc m f j=>?_,λx c C=>?_,λc f j=>?_,λc f j=>?_,λx a Z=>?_,λx C=>?_,λx D hD=>?_,λx ps hp=>?_,λx m f j=>?_,Ht P,ϱ⟩
 .have b:=lkm j
  exact ⟨mg_of X G (cI (Hw P) b),qP (Ξ (w _ b))⟩
 .have b:(c,m,f)∈mAll:=by
   obtain ⟨l,h1,S⟩:=ų.mp (show (klN[c]?.bind λl=>l.1.lookup m)=some f from j)
   exact List.mem_flatMap.mpr ⟨(l,c),Ď.mpr h1,ϑ.mpr ⟨(m,f),lkm S,ϱ⟩⟩
  have lt:=Ξ (v _ b)
  exact ⟨⟨cI (Hs P) b,(wr (P:=P) lt).1,(wr (P:=P) lt).2⟩,qP lt⟩
 .have b:=lkm C
  have c:=cI (HC P) b
  simp only [Prod.mk.injEq] at c
  obtain ⟨n,o,r,u⟩:=c
  exact ⟨mg_of X G (cI (Hx P) b),n,o,r,u⟩
 .have b:(c,f)∈iL:=by
   refine List.mem_filterMap.mpr ⟨c,ę.mpr ?_,by rw [j];rfl⟩
   by_cases z:c<23
   .exact z
   .have:tb.ini c=none:=by
     show klN[c]?.bind _=none
     rw [Ħ (by rw [show klN.length=23 by kernel_rfl];lia)];rfl
    rw [this] at j;cases j
  have c:=cI (Hu P) b
  simp only [Prod.mk.injEq] at c
  obtain ⟨n,o,r,u⟩:=c
  exact ⟨⟨n,o,r,u⟩,qP (Ξ (y _ b))⟩
 .have b:(c,f)∈gAll:=by
   have j:(klN[c]?.elim [] λl=>l.2.1).contains f=true:=j
   cases e:klN[c]? with
   | none=>rw [e] at j;cases j
   | some l =>
    rw [e] at j
    exact List.mem_flatMap.mpr ⟨(l,c),List.mem_zipIdx_iff_getElem?.mpr e,List.mem_map.mpr ⟨f,by simpa using j,ϱ⟩⟩
  exact cI (Hz P) b
 .obtain ⟨p,b,e⟩:=ϑ.mp (Ga▸lkm Z)
  cases e
  have c:=cI (HB P) b
  cases ec:csO (nsIn (Q.Kf P) mainGlobals p.1) with
  | none =>
   have q:=cI (FO P) b
   simp only [ec] at q
   cases q
  | some t =>
   rw [ec] at c
   exact ⟨_,.int p.2,mg_of X G c,⟨t,ϱ⟩,ϱ,λB ρ H=>rfl⟩
 .exact mg_none_of X G (cI (HD P) C)
 .rcases ϕ.mp (lkm hD) with e | e
  .cases e;exact ⟨ϱ,22,mg_of X G K,Hn P⟩
  .rcases ϕ.mp e with e | e
   .cases e;exact ⟨ϱ,369,mg_of X G L,Hm P⟩
   .cases e
 .rcases ϕ.mp (lkm hp) with e | e
  .cases e;exact ⟨26,mg_of X G N,Hk P⟩
  .cases e
 .rcases ϕ.mp (lkm j) with e | e
  .cases e;exact ⟨449,mg_of X G O,⟨Ho P,Hq P,HA P,Hv,(wr ζ).2⟩,qP ζ⟩
  .cases e
end
end M.Z57
namespace M
open PySem PySem.Spec L2
open PyProof.Rows hiding St
section
def fz(h:ok (tb.fn f) λd=>nd (xs.length=d.np) (bi ⟨fnSp tb m,tb.me,tb.ini,tb.fl,tb.fn⟩ d.body (cC Q) (start d.np d.nl xs) A)):fnSp tb (m+1) f xs A Q:=by rw [dg];exact h
section
variable {A:AH}{n:Nm}
def ae(h:A n=some (.ins c fs xs))(e:lk fs xs f=some y):fX (.ref n) f A=some y:=by unfold fX;dsimp only;rw [h];exact e
def af(h:A n=some (.ins c fs xs)):fJ (.ref n) A=some (.c c fs):=by unfold fJ;dsimp only;rw [h]
def fI(h:A n=some (.lst xs)):fJ (.ref n) A=some (.b .list):=by unfold fJ;dsimp only;rw [h]
def aY(h:A n=some (.dT ks xs)):fJ (.ref n) A=some (.b .dict):=by unfold fJ;dsimp only;rw [h]
def u9(h:A n=some (.dK ks xs)):fJ (.ref n) A=some (.b .dict):=by unfold fJ;dsimp only;rw [h]
def am(h:A n=some (.lst xs)):listOf (.ref n) A=some xs:=by unfold listOf;dsimp only;rw [h]
def lK(h:A n=some (.dT ks xs)):bB (.ref n) A=some (.t ks xs):=by unfold bB;dsimp only;rw [h]
def qW(h:A n=some (.dK ks xs)):bB (.ref n) A=some (.k ks xs):=by unfold bB;dsimp only;rw [h]
def bG(h:A n=some (.lst xs))(e:ixA xs i=some y):ixV (.ref n) (.int i) A=some y:=by
 have a:bB (.ref n) A=none:=by unfold bB;dsimp only;rw [h]
 have:ixL (.ref n) (.int i) A=some y:=by unfold ixL;rw [a,am h];exact e
 exact this
def FR(h:A n=some (.dT ks xs))(e:(Dc.t ks xs).get x=some (some y)):ixV (.ref n) x A=some y:=by
 have:ixL (.ref n) x A=some y:=by unfold ixL;rw [lK h];dsimp only;rw [e];rfl
 exact this
def FT(h:A n=some (.dK ks xs))(e:(Dc.k ks xs).get x=some (some y)):ixV (.ref n) x A=some y:=by
 have:ixL (.ref n) x A=some y:=by unfold ixL;rw [qW h];dsimp only;rw [e];rfl
 exact this
def FV(h:A n=some (.dT ks xs))(e:(Dc.t ks xs).get x=some o):inV x (.ref n) A=some o.isSome:=by
 unfold inV;rw [lK h];dsimp only;rw [e];rfl
def FW(h:A n=some (.dK ks xs))(e:(Dc.k ks xs).get x=some o):inV x (.ref n) A=some o.isSome:=by
 unfold inV;rw [qW h];dsimp only;rw [e];rfl
def aH(h:A n=some (.ins c fs xs))(e:(tb.fl c f&&decide (fs.length<900))=true):jr tb.fl (.ref n) f y A=some (ac A n (.ins c (eJ fs f) (iw fs xs f y))):=by
 unfold jr;dsimp only;rw [h];exact if_pos e
def oz(h:A n=some (.lst xs))(a:i<xs.length):gD (.ref n) (.int i) y A=some (ac A n (.lst (xs.set i y))):=by
 unfold gD;dsimp only;rw [h];dsimp only;rw [show ixN xs.length (i:Int)=some i by unfold ixN;rw [if_pos (Int.natCast_nonneg i),if_pos (Int.ofNat_lt.mpr a)];rfl];rfl
def Cn(h:A n=some (.dT ks xs))(a:ks.Nodup/\ks.length<1000)(e:kj x=some k):gD (.ref n) x y A=some (ac A n (.dT (cb ks xs k y).1 (cb ks xs k y).2)):=by
 unfold gD;dsimp only;rw [h];refine (if_pos a).trans ?_;rw [e];rfl
def Co(h:A n=some (.dK ks xs))(a:ks.Nodup/\ks.length<1000)(e:toK x=some k):gD (.ref n) x y A=some (ac A n (.dK (cb ks xs k y).1 (cb ks xs k y).2)):=by
 unfold gD;dsimp only;rw [h];refine (if_pos a).trans ?_;rw [e];rfl
def dq(h:A n=some (.lst xs))(hz:xs.length<sizeLine):xk (.ref n) [y] A=some (ac A n (.lst (xs++[y]))):=by
 unfold xk;dsimp only;rw [h];exact if_pos hz
end
def aV{g:ATG}{tb:ATS}{a:AH->Prop}{D:AEnds}{xs:Ú AV}{σ:ASt}{A:AH}(P:Nat->ASt->AH->Prop)(h0:P 0 σ A)
  (step:∀i x σ A (K:ASt->AH->Prop),xs[i]?=some x->P i σ A->(∀σ A,P (i+1) σ A->K σ A)->a A/\gs (g x σ) fun σ1=>tb (D.lp K) σ1 A)
  (fin:∀σ A,P xs.length σ A->a A/\D.nx σ A):forL g tb a D xs σ A:=by
 have d:∀(m i:Nat) (σ:ASt) (A:AH),i+m=xs.length->P i σ A->forL g tb a D (xs.drop i) σ A:=by
  intro m
  induction m with
  | zero =>
   intro i σ A c h
   have e:i=xs.length:=c
   subst e
   rw [ă,iX]
   exact fin σ A h
  | succ m ih =>
   intro i σ A c h
   have b:i<xs.length:=by rw [← c];exact Nat.lt_add_of_pos_right (Nat.succ_pos m)
   rw [Ő b,jQ]
   exact step i _ σ A _ (ξ b) h fun σ A z=>ih (i+1) σ A ((Nat.succ_add_eq_add_succ i m).trans c) z
 exact d xs.length 0 σ A (Nat.zero_add _) h0
theorem aD{α:Type}{f:α->AV}{inv:AH->Prop}{Kf:Ú AV->AH->Prop}(c:α->Bool)(r:α->AV)(hi:inv A):∀(xs:Ú α) (ys:Ú AV)
  (step:∀x∈xs,∀K:Ú AV->AH->Prop,∀ys,(c x=true->K (ys++[r x]) A)->(c x=false->K ys A)->gs (g (f x) σ0) fun σ1=>tt σ1 A λb A2=>ifB b (te σ1 A2 λy A3=>st y A3 λy A4=>K (ys++[y]) A4) (K ys A2))
  (fin:Kf (ys++(xs.filter c).map r) A),compL g tt te inv σ0 Kf (xs.map f) ys A
 | [],ys,_,fin=>by rw [List.map_nil,gb];exact ⟨hi,by simpa using fin⟩
 | x::xs,ys,step,fin=>by
  rw [Ŵ,dR]
  refine ⟨hi,step x Ω (compL g tt te inv σ0 Kf (xs.map f)) ys (λh=>?_) (λh=>?_)⟩ <;>
   refine aD c r hi xs _ (λx hx=>step x (Θ _ hx)) ?_
  .rw [List.filter_cons_of_pos h] at fin;simpa using fin
  .rw [List.filter_cons_of_neg (by simp [h])] at fin;exact fin
def cZ(n:Nat):fH 0 n=(List.range n).map λi=>.int (i:Nat):=by
 unfold fH;simp
def ba{α:Type}{f:α->AV}{ps:Ú α}{j:Nat}{p:α}(h:ps[j]?=some p):ixA (ps.map f) (j:Nat)=some (f p):=by
 show (ps.map f)[j]?=_;rw [Ź,h];rfl
inductive Kd where
 | r | m | c
 deriving DecidableEq
noncomputable def Kd.id:Kd->Nat
 | .r=>1
 | .m=>2
 | .c=>3
structure Lk where
 k:Kd
 a:Int
 b:Int
 deriving DecidableEq
noncomputable def Lk.av(l:Lk):AV:=.obj l.k.id [31381566694,245166316] [.int l.a,.int l.b]
noncomputable def Kd.s:Kd->Str
 | .r=>nm 211317490
 | .m=>nm 232289005
 | .c=>nm 3498214716515
noncomputable def Kd.sh:Kd->Kd->Bool
 | .r,.r=>true
 | .r,.m=>true
 | .m,.r=>true
 | _,_=>false
noncomputable def Kd.rk:Kd->Int
 | .r=>0
 | .m=>1
 | .c=>2
noncomputable def bes(x y:Lk):Bool:=(decide (x.b<y.a)||decide (y.b<x.a))||x.k.sh y.k
noncomputable def cov(x y:Lk):Bool:=(decide (x.a<=y.a)&&decide (y.b<=x.b))&&decide (y.k.rk<=x.k.rk)
abbrev Lk.told(l:Lk):AV:=.tup [.str l.k.s,.int l.a,.int l.b]
variable {n:Nat}{A:AH}{Q:AQ}
def fb(k:Kd):tb.me k.id 211530987=some (5+k.id):=by cases k<;>rfl
def eZ(q:Q (.str k.s) A):fnSp tb (n+1) (5+k.id) [Lk.av ⟨k,a,b⟩] A Q:=by
 cases k<;>exact fz q
def Cl(k l:Kd):yN k.s l.s AU=k.sh l:=by cases k<;>cases l<;>decide
def Bb(k:Kd):tabI n4 (.str k.s)=some k.rk:=by cases k<;>decide
def t0(x y:Lk)(q:Q (.bl (bes x y)) A):fnSp tb (n+2) 3 [x.av,y.av] A Q:=by
 unfold bes at q
 refine fz (if2 (λh=>?_) (λh=>?_))<;>rw [h] at q
 .exact q
 refine if2 (λh=>?_) (λh=>?_)<;>rw [h] at q
 .exact q
 refine okI (fb x.k) (eZ ?_)
 refine okI (fb y.k) (eZ ?_)
 rw [← Cl] at q
 exact q
def tW(x y:Lk)(q:Q (.bl (cov x y)) A):fnSp tb (n+2) 4 [x.av,y.av] A Q:=by
 unfold cov at q
 refine fz (if2 (λh=>?_) (λh=>?_))<;>rw [h] at q
 .refine if2 (λh=>?_) (λh=>?_)<;>rw [h] at q
  .refine okI (fb x.k) (eZ (okI (Bb x.k) ?_))
   exact okI (fb y.k) (eZ (okI (Bb y.k) q))
  .exact q
 .exact q
def cX(x:Lk)(q:Q x.told A):fnSp tb (n+2) 5 [x.av] A Q:=fz (okI rfl (okI (fb x.k) (eZ q)))
end
section
variable {n:Nat}{A:AH}{Q:AQ}
abbrev P:=Int×Int
abbrev Pr:=P×Lk
abbrev nmA(p:P):AV:=.tup [.int p.1,.int p.2]
abbrev prA(p:Pr):AV:=.tup [nmA p.1,p.2.av]
abbrev eqQ(p q:P):Bool:=decide (p.1=q.1)&&(decide (p.2=q.2)&&true)
def cB(p q:P):eqQ p q=decide (p=q):=by
 rw [Bool.eq_iff_iff];simp [Prod.ext_iff]
noncomputable def bad(p q:Pr):Bool:=!decide (q.1=p.1)&&!bes q.2 p.2
noncomputable def hin(ps:Ú Pr)(i:Nat)(p:Pr):Option Nat:=(ps.take i).findIdx? (bad p)
noncomputable def oN:Option Nat->AV
 | some k=>.int k
 | none=>.non
structure LA(A:AH)(g pn:Int)(ps:Ú Pr):Prop where
 l:A (11,[g])=some (.ins 9 [31110885616] [.ref (15,[pn])])
 p:A (15,[pn])=some (.lst (ps.map prA))
 z:ps.length<1000
variable {g pn:Int}{ps:Ú Pr}
theorem lj(h:LA A g pn ps)(hp:ps[i]?=some p)(q:Q (oN (hin ps i p)) A):fnSp tb (n+3) 18 [.ref (11,[g]),.int i] A Q:=by
 have o:i<ps.length:=(ž.mp hp).1
 have L:=h.z
 refine fz (okI rfl (okI (ae h.l rfl) (okI (bG h.p (ba hp)) ⟨⟨by lia,by lia⟩,?_⟩)))
 refine aV (λj σ u=>u=A/\(∀(t:Nat) a,t<j->ps[t]?=some a->bad p a=false)/\∃k a,σ=[some (.ref (11,[g])),some (.int i),some (prA p),k,a]) ⟨ϱ,(λt a h=>nomatch h),none,none,ϱ⟩ (λj x σ u K v C G=>?_) (fun σ u C=>?_)
 .obtain ⟨rfl,r,k,a,rfl⟩:=C
  rw [cZ,Ź] at v
  obtain ⟨I,m,rfl⟩:=ſ.mp v
  obtain ⟨h1,d⟩:=ž.mp m
  rw [Ĩ] at d
  subst d
  have m:j<i:=by simpa using h1
  obtain ⟨b,y⟩:∃b,ps[j]?=some b:=⟨ps[j]'(Ş m o),ξ _⟩
  have F:bad p b=false->K [some (.ref (11,[g])),some (.int i),some (prA p),some (.int (j:Nat)),some (prA b)] u:=λH=>G _ _ ⟨ϱ,λt a w D=>by
   rcases Nat.lt_or_eq_of_le (Ĉ w) with e | rfl
   .exact r t a e D
   .rw [y] at D;cases D;exact H,_,_,ϱ⟩
  have e:=cB b.1 p.1
  refine ⟨trivial,okI (ae h.l rfl) (okI (bG h.p (ba y)) ?_)⟩
  refine if2 (c:=true ^^ eqQ b.1 p.1) (λh=>?_) (λh=>?_)<;>rw [e] at h
  .refine okI (x:=3) (by cases b.2.k<;>rfl) (t0 _ _ ?_)
   refine if2 (λd=>?_) (λd=>?_)
   .have:hin ps i p=some j:=List.findIdx?_eq_some_iff_getElem.mpr ⟨by rw [List.length_take,Nat.min_eq_left (Nat.le_of_lt o)];exact m,by rw [List.getElem_take,(List.getElem?_eq_some_iff.mp y).2];unfold bad;simp at h;simp [h,d],λt w=>by
     rw [List.getElem_take,r t _ w (ξ (Ş w (Ş m o)))];decide⟩
    rw [this] at q;exact q
   .exact F (by unfold bad;rw [d,Bool.and_false])
  .exact F (by unfold bad;simp at h;simp [h])
 .obtain ⟨rfl,r,k,a,rfl⟩:=C
  have:hin ps i p=none:=List.findIdx?_eq_none_iff.mpr λx v=>by
   obtain ⟨t,h1,d⟩:=Ŧ.mp v
   rw [ű,Nat.min_eq_left (ĕ o)] at h1
   rw [List.getElem_take] at d
   exact r t x (by rw [cZ];simpa using h1) (by rw [List.getElem?_eq_getElem (Nat.lt_trans h1 o),d])
  rw [this] at q
  exact ⟨trivial,q⟩
end
section
variable {n:Nat}{A:AH}{Q:AQ}{g pn:Int}{ps:Ú Pr}
noncomputable def hel(ps:Ú Pr)(x:Pr×Nat):Bool:=(hin ps x.2 x.1).isNone
noncomputable def aE(ps:Ú Pr):Ú Pr:=(ps.zipIdx.filter (hel ps)).map (·.1)
noncomputable def az(ps:Ú Pr):Ú Pr:=(ps.zipIdx.filter λx=>!hel ps x).map (·.1)
def kA(ps:Ú Pr):fH 0 ps.length=ps.zipIdx.map λx=>.int x.2:=by
 rw [cZ,show List.range ps.length=ps.zipIdx.map (·.2) by rw [List.zipIdx_map_snd,List.range_eq_range'],Ō];rfl
def ck(h:x∈ps.zipIdx):ps[x.2]?=some x.1:=by
 rw [Ď] at h;exact h
theorem kC(h:ps.length<1000):-(2 ^ 62)<=(ps.length:Int)/\(ps.length:Int)<2 ^ 62:=by lia
def isN(o:Option Nat):iQ (oN o)=o.isNone:=by cases o<;>rfl
def zf(o:Option Nat):Bl (oN o)=true:=by cases o<;>rfl
def szl(h:m<1000):m<=sizeLine:=Λ (ĕ h) ζ
def rZ(h:m<1000):m<sizeLine:=Ŷ h ζ
def wg(h:LA A g pn ps)(q:Q (.frl ((aE ps).map prA)) A):fnSp tb (n+4) 19 [.ref (11,[g])] A Q:=by
 refine fz (okI rfl (okI (ae h.l rfl) (okI (am h.p) ?_)))
 rw [ν]
 refine ⟨kC h.z,?_⟩
 rw [show ((ps.length:Int)).toNat=ps.length from rfl,kA]
 refine ndI (by rw [ν,ħ];exact szl h.z) ?_
 refine aD (f:=λx:Pr×Nat=>AV.int x.2) (hel ps) (λx=>prA x.1) trivial _ _ (λx a K c h1 b=>?_) (by rw [aE,Ō] at q;exact q)
 refine okI (af h.l) (okI rfl (lj h (ck a) (ndI (zf _) ?_)))
 rw [isN,Ŝ]
 exact if2 (λe=>okI (ae h.l rfl) (okI (bG h.p (ba (ck a))) (h1 e))) (λe=>b e)
def hU(h:LA A g pn ps)(q:Q (.frl ((az ps).map prA)) A):fnSp tb (n+4) 20 [.ref (11,[g])] A Q:=by
 refine fz (okI rfl (okI (ae h.l rfl) (okI (am h.p) ?_)))
 rw [ν]
 refine ⟨kC h.z,?_⟩
 rw [show ((ps.length:Int)).toNat=ps.length from rfl,kA]
 refine ndI (by rw [ν,ħ];exact szl h.z) ?_
 refine aD (f:=λx:Pr×Nat=>AV.int x.2) (λx=>!hel ps x) (λx=>prA x.1) trivial _ _ (λx a K c h1 b=>?_) (by rw [az,Ō] at q;exact q)
 refine okI (af h.l) (okI rfl (lj h (ck a) (ndI (zf _) ?_)))
 rw [isN,Ĝ]
 exact if2 (λe=>okI (ae h.l rfl) (okI (bG h.p (ba (ck a))) (h1 e))) (λe=>b e)
abbrev ptA(p:Pr):AV:=.tup [nmA p.1,p.2.told]
def x8(k:Kd):tb.me k.id 211498996=some 5:=by cases k<;>rfl
def A6{xs:Ú Pr}{A:AH}{Kf:Ú AV->AH->Prop}{R:Rn}(a:R.me=tb.me)(b:R.call=fnSp tb (n+2))(q:Kf (xs.map ptA) A):compL (gN 0) nX (ev R (.tup [(Zx 0 0),(.meth (Zx 0 1) none 211498996 [])])).e (λ_=>True) [none] Kf (xs.map prA) [] A:=by
 refine aD (f:=prA) (λ_=>true) ptA trivial xs [] (λx h K j h1 l=>?_) (by rw [Ť.mpr λ_ _=>rfl];exact q)
 obtain ⟨c,m,i,f,d⟩:=R
 cases a;cases b
 exact okI (x8 x.2.k) (cX x.2 (h1 rfl))
def qM(h:LA A g pn ps)(hz:(aE ps).length<1000)(q:Q (.frl ((aE ps).map ptA)) A):fnSp tb (n+5) 16 [.ref (11,[g])] A Q:=by
 refine fz (okI rfl (okI (af h.l) (okI rfl (wg h ?_))))
 exact ndI (by rw [ν];exact szl hz) (A6 (n:=n+2) rfl rfl q)
def oo(h:LA A g pn ps)(hz:(az ps).length<1000)(q:Q (.frl ((az ps).map ptA)) A):fnSp tb (n+5) 17 [.ref (11,[g])] A Q:=by
 refine fz (okI rfl (okI (af h.l) (okI rfl (hU h ?_))))
 exact ndI (by rw [ν];exact szl hz) (A6 (n:=n+2) rfl rfl q)
end
section
variable {n:Nat}{A:AH}{Q:AQ}{g pn:Int}{ps:Ú Pr}
def uS:ac A m o m=some o:=Ż rfl
def uN(h:m'≠m):ac A m o m'=A m':=Ž h
def Fr(A:AH)(c:Int):Prop:=A (24,[])=none/\∀k i l,c<=i->A (k,i::l)=none
def kN(hf:A (24,[])=none)(q:Q (Lk.av ⟨k,a,b⟩) A):∃m,A m=none/\fnSp tb (n+1) 1 [.ref m,.int a,.int b] (ac A m (.ins k.id [] [])) λv A2=>v=.non/\(Q (.ref m) A2\/∃fs ys,A2 m=some (.ins k.id fs ys)/\(∀m',m'≠m->A2 m'=A m')/\bP ys=true/\Q (.obj k.id fs ys) A) :=
 ⟨(24,[]),hf,fz (okI rfl (okI (aH uS (by cases k<;>rfl)) (okI (aH uS (by cases k<;>rfl)) ⟨ϱ,.inr ⟨_,_,uS,λm' h=>by rw [uN h,uN h,uN h],ϱ,q⟩⟩)))⟩
def jJ{l:Lk}(hf:A (24,[])=none)(q:Q l.av A):fnSp tb (n+2) 9 [l.told] A Q:=by
 obtain ⟨k,a,b⟩:=l
 cases k
 .exact fz (okI rfl (kN (k:=.r) hf q))
 .exact fz (okI rfl (kN (k:=.m) hf q))
 .exact fz (okI rfl (kN (k:=.c) hf q))
def zG{k:Int}{i:Nat}(ek:(i:Int)=k)(h:LA A g pn ps){p:Pr}(hp:ps[i]?=some p)(q:Q (oN (hin ps i p)) A):fnSp tb (n+3) 18 [.ref (11,[g]),.int k] A Q:=ek▸lj h hp q
noncomputable def wts(ps:Ú Pr)(p:P):Bool:=(az ps).any λx=>decide (x.1=p)
def vm(h:LA A g pn ps)(hw:wts ps p=false)(q:Q .non A):fnSp tb (n+4) 21 [.ref (11,[g]),nmA p] A Q:=by
 refine fz (okI rfl (okI (ae h.l rfl) (okI (am h.p) ?_)))
 rw [ν]
 refine ⟨kC h.z,?_⟩
 rw [show ((ps.length:Int)).toNat=ps.length from rfl,kA]
 refine aV (λj σ b=>b=A/\∃k,σ=[some (.ref (11,[g])),some (nmA p),k]) ⟨ϱ,none,ϱ⟩ (λj x σ b K i d m=>?_) (fun σ b d=>?_)
 .obtain ⟨rfl,k,rfl⟩:=d
  rw [Ź] at i
  obtain ⟨y,r,rfl⟩:=ſ.mp i
  have a:=Ÿ r
  refine ⟨trivial,okI (ae h.l rfl) (okI (bG h.p (ba (ck a))) ?_)⟩
  refine if2 (c:=false ^^ eqQ y.1.1 p) (λe=>?_) (λe=>m _ _ ⟨ϱ,_,ϱ⟩)
  rw [Ŝ,cB] at e
  refine okI (af h.l) (okI rfl (lj h (ck a) (ndI (zf _) ?_)))
  rw [isN,Ĝ]
  refine if2 (λo=>?_) (λo=>m _ _ ⟨ϱ,_,ϱ⟩)
  have:wts ps p=true:=Ţ.mpr ⟨y.1,ϑ.mpr ⟨y,ŵ.mpr ⟨a,o⟩,ϱ⟩,e⟩
  rw [hw] at this;cases this
 .obtain ⟨rfl,k,rfl⟩:=d
  exact ⟨trivial,q⟩
theorem bls{α:Type}(f:α->Bool):∀xs:Ú α,gx (xs.map λx=>.bl (f x))=some (xs.map f)
 | []=>rfl
 | x::xs=>by show (gx _).map _=_;rw [bls f xs];rfl
noncomputable def own(p:P)(l:Lk)(x:Pr):Bool:=decide (x.1=p)&&cov x.2 l
def DM(k:Kd):tb.me k.id 3982185314275=some 4:=by cases k<;>rfl
theorem D3(h:LA A g pn ps)(hw:wts ps p=false)(hz:ps.length<900)(b:ps.any (own p l)=true->Q (.bl true) A)
  (d:ps.any (own p l)=false->LA (ac A (15,[pn]) (.lst ((ps++[(p,l)]).map prA))) g pn (ps++[(p,l)])->Q (.bl (hin (ps++[(p,l)]) ps.length (p,l)).isNone) (ac A (15,[pn]) (.lst ((ps++[(p,l)]).map prA)))):fnSp tb (n+5) 12 [.ref (11,[g]),nmA p,l.av] A Q:=by
 refine fz (okI rfl (okI (af h.l) (okI rfl (vm h hw ?_))))
 refine okI (ae h.l rfl) (okI (am h.p) (ndI (by rw [ν];exact szl h.z) ?_))
 refine aD (f:=prA) (λ_=>true) (λx=>.bl (own p l x)) (am h.p) ps [] (λx j K m h1 _=>?_) ?_
 .have h1:=h1 rfl
  unfold own at h1
  refine if2 (c:=false ^^ eqQ x.1 p) (λe=>?_) (λe=>?_)<;>rw [Ŝ,cB] at e<;>rw [e] at h1
  .exact okI (DM x.2.k) (tW _ _ h1)
  .exact h1
 rw [ŋ,Ť.mpr λ_ _=>rfl]
 refine okI (bls (own p l) ps) ?_
 have e0:(ps.map (own p l)).any id=ps.any (own p l):=by rw [List.any_map];rfl
 refine if2 (λe=>b (e0.symm.trans e)) (λe=>?_)
 replace e:=e0.symm.trans e
 refine okI (ae h.l rfl) (okI (fI h.p) (okI rfl (okI rfl (okI ((dq h.p (by rw [ν];exact rZ h.z)).trans (congrArg (λz=>some (ac A (15,[pn]) (.lst z))) (ů (f:=prA) (l₁:=ps) (l₂:=[(p,l)])).symm)) ?_))))
 have a:LA (ac A (15,[pn]) (.lst ((ps++[(p,l)]).map prA))) g pn (ps++[(p,l)]):=⟨h.l,uS,by rw [ŷ];show ps.length+1<1000;lia⟩
 refine okI (af a.l) ?_
 refine okI (ae a.l rfl) ?_
 refine okI (am a.p) ?_
 rw [ν,ŷ]
 refine zG (i:=ps.length) (Int.add_sub_cancel _ 1).symm a (p:=(p,l)) (by rw [ť (ι _),ā];rfl) (ndI (zf _) ?_)
 rw [isN,Ŝ]
 exact d e a
noncomputable def frd(ps:Ú Pr)(p:P):Ú P:=((az ps).filter λx=>!decide (x.1=p)&&!((az (ps.filter λx=>!decide (x.1=p))).map (·.1)).any λy=>decide (y=x.1)).map (·.1)
theorem eT(p:P):∀xs:Ú P,cx (nmA p) (xs.map nmA)=some (xs.any λy=>decide (y=p))
 | []=>rfl
 | x::xs=>by
  show (match eqN 8 (nmA x) (nmA p),cx (nmA p) (xs.map nmA) with | some a,some b=>some (a||b) | _,_=>none)=_
  rw [eT p xs,show eqN 8 (nmA x) (nmA p)=some (eqQ x p) from rfl,cB];rfl
def zQ(h:LA A g pn ps)(hf:Fr A c)(hz:(az ps).length<1000)(j:(az (ps.filter λx=>!decide (x.1=p))).length<1000)
  (q:∀A',A'=ac (ac A (15,[c]) (.lst ((ps.filter λx=>!decide (x.1=p)).map prA))) (11,[g]) (.ins 9 [31110885616] [.ref (15,[c])])->LA A' g c (ps.filter λx=>!decide (x.1=p))->Q (.frl ((frd ps p).map nmA)) A'):fnSp tb (n+5) 13 [.ref (11,[g]),nmA p] A Q:=by
 refine fz (okI rfl (okI (af h.l) (okI rfl (hU h (.inl ?_)))))
 refine okI (ae h.l rfl) (okI (am h.p) (ndI (by rw [ν];exact szl h.z) ?_))
 refine aD (f:=prA) (λx=>!decide (x.1=p)) prA (am h.p) ps [] (λx m K r h1 a=>?_) ?_
 .exact if2 (c:=true ^^ eqQ x.1 p) (λe=>h1 (by rw [Ĝ,cB] at e;exact e)) (λe=>a (by rw [Ĝ,cB] at e;exact e))
 have b:A (15,[c])=none:=hf.2 _ _ _ (Ŗ _)
 have u:(ac A (15,[c]) (.lst ((ps.filter λx=>!decide (x.1=p)).map prA))) (11,[g])=some (.ins 9 [31110885616] [.ref (15,[pn])]):=h.l
 refine .inr ⟨(15,[c]),b,okI (aH u rfl) ?_⟩
 have d:LA (ac (ac A (15,[c]) (.lst ((ps.filter λx=>!decide (x.1=p)).map prA))) (11,[g]) (.ins 9 [31110885616] [.ref (15,[c])])) g c (ps.filter λx=>!decide (x.1=p)):=⟨uS,uS,ź (ŧ _ _) h.z⟩
 refine okI (af d.l) (okI rfl (hU d (ndI (by rw [ν];exact szl j) ?_)))
 refine aD (f:=prA) (λ_=>true) (λx=>nmA x.1) trivial _ [] (λx m K r h1 _=>h1 rfl) (.inl ?_)
 refine ndI (by rw [ν];exact szl hz) ?_
 refine aD (f:=prA) _ (λx=>nmA x.1) trivial (az ps) [] (λx m K r h1 a=>?_) (by have:=q _ rfl d;rw [frd,Ō] at this;exact this)
 refine if2 (c:=true ^^ eqQ x.1 p) (λe=>?_) (λe=>a ?_)<;>rw [Ĝ,cB] at e
 .refine okI (o:=cx _ _) (by rw [ŋ,Ť.mpr λ_ _=>rfl];exact (congrArg (cx (nmA x.1)) (Ō (f:=λx:Pr=>x.1) (g:=nmA)).symm).trans (eT x.1 _)) ?_
  rw [Ĝ]
  exact if2 (λi=>h1 (by rw [e,i];rfl)) (λi=>a (by rw [i,Bool.and_false]))
 .rw [e];rfl
end
end M
namespace Km
open PySem PySem.NumText PyProof.Rows
noncomputable def Bp(c:Nat):Bool:=decide (48<=c)&&decide (c<=57)
noncomputable def aK(m:Nat):ñ:=(Nat.toDigits 10 m).map Char.toNat
noncomputable def cH(n:Int):ñ:=if n<0 then 45::aK n.natAbs else aK n.natAbs
def cg(m:Nat):AllDigits (aK m):=by
 intro c b
 obtain ⟨d,a,e⟩:=ϑ.mp b
 have r:=digit_range (Nat.isDigit_of_mem_toDigits ζ ζ a)
 rw [← e]
 exact r
def dl(m:Nat):aK m≠[]:=by
 intro e
 have h:=toDigits_len_ge 10 m
 rw [List.map_eq_nil_iff.mp e] at h
 exact absurd h ζ
def i6(m:Nat):digitsVal (aK m)=m:=PySem.W.KIN.val_back m
theorem tR(m:Nat)(h:m≠0):∀c r,aK m=c::r->c≠48:=by
 induction m using Nat.strongRecOn with
 | _ m ih =>
  intro c r e
  by_cases hm:m<10
  .unfold aK at e
   rw [Nat.toDigits_of_lt_base hm] at e
   have b:(Nat.digitChar m).toNat=c:=by simpa using (List.cons.inj e).1
   have a:∀d:Nat,d<10->d≠0->(Nat.digitChar d).toNat≠48:=by decide
   rw [← b]
   exact a m hm h
  .have t:Nat.toDigits 10 (m/10)++Nat.toDigits 10 (m%10)=Nat.toDigits 10 (10*(m/10)+m%10):=Nat.toDigits_append_toDigits ζ (by lia) (Nat.mod_lt m ζ)
   rw [Nat.div_add_mod] at t
   have i:aK m=aK (m/10)++aK (m%10):=by unfold aK;rw [← t,List.map_append]
   cases q:aK (m/10) with
   | nil=>exact absurd q (dl _)
   | cons c' r' =>
    rw [i,q] at e
    have:c'=c:=(List.cons.inj e).1
    rw [← this]
    exact ih (m/10) (by lia) (by lia) c' r' q
theorem i7(e:1<=k)(h:m<10 ^ k):(aK m).length<=k:=by
 induction k generalizing m with
 | zero=>lia
 | succ k ih =>
  by_cases hm:m<10
  .unfold aK
   rw [Nat.toDigits_of_lt_base hm]
   simp
  .have a:1<=k:=by
    cases k with
    | zero=>exfalso;simp at h;lia
    | succ k=>lia
   have t:Nat.toDigits 10 (m/10)++Nat.toDigits 10 (m%10)=Nat.toDigits 10 (10*(m/10)+m%10):=Nat.toDigits_append_toDigits ζ (by lia) (Nat.mod_lt m ζ)
   rw [Nat.div_add_mod] at t
   have b:aK m=aK (m/10)++aK (m%10):=by unfold aK;rw [← t,List.map_append]
   have c:aK (m%10)=[(Nat.digitChar (m%10)).toNat]:=by unfold aK;rw [Nat.toDigits_of_lt_base (Nat.mod_lt m ζ)];rfl
   have d:m/10<10 ^ k:=by
    rw [Nat.pow_succ] at h
    exact Nat.div_lt_of_lt_mul (by rw [Nat.mul_comm];exact h)
   have:=ih a d
   rw [b,c,ŷ]
   simpa using this
theorem cn(n:Int):(Str.ofString (toString n)).cps.toList=cH n:=by
 cases n with
 | ofNat m =>
  unfold cH
  rw [Ž (show ¬Int.ofNat m<0 from Int.not_lt.mpr (Int.natCast_nonneg m))]
  exact PySem.W.KIN.signs_num m
 | negSucc m =>
  unfold cH
  rw [Ż (by lia)]
  have e:toString (Int.negSucc m)="-"++Nat.repr (m+1):=rfl
  rw [e,signs_ofString,String.toList_append,ů,Nat.toList_repr]
  rfl
end Km
namespace M
open PySem PySem.NumText Km
section
def ye{x y:Str}(h:x.cps.toList=y.cps.toList):x=y:=by
 obtain ⟨a⟩:=x
 obtain ⟨b⟩:=y
 rw [show a=b from Ă.mp h]
def eW(z:Str):z.length=z.cps.toList.length:=by simp [Str.length]
theorem hZ(z:Str)(c k:Nat):Txt.startswith3 z ⟨#[c]⟩ (k:Int)=decide (z.cps.toList[k]?=some c):=by
 have b:fromIndex z.length (k:Int)=k:=by unfold fromIndex;rw [if_neg (by lia)];lia
 unfold Txt.startswith3
 rw [b]
 have a:(({cps:=#[c]}:Str)).length=1:=rfl
 rw [a]
 by_cases h:k<z.length
 .have d:k<z.cps.size:=h
  have e:Builtin.Str.subAt z ⟨#[c]⟩ k=(z.cps[k]==c):=by
   unfold Builtin.Str.subAt
   rw [a]
   have j:z.cps.extract k (k+1)=#[z.cps[k]]:=by
    apply Array.ext
    .simp;lia
    .intro i h1 l
     have:i=0:=by simp at l;lia
     subst this
     simp
   rw [j]
   simp
  rw [e,τ (show k+1<=z.length from h),Bool.true_and,show z.cps.toList[k]?=some z.cps[k] by rw [Č];exact Array.getElem?_eq_getElem d]
  simp [Bool.beq_eq_decide_eq]
 .rw [Γ (show ¬k+1<=z.length from h),Bool.false_and,show z.cps.toList[k]?=none by rw [Č];exact Array.getElem?_eq_none (Nat.le_of_not_lt h)]
  simp
def yg(x y:Str):Txt.startswith x y=Txt.startswith3 x y ((0:Nat):Int):=by
 unfold Txt.startswith Txt.startswith3
 rw [show fromIndex x.length ((0:Nat):Int)=0 by unfold fromIndex;simp]
theorem si{z:Str}{pre a:ñ}(e:z.cps.toList=pre++a):Txt.slice z (some ((pre.length:Nat):Int)) (some (((pre.length+a.length:Nat)):Int))=⟨a.toArray⟩:=by
 have b:z.cps.toList.length=pre.length+a.length:=by rw [e];simp
 rw [eq_of_beq (PyProof.Rows.slice_closes (x:=z) (i:=((pre.length:Nat):Int)) (j:=((pre.length+a.length:Nat):Int)) ⟨by lia,by lia,by lia⟩)]
 refine ye ?_
 rw [show (((pre.length+a.length:Nat):Int)-((pre.length:Nat):Int)).toNat=a.length by lia,ń,e,List.drop_left,List.take_of_length_le (ι _)]
def x5:∀c:Nat,c<128->Unicode.isDigit c=Bp c:=by decide +kernel
theorem mS(h:48<=c/\c<=57):Txt.isdigit ⟨#[c]⟩=true:=by
 have e:Unicode.isDigit c=true:=by rw [x5 c (by lia)];unfold Bp;rw [decide_eq_true h.1,decide_eq_true h.2];rfl
 rw [← e]
 unfold Txt.isdigit
 simp [Str.length]
def BS{tc:ATT}{tb:ATS}{D:AEnds}{σ:ASt}{A:AH}(P:Nat->ASt->AH->Prop)(m:Nat)(h0:P 0 σ A)
  (step:∀i σ A (K:ASt->AH->Prop),i<=m->P i σ A->(i<m->∀σ A,P (i+1) σ A->K σ A)->tc σ A λb A1=>ifB b (tb (D.lp K) σ A1) (D.nx σ A1)):∃k,whN tc tb D k σ A:=by
 have c:∀(d i:Nat) (σ:ASt) (A:AH),i+d=m->P i σ A->whN tc tb D (d+1) σ A:=by
  intro d
  induction d with
  | zero =>
   intro i σ A a h
   rw [hJ]
   exact step i σ A _ (Nat.le_of_eq a) h (λz=>absurd a (Φ z))
  | succ d ih =>
   intro i σ A a h
   rw [hJ]
   exact step i σ A _ (by rw [← a];exact Nat.le_add_right _ _) h λ_ σ A z=>ih (i+1) σ A ((Nat.succ_add_eq_add_succ i d).trans a) z
 exact ⟨m+1,c m 0 σ A (Nat.zero_add _) h0⟩
def ny{a:AH->Prop}{Kf:Ú AV->AH->Prop}(P:Nat->Ú AV->AH->Prop)(h0:P 0 [] A)
  (step:∀i x ys A (K:Ú AV->AH->Prop),xs[i]?=some x->P i ys A->(∀ys A,P (i+1) ys A->K ys A)->a A/\gs (g x σ0) fun σ1=>tt σ1 A λb A2=>ifB b (te σ1 A2 λy A3=>st y A3 λy A4=>K (ys++[y]) A4) (K ys A2))
  (fin:∀ys A,P xs.length ys A->a A/\Kf ys A):compL g tt te a σ0 Kf xs [] A:=by
 have j:∀(m i:Nat) (ys:Ú AV) (A:AH),i+m=xs.length->P i ys A->compL g tt te a σ0 Kf (xs.drop i) ys A:=by
  intro m
  induction m with
  | zero =>
   intro i ys A d h
   have e:i=xs.length:=d
   subst e
   rw [ă,gb]
   exact fin ys A h
  | succ m ih =>
   intro i ys A d h
   have c:i<xs.length:=by rw [← d];exact Nat.lt_add_of_pos_right (Nat.succ_pos m)
   rw [Ő c,dR]
   exact step i _ ys A _ (ξ c) h λys A z=>ih (i+1) ys A ((Nat.succ_add_eq_add_succ i m).trans d) z
 exact j xs.length 0 [] A (Nat.zero_add _) h0
variable {n:Nat}{A:AH}{Q:AQ}
abbrev rdr(z:Str)(k:Nat):AO:=.ins 10 [245248756,27321202288] [.str z,.int (k:Nat)]
def uu:ac (ac A m o) m o'=ac A m o':=by
 funext k;unfold ac;by_cases h:k=m
 .rw [Ż h,Ż h]
 .rw [Ž h,Ž h,Ž h]
def us(h:A m=some o):ac A m o=A:=by
 funext k;unfold ac;by_cases e:k=m
 .rw [Ż e,e,h]
 .rw [Ž e]
def eO(h:A m=some (rdr z k))(d:z.cps.toList[k]?=some c->Q (.bl true) (ac A m (rdr z (k+1))))(j:z.cps.toList[k]?≠some c->Q (.bl false) A):fnSp tb (n+1) 26 [.ref m,.str ⟨#[c]⟩] A Q:=by
 refine fz (okI rfl (okI (ae h rfl) ?_))
 refine okI (x:=Rc.b .str) rfl (okI rfl (okI rfl ?_))
 refine okI (ae h rfl) ?_
 refine if2 (c:=!Txt.startswith3 z ⟨#[c]⟩ (k:Int)) (λe=>?_) (λe=>?_)<;>rw [hZ] at e
 .exact j (by simpa using e)
 .have a:fX (.ref m) 27321202288 A=some (.int (k:Nat)):=ae h rfl
  show (match fX (.ref m) 27321202288 A with | some (.int i)=>ok (jr tb.fl (.ref m) 27321202288 (.int (i+1)) A) _ | _=>False)
  rw [a]
  exact okI (aH h rfl) (d (by simpa using e))
theorem vR(N:i<10 ^ 40)(p:z.cps.toList=pre++aK i)(hz:z.length<1000)(h:A m=some (rdr z pre.length))(q:Q (.int (i:Nat)) (ac A m (rdr z (pre.length+(aK i).length)))):fnSp tb (n+1) 30 [.ref m] A Q:=by
 have w:=cg i
 have O:z.length=pre.length+(aK i).length:=by rw [eW,p,ŷ]
 have D:=i7 (k:=40) ζ N
 refine fz (okI rfl (okI (ae h rfl) ?_))
 refine BS (λj σ y=>σ=[some (.ref m),some (.int (pre.length:Nat)),none]/\y=ac A m (rdr z (pre.length+j))) (aK i).length ⟨ϱ,(us h).symm⟩ (λj σ y K S I L=>?_)
 obtain ⟨rfl,rfl⟩:=I
 have h1:ac A m (rdr z (pre.length+j)) m=some (rdr z (pre.length+j)):=uS
 refine okI (ae h1 rfl) (okI (ae h1 rfl) (ndI (szl hz) ?_))
 refine if2 (c:=decide (((pre.length+j:Nat):Int)<(z.length:Int))) (λe=>?_) (λe=>?_)
 .have b:j<(aK i).length:=by have:=Ξ e;lia
  obtain ⟨c,u⟩:∃c,(aK i)[j]?=some c:=⟨_,ξ b⟩
  have o:z.cps.toList[pre.length+j]?=some c:=by rw [p,ť (Nat.le_add_right _ _),Nat.add_sub_cancel_left,u]
  refine okI (ae h1 rfl) ?_
  refine okI (ae h1 rfl) ?_
  refine okI (x:=.str ⟨#[c]⟩) ?_ ?_
  .show (if z.length<=sizeLine then _ else none)=_
   rw [Ż (szl hz),L2.rC o];rfl
  refine ifT (mS (w c (Ÿ u))) ?_
  show (match fX (.ref m) 27321202288 _ with | some (.int i)=>ok (jr tb.fl (.ref m) 27321202288 (.int (i+1)) _) _ | _=>False)
  rw [show fX (.ref m) 27321202288 (ac A m (rdr z (pre.length+j)))=some (.int ((pre.length+j:Nat))) from ae h1 rfl]
  refine okI (aH h1 rfl) (L b _ _ ⟨ϱ,?_⟩)
  rw [uu];rfl
 .have F:j=(aK i).length:=by have:=of_decide_eq_false e;lia
  subst F
  refine okI (ae h1 rfl) ?_
  refine okI (ae h1 rfl) (ndI (szl hz) ?_)
  rw [si p]
  obtain ⟨c,r,l⟩:∃c r,aK i=c::r:=by cases e:aK i with | nil=>exact absurd e (dl i) | cons c r=>exact ⟨c,r,ϱ⟩
  have a:((⟨(aK i).toArray⟩:Str)).length=(aK i).length:=by simp [Str.length]
  refine ifF (c:=false ^^ decide ((⟨(aK i).toArray⟩:Str)=nm 0)) ?_ ?_
  .rw [Ŝ];exact Γ λz=>by rw [l] at z;cases z
  refine ndI (by rw [a];exact szl (by lia)) (ifF (Γ (by rw [a];lia)) ?_)
  have d:bi ⟨fnSp tb n,tb.me,tb.ini,tb.fl,tb.fn⟩ [(.ret (.blt .int (.v 2)))] (cC Q) [some (.ref m),some (.int (pre.length:Nat)),some (.str ⟨(aK i).toArray⟩)] (ac A m (rdr z (pre.length+(aK i).length))):=by
   refine ndI (by rw [a];lia) (okI (x:=(i:Int)) ?_ q)
   rw [PySem.intText_digits (x:=⟨(aK i).toArray⟩) w (dl i) (by rw [a];lia),i6]
  refine if2 (c:=Txt.startswith ⟨(aK i).toArray⟩ (nm 48)) (λC=>?_) (λ_=>d)
  refine ifF (c:=true ^^ decide ((⟨(aK i).toArray⟩:Str)=nm 48)) ?_ d
  rw [yg,show nm 48=⟨#[48]⟩ by decide,hZ,l] at C
  have G:c=48:=by simpa using C
  have H:i=0:=Classical.byContradiction λz=>tR i z c r l G
  subst H
  rfl
end
section
variable {n:Nat}{A A' A'':AH}{Q:AQ}{c c' c'':Int}
structure J(A:AH)(c:Int)(A':AH)(c':Int):Prop where
 le:c<=c'
 fr:Fr A' c'
 eq:∀m:Nm,m.1≠23->m.1≠18->A' m=A m
def J.refl(h:Fr A c):J A c A c:=⟨Ŗ _,h,λ_ _ _=>rfl⟩
def J.trans(a:J A c A' c')(b:J A' c' A'' c''):J A c A'' c'':=⟨Int.le_trans a.le b.le,b.fr,λm h h'=>(b.eq m h h').trans (a.eq m h h')⟩
def Fr.upd(h:Fr A c):Fr (ac A (k,c::l) o) (c+1) :=
 ⟨(uN (λz=>by cases z)).trans h.1,λk i l' hi=>(uN (λz=>by cases z;omega)).trans (h.2 k i l' ω)⟩
def J.new(h:Fr A c)(hk:k=23\/k=18):J A c (ac A (k,c::l) o) (c+1) :=
 ⟨ω,h.upd,λm h1 h2=>uN (λz=>by rw [z] at h1 h2;exact hk.elim h1 h2)⟩
abbrev iS(i:Int):Str:=Str.ofString (toString i)
abbrev i40(i:Int):Prop:=i.natAbs<10 ^ 40
def bY(h:i40 i):(iS i).length<=41:=by
 rw [eW,cn]
 unfold cH
 have:=i7 (k:=40) ζ h
 split
 .rw [Ũ];omega
 .omega
def Ec(a:i40 i)(h:A m=some (rdr (iS i) 0))(q:Q (.int i) (ac A m (rdr (iS i) (iS i).length))):fnSp tb (n+3) 27 [.ref m,.int 8] A Q:=by
 have e:=cn i
 have b:(iS i).length<1000:=ź (bY a) ζ
 obtain ⟨d,r,j,o⟩:∃d r,aK i.natAbs=d::r/\48<=d/\d<=57:=by
  have h:=cg i.natAbs
  cases e:aK i.natAbs with
  | nil=>exact absurd e (dl _)
  | cons d r=>rw [e] at h;exact ⟨d,r,rfl,h.head⟩
 rw [eW,e] at q
 unfold cH at e q
 by_cases hn:i<0
 .rw [Ż hn] at e q
  refine fz (okI rfl (okI (af h) (okI rfl (eO (c:=40) h (λz=>by rw [e] at z;cases z) λ_=>?_))))
  refine okI (af h) (okI rfl (eO (c:=45) h (λ_=>?_) λz=>absurd (by rw [e];rfl) z))
  refine okI (af uS) (okI rfl (fz (okI rfl (okI (af uS) (okI rfl (vR (pre:=[45]) a e b uS ?_))))))
  refine ifF (c:=false ^^ decide ((i.natAbs:Int)=0)) (by rw [Ŝ];exact Γ ω) ?_
  rw [uu]
  have l:Q (.int (-(i.natAbs:Int))) (ac A m (rdr (iS i) ([45].length+(aK i.natAbs).length))):=by
   rw [show (-(i.natAbs:Int))=i by omega,show [45].length+(aK i.natAbs).length=(45::aK i.natAbs).length from Nat.add_comm _ _]
   exact q
  exact l
 .rw [Ž hn] at e q
  have e0:(iS i).cps.toList[0]?=some d:=by rw [e,j];rfl
  refine fz (okI rfl (okI (af h) (okI rfl (eO (c:=40) h (λz=>by rw [e0] at z;cases z;omega) λ_=>?_))))
  refine okI (af h) (okI rfl (eO (c:=45) h (λz=>by rw [e0] at z;cases z;omega) λ_=>?_))
  refine okI (af h) (okI rfl (vR (pre:=[]) a e b h ?_))
  refine okI (af uS) (okI rfl (eO (c:=58) uS (λz=>?_) λ_=>?_))
  .rw [e,List.getElem?_eq_none (by simp)] at z;cases z
  .rw [show ((i.natAbs:Int))=i by omega,List.length_nil,Nat.zero_add]
   exact q
def Cm(a:d=45\/48<=d/\d<=57)(q:Q (.bl true) A):fnSp tb (n+1) 24 [.str ⟨#[d]⟩] A Q:=by
 refine fz (okI rfl (ifT (c:=decide ((32:Int)<=(d:Nat))) (τ ω) ?_))
 refine ifT (c:=decide ((d:Int)<=126)) (τ ω) ?_
 have e:(true ^^ decide ((d:Int)=37))=true:=by rw [Γ ω];rfl
 show Q (.bl (true ^^ decide ((d:Int)=37))) A
 rw [e];exact q
theorem nQ:∀(xs:ñ),gx (xs.map λ_=>.bl true)=some (xs.map λ_=>true)
 | []=>rfl
 | _::xs=>by show (gx _).map _=_;rw [nQ xs];rfl
def uA(j:i40 i)(hf:Fr A c)(q:∀A',J A c A' (c+1)->Q (.int i) A'):fnSp tb (n+4) 23 [.str (iS i)] A Q:=by
 have e:=cn i
 have b:(iS i).length<1000:=ź (bY j) ζ
 have h:A (23,[c])=none:=hf.2 _ _ _ (Ŗ _)
 refine fz (okI rfl (ndI rfl (ndI (szl b) ?_)))
 refine ifF (c:=decide ((100000:Int)<(iS i).length)) (Γ ω) ?_
 refine ndI (by rw [ν,← eW];exact szl b) ?_
 refine aD (f:=λd:Nat=>AV.str ⟨#[d]⟩) (λ_=>true) (λ_=>.bl true) trivial _ [] (λd a K l h1 _=>Cm ?_ (h1 rfl)) ?_
 .rw [e] at a
  unfold cH at a
  split at a
  .rcases ϕ.mp a with z | z
   .exact .inl z
   .exact .inr (cg _ d z)
  .exact .inr (cg _ d a)
 rw [ŋ,Ť.mpr λ_ _=>rfl]
 refine okI (nQ _) (ifF (by show (!(List.map (λ_=>true) _).all id)=false;simp) ?_)
 refine ⟨(23,[c]),h,fz (okI rfl (okI (aH uS rfl) (okI (aH uS rfl) ⟨ϱ,.inl ?_⟩)))⟩
 rw [uu,uu]
 refine okI (af uS) (okI rfl (Ec j uS ?_))
 rw [uu]
 refine okI (ae uS rfl) (ndI (szl b) (ifF (c:=true ^^ decide (((iS i).length:Int)=(iS i).length)) (by simp) ?_))
 exact q _ (J.new hf (.inl rfl))
def uJ(h:i40 i):(Txt.lstripChars (iS i) ⟨#[45]⟩).length<=40:=by
 have b:=i7 (k:=40) ζ h
 have a:(iS i).cps.size=(cH i).length:=(eW (iS i)).trans (congrArg List.length (cn i))
 unfold Txt.lstripChars
 rw [PyProof.Rows.stripBy_eq]
 generalize hL:stripLo ((⟨#[45]⟩:Str).cps.contains) true (iS i)=lo
 show ((iS i).cps.extract lo (iS i).length).size<=40
 rw [Array.size_extract]
 unfold cH at a
 by_cases hi:i<0
 .have h1:1<=lo:=by
   rw [← hL]
   show 1<=((iS i).cps.toList.takeWhile (λc=>(⟨#[45]⟩:Str).cps.contains c)).length
   rw [cn]
   unfold cH
   rw [Ż hi,List.takeWhile_cons,Ż θ]
   simp
  rw [Ż hi,Ũ] at a
  omega
 .rw [Ž hi] at a
  omega
def yE(a:i40 i)(h0:0<=i\/d=86)(hf:Fr A c)(q:∀A',J A c A' (c+1)->Q (.int i) A'):fnSp tb (n+5) 67 [.str (iS i),.str ⟨#[d]⟩] A Q:=by
 have b:(iS i).length<1000:=ź (bY a) ζ
 have h:=uJ a
 refine fz (okI rfl (uA a hf λA' j=>?_))
 refine fz (okI rfl (ndI rfl ?_))
 refine ndI (szl b) (ndI (szl (m:=(Txt.lstripChars (iS i) ⟨#[45]⟩).length) ω) ?_)
 refine ifF (c:=decide ((40:Int)<(Txt.lstripChars (iS i) ⟨#[45]⟩).length)) (Γ ω) ?_
 refine if2 (c:=decide (i<0)) (λe=>ifF (c:=true ^^ decide ((⟨#[d]⟩:Str)=nm 86)) ?_ (q A' j)) (λ_=>q A' j)
 have:=Ξ e
 rw [h0.resolve_left ω]
 decide
end
end M
namespace Km
open PySem PySem.NumText L2 PyProof.Rows
noncomputable def cJ(c:Nat):Ú (ñ)->ñ
 | []=>[]
 | [x]=>x
 | x::y::r=>x++c::cJ c (y::r)
theorem gr(c:Nat):∀ys:ó,(Str.join ⟨#[c]⟩ ys).cps.toList=cJ c (ys.map λy=>y.cps.toList)
 | []=>rfl
 | [y]=>rfl
 | y::u::ys=>by
  have ih:=gr c (u::ys)
  rw [join_cons_cons]
  show ((y.cps++#[c])++(Str.join ⟨#[c]⟩ (u::ys)).cps).toList=_
  rw [Array.toList_append,Array.toList_append,ih]
  simp [cJ]
def tU(i:c∉a)(d:c∉a')(e:a++c::b=a'++c::b'):a=a'/\b=b':=by
 induction a generalizing a' with
 | nil =>
  cases a' with
  | nil=>exact ⟨rfl,(List.cons.inj e).2⟩
  | cons x a'=>exact absurd (ϕ.mpr (.inl (List.cons.inj e).1)) d
 | cons x a ih =>
  cases a' with
  | nil=>exact absurd (ϕ.mpr (.inl (List.cons.inj e).1.symm)) i
  | cons y a' =>
   obtain ⟨j,l⟩:=List.cons.inj e
   obtain ⟨m,n⟩:=ih (λh=>i (Θ _ h)) (λh=>d (Θ _ h)) l
   exact ⟨by rw [j,m],n⟩
theorem jM:∀{xs ys:Ú (ñ)},xs≠[]->ys≠[]->(∀x∈xs,c∉x)->(∀y∈ys,c∉y)->cJ c xs=cJ c ys->xs=ys
 | [],_,h,_,_,_,_=>absurd rfl h
 | _::_,[],_,h,_,_,_=>absurd rfl h
 | [x],[y],_,_,_,_,e=>by rw [show x=y from e]
 | [x],y::u::ys,_,_,hx,_,e=>by
  have e':x=y++c::cJ c (u::ys):=e
  exact absurd (by rw [e'];simp) (hx x List.mem_cons_self)
 | x::u::xs,[y],_,_,_,hy,e=>by
  have e':x++c::cJ c (u::xs)=y:=e
  exact absurd (by rw [← e'];simp) (hy y List.mem_cons_self)
 | x::u::xs,y::v::ys,_,_,hx,hy,e=>by
  have e':x++c::cJ c (u::xs)=y++c::cJ c (v::ys):=e
  obtain ⟨e1,e2⟩:=tU (hx x Ω) (hy y Ω) e'
  rw [e1,jM (by simp) (by simp) (λz hz=>hx z (List.mem_cons_of_mem _ hz)) (λz hz=>hy z (List.mem_cons_of_mem _ hz)) e2]
def uM(m:z.cps.toList=cJ c ps)(h0:ps≠[])(hp:∀p∈ps,c∉p):Txt.split z ⟨#[c]⟩=ps.map λp=>(⟨p.toArray⟩:Str):=by
 have d:=gr c (Txt.split z ⟨#[c]⟩)
 rw [StrLaws.join_split,m] at d
 have h:(Txt.split z ⟨#[c]⟩).map (λy=>y.cps.toList)≠[]:=by
  intro e
  have:=split_pos z ⟨#[c]⟩
  rw [List.map_eq_nil_iff.mp e] at this
  exact absurd this ζ
 have i:=jM h0 h hp (λy l=>by
  obtain ⟨p,b,rfl⟩:=ϑ.mp l
  exact StrLaws.split_free z c p b) d
 rw [i,Ō]
 have j:((λp:ñ=>(⟨p.toArray⟩:Str))∘λy:Str=>y.cps.toList)=id:=by
  funext y
  obtain ⟨a⟩:=y
  simp
 rw [j,List.map_id]
end Km
namespace M
open PySem PySem.NumText Km
section
variable {n:Nat}{A A' A'':AH}{Q:AQ}{c c' c'':Int}
inductive Wd where
 | take | mean | sum | give | add
 deriving DecidableEq
structure Stp where
 w:Wd
 a:Int
 b:Int
noncomputable def Wd.s:Wd->Str
 | .take=>nm 213577972
 | .mean=>nm 232289005
 | .sum=>nm 1800947
 | .give=>nm 213759207
 | .add=>nm 1651297
def Wd.two:Wd->Bool
 | .sum=>true
 | .add=>true
 | _=>false
noncomputable def Wd.id:Wd->Nat
 | .take=>13
 | .mean=>14
 | .sum=>15
 | .give=>16
 | .add=>17
noncomputable def Wd.sh:Wd->Str
 | .sum=>nm 1089736
 | .add=>nm 1417672
 | _=>nm 8648
noncomputable def Stp.ns(s:Stp):ò:=if s.w.two then [4,s.a,s.b] else [4,s.a]
noncomputable def Stp.ws(s:Stp):ó:=s.w.s::s.ns.map iS
noncomputable def Stp.tx(s:Stp):Str:=let t:=s.w.s++nm 530976++iS s.a;if s.w.two then t++nm 32++iS s.b else t
structure Stp.Ok(s:Stp):Prop where
 a:0<=s.a/\s.a<8
 b:i40 s.b
 sm:s.w=.sum->s.a<=s.b/\s.b<8
noncomputable def Wd.fs:Wd->ñ
 | .sum=>[27352724599,1964012,219804904]
 | .add=>[27352724599,228274915,4015504750305]
 | _=>[27352724599,228274915]
noncomputable def Stp.av(s:Stp):AV:=.obj s.w.id s.w.fs (s.ns.map .int)
theorem C8(i:Int):32∉cH i:=by
 have b:∀m,32∉aK m:=λm a=>by have:=cg m 32 a;lia
 unfold cH
 split
 .exact λa=>(ϕ.mp a).elim (λe=>by cases e) (b _)
 .exact b _
def EN(s:Stp):s.tx.cps.toList=cJ 32 (s.ws.map λy=>y.cps.toList):=by
 obtain ⟨w,a,b⟩:=s
 have c:(iS 4).cps.toList=[52]:=by decide +kernel
 have d:(nm 530976).cps.toList=[32,52,32]:=by decide +kernel
 have e:(nm 32).cps.toList=[32]:=by decide +kernel
 have ap:∀x y:Str,(x++y).cps.toList=x.cps.toList++y.cps.toList:=λx y=>Array.toList_append
 unfold Stp.tx Stp.ws Stp.ns
 cases w<;>simp [Wd.two,cJ,ap,c,d,e]
def mi(s:Stp):Txt.split s.tx (nm 32)=s.ws:=by
 rw [show nm 32=⟨#[32]⟩ by decide,uM (EN s) (by unfold Stp.ws;simp) (λp hp=>?_)]
 .rw [List.map_map,show ((λp:ñ=>(⟨p.toArray⟩:Str))∘λy:Str=>y.cps.toList)=id from funext λ⟨a⟩=>by simp,List.map_id]
 .obtain ⟨y,hy,rfl⟩:=ϑ.mp hp
  rcases ϕ.mp hy with e | hy
  .rw [e];cases s.w<;>decide +kernel
  .obtain ⟨i,_,rfl⟩:=ϑ.mp hy
   rw [cn];exact C8 i
theorem ut{s:Stp}(h:s.Ok):s.tx.length<1000:=by
 have h1:i40 s.a:=by unfold i40;have:=h.a;lia
 have e:=bY h1
 have i:=bY h.b
 have j:s.w.s.length<=4:=by cases s.w<;>decide +kernel
 have ap:∀x y:Str,(x++y).length=x.length+y.length:=λx y=>Array.size_append
 have c:(nm 530976).length=3:=by decide +kernel
 have d:(nm 32).length=1:=by decide +kernel
 unfold Stp.tx
 dsimp only
 split<;>simp only [ap,c,d]<;>lia
def kO(hk:k=13\/k=14\/k=16)(hf:A (24,[])=none)(q:Q (.obj k [27352724599,228274915] [.int 4,.int a]) A):∃m,A m=none/\fnSp tb (n+1) 38 [.ref m,.int 4,.int a] (ac A m (.ins k [] [])) λv A2=>v=.non/\(Q (.ref m) A2\/∃fs ys,A2 m=some (.ins k fs ys)/\(∀m',m'≠m->A2 m'=A m')/\bP ys=true/\Q (.obj k fs ys) A) :=
 ⟨(24,[]),hf,fz (okI rfl (okI (aH uS (by rcases hk with rfl | rfl | rfl<;>rfl)) (okI (aH uS (by rcases hk with rfl | rfl | rfl<;>rfl)) ⟨rfl,.inr ⟨_,_,uS,λm' h=>by rw [uN h,uN h,uN h],rfl,q⟩⟩)))⟩
def Dd(hf:A (24,[])=none)(q:Q (.obj 15 [27352724599,1964012,219804904] [.int 4,.int a,.int b]) A):∃m,A m=none/\fnSp tb (n+1) 46 [.ref m,.int 4,.int a,.int b] (ac A m (.ins 15 [] [])) λv A2=>v=.non/\(Q (.ref m) A2\/∃fs ys,A2 m=some (.ins 15 fs ys)/\(∀m',m'≠m->A2 m'=A m')/\bP ys=true/\Q (.obj 15 fs ys) A) :=
 ⟨(24,[]),hf,fz (okI rfl ⟨ϱ,.inr ⟨_,_,uS,λm' h=>by rw [uN h,uN h,uN h,uN h],ϱ,q⟩⟩)⟩
def De(hf:A (24,[])=none)(q:Q (.obj 17 [27352724599,228274915,4015504750305] [.int 4,.int a,.int b]) A):∃m,A m=none/\fnSp tb (n+2) 55 [.ref m,.int 4,.int a,.int b] (ac A m (.ins 17 [] [])) λv A2=>v=.non/\(Q (.ref m) A2\/∃fs ys,A2 m=some (.ins 17 fs ys)/\(∀m',m'≠m->A2 m'=A m')/\bP ys=true/\Q (.obj 17 fs ys) A) :=
 ⟨(24,[]),hf,fz (okI rfl (fz (okI rfl ⟨ϱ,.inr ⟨_,_,uS,λm' h=>by rw [uN h,uN h,uN h,uN h],ϱ,q⟩⟩)))⟩
def zj{s:Stp}(h:s.Ok)(hf:A (24,[])=none)(q:Q s.av A):fnSp tb (n+3) 68 [.str s.w.s,.fzl (s.ns.map .int)] A Q:=by
 obtain ⟨w,a,b⟩:=s
 cases w
 .exact fz (okI rfl (kO (k:=13) (.inl rfl) hf q))
 .exact fz (okI rfl (kO (k:=14) (.inr (.inl rfl)) hf q))
 .exact fz (okI rfl (fz (okI rfl (ifF (c:=decide (b<a)) (Γ (Int.not_lt.mpr (h.sm rfl).1)) (okI rfl (Dd hf q))))))
 .exact fz (okI rfl (kO (k:=16) (.inr (.inr rfl)) hf q))
 .exact fz (okI rfl (De hf q))
def EZ(w:Wd):tabS nZ (.str w.s)=some w.sh:=by cases w<;>decide +kernel
theorem FF{s:Stp}(h:s.Ok)(i:Int)(c:i∈s.ns):i40 i:=by
 have h1:i40 s.a:=by unfold i40;have:=h.a;lia
 unfold Stp.ns at c
 split at c<;>simp only [List.mem_cons,List.mem_nil_iff,or_false] at c
 .rcases c with rfl | rfl | rfl
  .decide
  .exact h1
  .exact h.b
 .rcases c with rfl | rfl
  .decide
  .exact h1
def oy(s:Stp):s.w.sh.length=s.ns.length:=by
 obtain ⟨w,a,b⟩:=s
 cases w<;>rfl
theorem E1{s:Stp}(h:s.Ok){j:Nat}{i:Int}(c:s.ns[j]?=some i):∃d,s.w.sh.cps.toList[j]?=some d/\(0<=i\/d=86):=by
 obtain ⟨w,a,b⟩:=s
 obtain ⟨⟨l,_⟩,_,e⟩:=h
 dsimp only at l e
 cases w
 case sum =>
  have e:=e rfl
  rcases j with _ | _ | _ | j<;>simp [Stp.ns,Wd.two] at c<;>subst c<;>exact ⟨_,rfl,.inl (by lia)⟩
 case add=>rcases j with _ | _ | _ | j<;>simp [Stp.ns,Wd.two] at c<;>subst c<;>first | exact ⟨_,rfl,.inl (by lia)⟩ | exact ⟨86,rfl,.inr rfl⟩
 all_goals rcases j with _ | _ | j<;>simp [Stp.ns,Wd.two] at c<;>subst c<;>exact ⟨_,rfl,.inl (by lia)⟩
theorem mr{s:Stp}(h:s.Ok)(hf:Fr A c)(q:∀A' c',J A c A' c'->Q s.av A'):fnSp tb (n+6) 66 [.str s.tx] A Q:=by
 have z:=ut h
 refine fz (okI rfl (ndI rfl (ndI ⟨ϱ,by lia⟩ (Or.inl ?_))))
 rw [mi]
 refine okI (EZ s.w) ?_
 have h1:s.w.sh.length<1000:=by cases s.w<;>decide +kernel
 refine ndI (szl h1) ?_
 refine ifF (c:=true ^^ decide (((s.ws.map AV.str).length:Int)=(s.w.sh.length:Int)+1)) ?_ ?_
 .rw [oy];unfold Stp.ws;simp
 refine ndI (szl h1) ⟨⟨by lia,by lia⟩,?_⟩
 rw [oy,ń,cZ]
 refine ndI (by rw [ν,Ğ,← oy];exact szl h1) ?_
 refine ny (λi e A'=>e=(s.ns.take i).map .int/\∃c',J A c A' c') ⟨ϱ,c,.refl hf⟩ (λi x e A' K o l u=>?_) (λe A' l=>?_)
 .obtain ⟨rfl,c',j⟩:=l
  rw [Ź] at o
  obtain ⟨y,p,rfl⟩:=ſ.mp o
  obtain ⟨a,m⟩:=ž.mp p
  rw [Ĩ] at m
  subst m
  have a:i<s.ns.length:=by simpa using a
  have b:s.ns[i]?=some s.ns[i]:=ξ a
  obtain ⟨d,r,h0⟩:=E1 h b
  refine ⟨trivial,okI (x:=.str (iS s.ns[i])) ?_ ?_⟩
  .show (s.ws.map AV.str)[i+1]?=_
   unfold Stp.ws
   rw [Ŵ,List.getElem?_cons_succ,Ź,Ź,b];rfl
  refine okI (x:=.str ⟨#[d]⟩) ?_ ?_
  .show (if s.w.sh.length<=sizeLine then _ else none)=_
   rw [Ż (szl h1),L2.rC r];rfl
  refine yE (FF h _ (Ī a)) h0 j.fr λA'' v=>u _ _ ⟨?_,_,j.trans v⟩
  rw [ŏ,b,ů];rfl
 .obtain ⟨rfl,c',j⟩:=l
  rw [ν,Ğ,ő]
  refine ⟨trivial,Or.inl (zj h j.fr.1 (q _ _ j))⟩
end
section
variable {n:Nat}{A A' A'':AH}{Q:AQ}{c c' c'':Int}
noncomputable def Stp.lk(s:Stp):Lk:=match s.w with
 | .take=>⟨.r,s.a,s.a⟩
 | .mean=>⟨.m,s.a,s.a⟩
 | .sum=>⟨.r,s.a,s.b⟩
 | _=>⟨.c,s.a,s.a⟩
noncomputable def Wd.li:Wd->Nat
 | .take=>40
 | .mean=>43
 | .sum=>48
 | .give=>51
 | .add=>56
noncomputable def Wd.di:Wd->Nat
 | .take=>41
 | .mean=>44
 | .sum=>49
 | .give=>52
 | .add=>57
def FK(w:Wd):tb.me w.id 226031596=some w.li:=by cases w<;>rfl
def F6(w:Wd):tb.me w.id 7340233137581554291=some w.di:=by cases w<;>rfl
def Bq(w:Wd):w.fs.contains 226031596=false/\w.fs.contains 7340233137581554291=false:=by cases w<;>exact ⟨ϱ,ϱ⟩
def mkl{k:Kd}{a b:Int}{L:AH->Prop}{P:ñ->Ú AV->Prop}(q:P [31381566694,245166316] [.int a,.int b]):fnSp tb (n+1) 1 [.ref (24,[]),.int a,.int b] (ac A (24,[]) (.ins k.id [] [])) λv A2=>v=.non/\(L A2\/∃fs ys,A2 (24,[])=some (.ins k.id fs ys)/\(∀m',m'≠(24,[])->A2 m'=A m')/\bP ys=true/\P fs ys) :=
 fz (okI rfl (okI (aH uS (by cases k<;>rfl)) (okI (aH uS (by cases k<;>rfl)) ⟨ϱ,.inr ⟨_,_,uS,λm' h=>by rw [uN h,uN h,uN h],ϱ,q⟩⟩)))
def uO{s:Stp}(hf:A (24,[])=none)(q:Q s.lk.told A):fnSp tb (n+3) s.w.li [s.av] A Q:=by
 obtain ⟨w,a,b⟩:=s
 cases w
 .exact fz (okI rfl ⟨(24,[]),hf,mkl (k:=.r) (cX ⟨.r,a,a⟩ q)⟩)
 .exact fz (okI rfl ⟨(24,[]),hf,mkl (k:=.m) (cX ⟨.m,a,a⟩ q)⟩)
 .exact fz (okI rfl ⟨(24,[]),hf,mkl (k:=.r) (cX ⟨.r,a,b⟩ q)⟩)
 .exact fz (okI rfl ⟨(24,[]),hf,mkl (k:=.c) (cX ⟨.c,a,a⟩ q)⟩)
 .exact fz (okI rfl ⟨(24,[]),hf,mkl (k:=.c) (cX ⟨.c,a,a⟩ q)⟩)
noncomputable def Stp.done(s:Stp)(V:Int->Int)(h:Int):Int×Ú (Int×Int):=match s.w with
 | .take=>(V s.a,[])
 | .mean=>(V s.a,[])
 | .sum=>(((List.range (s.b+1-s.a).toNat).map λi=>V (s.a+(i:Nat))).sum,[])
 | .give=>(h,[(s.a,h)])
 | .add=>(h,[(s.a,V s.a+s.b)])
abbrev chA(l:Ú (Int×Int)):AV:=.tup (l.map λx=>.tup [.int x.1,.int x.2])
theorem v8{α:Type}(f:α->Int):∀xs:Ú α,fT (xs.map λx=>.int (f x))=some (xs.map f)
 | []=>rfl
 | x::xs=>by show (fT _).map _=_;rw [v8 f xs];rfl
theorem uT{s:Stp}{ys:Ú AV}{V:Int->Int}{h:Int}{m:Int}(I:s.Ok)(o:s.a<m/\(s.w=.sum->s.b<m))(hf:Fr A c)(p:∀(i:Int) (A':AH) (c':Int) (Q:AQ),J A c A' c'->0<=i->i<m->(∀A'' c'',J A c A'' c''->Q (.int (V i)) A'')->fnSp tb n 117 (.int i::ys) A' Q)
  (q:∀A' c',J A c A' c'->Q (.tup [.int (s.done V h).1,chA (s.done V h).2]) A'):fnSp tb (n+1) s.w.di [s.av,.int h,.clo 117 ys] A Q:=by
 obtain ⟨w,a,b⟩:=s
 obtain ⟨⟨l,C⟩,_,r⟩:=I
 dsimp only at l C r
 cases w
 .exact fz (okI rfl (p a _ _ _ (.refl hf) l o.1 q))
 .exact fz (okI rfl (p a _ _ _ (.refl hf) l o.1 q))
 .have r:=r rfl
  have N:b<m:=o.2 rfl
  have e:((b+1-a).toNat:Int)=b+1-a:=ŕ (by lia)
  refine fz (okI rfl ⟨(by dsimp only;lia),ndI ?_ ?_⟩)
  .show ((List.range (b+1-a).toNat).map _).length<=_
   rw [ν,Ğ];exact szl (by lia)
  refine ny (λi d A'=>d=((List.range i).map λi:Nat=>AV.int (V (a+(i:Nat))))/\∃c',J A c A' c') ⟨ϱ,c,.refl hf⟩ (λi x d A' K u v G=>?_) (λd A' v=>?_)
  .obtain ⟨rfl,c',j⟩:=v
   unfold fH at u
   rw [Ź] at u
   obtain ⟨L,D,rfl⟩:=ſ.mp u
   obtain ⟨y,z⟩:=ž.mp D
   rw [Ĩ] at z
   subst z
   have y:i<(b+1-a).toNat:=by simpa using y
   refine ⟨trivial,p (a+(i:Nat)) _ _ _ j (by lia) (by lia) λA'' c'' H=>G _ _ ⟨?_,_,H⟩⟩
   rw [List.range_succ,ů];rfl
  .obtain ⟨rfl,c',j⟩:=v
   refine ⟨trivial,?_⟩
   have F:(fH a (b+1-a).toNat).length=(b+1-a).toNat:=by simp [fH]
   rw [show (fH (⟨Wd.sum,a,b⟩:Stp).a ((⟨Wd.sum,a,b⟩:Stp).b+1-(⟨Wd.sum,a,b⟩:Stp).a).toNat).length=(b+1-a).toNat from F]
   exact okI (v8 _ _) (q _ _ j)
 .exact fz (okI rfl (q _ _ (.refl hf)))
 .exact fz (okI rfl (p a _ _ _ (.refl hf) l o.1 q))
end
section
variable {κ μ α:Type} [DecidableEq κ] [DecidableEq μ]
noncomputable def al:Ú (κ×α)->κ->Option α
 | [],_=>none
 | x::l,k=>if x.1=k then some x.2 else al l k
noncomputable def ap:Ú (κ×α)->κ->α->Ú (κ×α)
 | [],k,y=>[(k,y)]
 | x::l,k,y=>if x.1=k then (k,y)::l else x::ap l k y
noncomputable def ad(l:Ú (κ×α))(k:κ):Ú (κ×α):=l.filter λx=>!decide (x.1=k)
abbrev nds(l:Ú (κ×α)):Prop:=(l.map (·.1)).Nodup
variable {l:Ú (κ×α)}{k j:κ}{y z:α}
theorem al_ap:∀{l:Ú (κ×α)},al (ap l k y) j=if j=k then some y else al l j
 | []=>by
  unfold ap al al
  by_cases h:j=k
  .rw [Ż h,Ż h.symm]
  .rw [Ž h,Ž (Ne.symm h)]
 | x::l=>by
  unfold ap
  split
  .rename_i e
   unfold al
   by_cases h:j=k
   .rw [Ż h,Ż h.symm]
   .rw [Ž h,Ž (Ne.symm h),Ž (λz=>h (z.symm.trans e))]
  .rename_i e
   unfold al
   rw [al_ap]
   by_cases h:j=k
   .rw [Ż h,Ż h,Ž (λz=>e (z.trans h))]
   .rw [Ž h,Ž h]
def bx:al (ap l k y) k=some y:=al_ap.trans (Ż rfl)
def xp(h:j≠k):al (ap l k y) j=al l j:=al_ap.trans (Ž h)
theorem al_ad:∀{l:Ú (κ×α)},al (ad l k) j=if j=k then none else al l j
 | []=>by unfold ad al;simp
 | x::l=>by
  have ih:=al_ad (l:=l)
  unfold ad at ih ⊢
  by_cases e:x.1=k
  .rw [List.filter_cons_of_neg (by simp [e]),ih]
   by_cases h:j=k
   .rw [Ż h,Ż h]
   .rw [Ž h,Ž h]
    conv=>rhs;unfold al
    rw [Ž (λz=>h (z.symm.trans e))]
  .rw [List.filter_cons_of_pos (by simp [e])]
   unfold al
   rw [ih]
   by_cases h:j=k
   .rw [Ż h,Ż h,Ž (λz=>e (z.trans h))]
   .rw [Ž h,Ž h]
def rH(h:j≠k):al (ad l k) j=al l j:=al_ad.trans (Ž h)
theorem al_none:∀{l:Ú (κ×α)},al l k=none↔∀x∈l,x.1≠k
 | []=>by simp [al]
 | x::l=>by
  unfold al
  by_cases e:x.1=k
  .simp [e]
  .rw [if_neg e,al_none];simp [e]
theorem aX:∀{l:Ú (κ×α)},al l k=some y->(k,y)∈l
 | [],h=>by cases h
 | x::l,h=>by
  unfold al at h
  split at h
  .rename_i e;cases h;subst e;exact Ω
  .exact Θ _ (aX h)
theorem cT:∀{l:Ú (κ×α)} {x:κ×α},nds l->x∈l->al l x.1=some x.2
 | [],_,_,h=>nomatch h
 | w::l,x,n,h=>by
  obtain ⟨n1,n2⟩:=ŝ.mp n
  unfold al
  rcases ϕ.mp h with rfl | h
  .exact Ż rfl
  .rw [Ž (λe=>n1 (show w.1∈l.map (·.1) by rw [e];exact ł h))]
   exact cT n2 h
theorem dU:∀{l:Ú (κ×α)},al l k=none->ap l k y=l++[(k,y)]
 | [],_=>rfl
 | x::l,h=>by
  unfold al at h
  unfold ap
  split at h
  .cases h
  .rename_i e;rw [Ž e,dU h];rfl
def AJ(h:al l k=none):ad l k=l:=List.filter_eq_self.mpr λx hx=>by simpa using al_none.mp h x hx
theorem pP:∀{l:Ú (κ×α)} {x:κ×α},x∈ap l k y->x=(k,y)\/x∈l
 | [],x,h=>.inl (by simpa [ap] using h)
 | w::l,x,h=>by
  unfold ap at h
  split at h
  .exact (ϕ.mp h).imp id λh=>Θ _ h
  .rcases ϕ.mp h with h | h
   .exact .inr (h▸Ω)
   .exact (pP h).imp id λh=>Θ _ h
theorem gZ:∀{l:Ú (κ×α)},al l k≠none->(ap l k y).map (·.1)=l.map (·.1)
 | [],h=>(h rfl).elim
 | x::l,h=>by
  unfold al at h
  unfold ap
  split
  .rename_i e;subst e;rfl
  .rename_i e
   rw [Ž e] at h
   rw [Ŵ,gZ h];rfl
def bp(h:nds l):nds (ap l k y):=by
 unfold nds
 cases e:al l k with
 | none =>
  rw [dU e,ů]
  exact List.nodup_append.mpr ⟨h,by simp,λa d b i=>by
   obtain ⟨x,c,rfl⟩:=ϑ.mp d
   rw [show b=k by simpa using i]
   exact al_none.mp e x c⟩
 | some z=>rw [gZ (by rw [e];intro q;cases q)];exact h
def fM(h:nds l):nds (ad l k):=ĸ (ĩ _ (ı)) h
def bZ:(ad l k).length<=l.length:=ŧ _ _
theorem aL:(ap l k y).length<=l.length+1:=by
 cases e:al l k with
 | none=>rw [dU e];simp
 | some z =>
  have:=congrArg List.length (gZ (y:=y) (show al l k≠none by rw [e];intro q;cases q))
  rw [ν,ν] at this
  lia
variable {kf:κ->μ}{f:κ×α->AV}
theorem bF(hi:∀a b,kf a=kf b->a=b):∀(l:Ú (κ×α)),glk (l.map λx=>kf x.1) (l.map f) (kf k)=(al l k).map λy=>f (k,y)
 | []=>rfl
 | x::l=>by
  show (if kf x.1=kf k then _ else _)=_
  unfold al
  by_cases e:x.1=k
  .rw [Ż (congrArg kf e),Ż e,← e];rfl
  .rw [Ž (λz=>e (hi _ _ z)),Ž e];exact bF hi l
theorem gR(hi:∀a b,kf a=kf b->a=b):∀(l:Ú (κ×α)),cb (l.map λx=>kf x.1) (l.map f) (kf k) (f (k,y))=((ap l k y).map λx=>kf x.1,(ap l k y).map f)
 | []=>rfl
 | x::l=>by
  show (if kf x.1=kf k then _ else _)=_
  unfold ap
  by_cases e:x.1=k
  .rw [Ż (congrArg kf e),Ż e,← e];rfl
  .rw [Ž (λz=>e (hi _ _ z)),Ž e,gR hi l];rfl
theorem fg(hi:∀a b,kf a=kf b->a=b):∀(l:Ú (κ×α)),dF (l.map λx=>kf x.1) (l.map f) (kf k)=((ad l k).map λx=>kf x.1,(ad l k).map f)
 | []=>rfl
 | x::l=>by
  show (if kf x.1=kf k then _ else _)=_
  unfold ad
  by_cases e:x.1=k
  .rw [if_pos (congrArg kf e),List.filter_cons_of_neg (by simp [e])];exact fg hi l
  .rw [if_neg (λz=>e (hi _ _ z)),List.filter_cons_of_pos (by simp [e])];exact (congrArg (λr:Ú μ×Ú AV=>(kf x.1::r.1,f x::r.2)) (fg hi l))
def oP(c:∀a b,kf a=kf b->a=b)(h:nds l):(l.map λx=>kf x.1).Nodup:=by
 rw [show (l.map λx=>kf x.1)=(l.map (·.1)).map kf by rw [Ō];rfl]
 exact List.Pairwise.map kf (λa b h z=>h (c _ _ z)) h
end
noncomputable def kP(p:P):Ú L2.Key:=[.inl p.1,.inl p.2]
def bq(a b:P)(h:kP a=kP b):a=b:=by
 obtain ⟨c,d⟩:=a
 obtain ⟨e,i⟩:=b
 cases h;rfl
abbrev kI(i:Int):L2.Key:=.inl i
def fR(a b:Int)(h:kI a=kI b):a=b:=by cases h;rfl
noncomputable def dP{α:Type}(f:P×α->AV)(l:Ú (P×α)):AO:=.dT (l.map λx=>kP x.1) (l.map f)
noncomputable def dI(l:Ú (Int×Int)):AO:=.dK (l.map λx=>kI x.1) (l.map λx=>.int x.2)
section
variable {α:Type}{f:P×α->AV}{l:Ú (P×α)}{p:P}{y:α}{A:AH}{n:Nm}
def pAt(h:A n=some (dP f l))(e:al l p=some y):ixV (.ref n) (nmA p) A=some (f (p,y)):=by
 refine FR h ?_
 show (some (glk (l.map λx=>kP x.1) (l.map f) (kP p)))=_
 rw [bF bq,e];rfl
def bM(h:A n=some (dP f l))(p:P):inV (nmA p) (.ref n) A=some (al l p).isSome:=by
 refine (FV (o:=(al l p).map λy=>f (p,y)) h ?_).trans (by rw [ĉ])
 show (some (glk (l.map λx=>kP x.1) (l.map f) (kP p)))=_
 rw [bF bq]
def ju(h:A n=some (dP f l))(a:nds l)(hz:l.length<1000)(e:x=f (p,y)):gD (.ref n) (nmA p) x A=some (ac A n (dP f (ap l p y))):=by
 refine (Cn h ⟨oP bq a,by rw [ν];exact hz⟩ (k:=kP p) rfl).trans ?_
 rw [e,gR bq];rfl
def vM(h:A n=some (dP f l))(e:al l p=some y):sH (.ref n) [nmA p] A=some (f (p,y),ac A n (dP f (ad l p))):=by
 unfold sH;dsimp only;rw [h]
 show mD _ _ (kP p) _ _ _ _=_
 unfold mD
 rw [bF bq,e,fg bq];rfl
def qw(h:A n=some (dP f l)):sH (.ref n) [nmA p,d] A=some (((al l p).map λy=>f (p,y)).getD d,ac A n (dP f (ad l p))):=by
 unfold sH;dsimp only;rw [h]
 show mD _ _ (kP p) _ _ _ _=_
 unfold mD
 rw [bF bq,fg bq]
 cases e:al l p with
 | none=>rw [AJ e,us h];rfl
 | some y=>rfl
def qy(h:A n=some (dP f l))(p:P):bB (.ref n) A=some (.t (l.map λx=>kP x.1) (l.map f))/\(Dc.t (l.map λx=>kP x.1) (l.map f)).get (nmA p)=some ((al l p).map λy=>f (p,y)):=by
 refine ⟨lK h,?_⟩
 show (some (glk (l.map λx=>kP x.1) (l.map f) (kP p)))=_
 rw [bF bq]
def C0(h:A n=some (dP f l))(hz:l.length<1000)(e:al l p=some y):sj (.ref n) [nmA p,d] A=some (f (p,y),A):=by
 unfold sj;dsimp only;rw [h]
 refine (Ż (show (l.map _).length<1000 by rw [ν];exact hz)).trans ?_
 show (match glk _ _ (kP p) with | some y=>some (y,A) | none=>_)=_
 rw [bF bq,e];rfl
def oJ(h:A n=some (dP f l))(hz:l.length<1000)(e:al l p=none)(a:d=f (p,y)):sj (.ref n) [nmA p,d] A=some (d,ac A n (dP f (ap l p y))):=by
 unfold sj;dsimp only;rw [h]
 refine (Ż (show (l.map _).length<1000 by rw [ν];exact hz)).trans ?_
 show (match glk _ _ (kP p) with | some y=>some (y,A) | none=>_)=_
 rw [bF bq,e,dU e]
 show some (d,ac A n (.dT (l.map _++[kP p]) (l.map f++[d])))=_
 unfold dP
 rw [ů,ů,a];rfl
end
section
variable {l:Ú (Int×Int)}{i j:Int}{A:AH}{n:Nm}
def iAt(h:A n=some (dI l))(e:al l i=some j):ixV (.ref n) (.int i) A=some (.int j):=by
 refine FT h ?_
 show (some (glk (l.map λx=>kI x.1) (l.map _) (kI i)))=_
 rw [bF fR,e];rfl
def iIn(h:A n=some (dI l))(i:Int):inV (.int i) (.ref n) A=some (al l i).isSome:=by
 refine (FW (o:=(al l i).map λy=>.int y) h ?_).trans (by rw [ĉ])
 show (some (glk (l.map λx=>kI x.1) (l.map _) (kI i)))=_
 rw [bF fR]
def HH(h:A n=some (dI l))(a:nds l)(hz:l.length<1000):gD (.ref n) (.int i) (.int j) A=some (ac A n (dI (ap l i j))):=by
 refine (Co h ⟨oP fR a,by rw [ν];exact hz⟩ (k:=kI i) rfl).trans ?_
 rw [gR (f:=λx:Int×Int=>.int x.2) fR];rfl
end
section
variable {n:Nat}{A A' A'':AH}{Q:AQ}{c c':Int}
def Off(a b:Nat)(A A':AH):Prop:=∀k l,a<=k->k<=b->A' (k,l)=A (k,l)
def Off.rf:Off a b A A:=λ_ _ _ _=>rfl
def Off.tr(h:Off a b A A')(g:Off a b A' A''):Off a b A A'':=λk l h1 h2=>(g k l h1 h2).trans (h k l h1 h2)
theorem Off.up(h:Off a b A A')(hk:k<a\/b<k):Off a b A (ac A' (k,l) o):=λk' l' h1 h2=>(uN (λz=>by cases z;lia)).trans (h k' l' h1 h2)
def Off.cut(h:Off a b A A')(h1:a<=a')(h2:b'<=b):Off a' b' A A':=λk l g1 g2=>h k l (Λ h1 g1) (Λ g2 h2)
theorem J.off(j:J A c A' c')(h:b<18\/(18<a/\b<23)\/23<a):Off a b A A':=λk l h1 h2=>j.eq (k,l) (by show k≠23;lia) (by show k≠18;lia)
def Fr.put(h:Fr A c)(e:A m=some o'):Fr (ac A m o) c:=by
 refine ⟨(uN λz=>?_).trans h.1,λk i l a=>(uN λz=>?_).trans (h.2 k i l a)⟩
 .rw [← z,h.1] at e;cases e
 .rw [← z,h.2 k i l a] at e;cases e
def Fr.new(h:Fr A c):A (k,c::l)=none:=h.2 _ _ _ (Ŗ _)
abbrev u8:Str:=nm 32692007666
abbrev rdR(p:P)(x:Ú Lk×Ú (Int×Int)):AV:=.tup [.str u8,nmA p,.tup [.int 4],.tup (x.1.map λl=>l.told),chA x.2]
noncomputable def rdV(x:P×(Ú Lk×Ú (Int×Int))):AV:=rdR x.1 x.2
noncomputable def enV(x:P×Str):AV:=.str x.2
noncomputable def wkV(_:P×Unit):AV:=.bl true
structure Sx where
 cs:ò
 wk:Ú (P×Unit)
 rd:Ú (P×(Ú Lk×Ú (Int×Int)))
 en:Ú (P×Str)
structure StA(A:AH)(x:Sx):Prop where
 z:A (0,[])=some (.tb 117 ⟨384,59,384,94⟩ (nm 103278387406386645208409760902337871093659078042610437123892623319))
 s:A (1,[])=some (.ins 22 [31098352355,3981119714018,3463312095223,509274079392498,242825061,31096254711,31110822767] [.ref (2,[]),.ref (3,[]),.ref (4,[]),.ref (5,[]),.ref (6,[]),.ref (7,[]),.ref (8,[])])
 c:A (2,[])=some (.lst (x.cs.map .int))
 w:A (4,[])=some (dP wkV x.wk)
 r:A (5,[])=some (dP rdV x.rd)
 e:A (6,[])=some (dP enV x.en)
 nw:nds x.wk/\x.wk.length<900
 nr:nds x.rd/\x.rd.length<900
 ne:nds x.en/\x.en.length<63
 nc:x.cs.length<900
variable {x:Sx}{p:P}
theorem StA.off(h:StA A x)(e:Off 0 8 A A'):StA A' x :=
 have g:∀{k:Nat} {l:ò} {o:AO},k<=8->A (k,l)=some o->A' (k,l)=some o:=λhk q=>(e _ _ (ϖ _) hk).trans q
 ⟨g (by lia) h.z,g (by lia) h.s,g (by lia) h.c,g (by lia) h.w,g (by lia) h.r,g (by lia) h.e,h.nw,h.nr,h.ne,h.nc⟩
theorem StA.cell(h:StA A x)(e:cs.length=x.cs.length):StA (ac A (2,[]) (.lst (cs.map .int))) {x with cs:=cs} :=
 have g:∀{k:Nat} {l:ò} {o:AO},k≠2->A (k,l)=some o->(ac A (2,[]) (.lst (cs.map .int))) (k,l)=some o:=λhk q=>(uN λz=>hk (by cases z;rfl)).trans q
 ⟨g (by lia) h.z,g (by lia) h.s,uS,g (by lia) h.w,g (by lia) h.r,g (by lia) h.e,h.nw,h.nr,h.ne,by rw [e];exact h.nc⟩
theorem StA.wrk(h:StA A x)(hl:x.wk.length<899):StA (ac A (4,[]) (dP wkV (ap x.wk p ()))) {x with wk:=ap x.wk p ()} :=
 have g:∀{k:Nat} {l:ò} {o:AO},k≠4->A (k,l)=some o->(ac A (4,[]) (dP wkV (ap x.wk p ()))) (k,l)=some o:=λhk q=>(uN λz=>hk (by cases z;rfl)).trans q
 ⟨g (by lia) h.z,g (by lia) h.s,g (by lia) h.c,uS,g (by lia) h.r,g (by lia) h.e,⟨bp h.nw.1,ź aL (by lia)⟩,h.nr,h.ne,h.nc⟩
theorem StA.rdy(h:StA A x)(hl:x.rd.length<899):StA (ac A (5,[]) (dP rdV (ap x.rd p y))) {x with rd:=ap x.rd p y} :=
 have g:∀{k:Nat} {l:ò} {o:AO},k≠5->A (k,l)=some o->(ac A (5,[]) (dP rdV (ap x.rd p y))) (k,l)=some o:=λhk q=>(uN λz=>hk (by cases z;rfl)).trans q
 ⟨g (by lia) h.z,g (by lia) h.s,g (by lia) h.c,g (by lia) h.w,uS,g (by lia) h.e,h.nw,⟨bp h.nr.1,ź aL (by lia)⟩,h.ne,h.nc⟩
theorem StA.end_(h:StA A x)(hl:x.en.length<62):StA (ac A (6,[]) (dP enV (ap x.en p o))) {x with en:=ap x.en p o} :=
 have g:∀{k:Nat} {l:ò} {o':AO},k≠6->A (k,l)=some o'->(ac A (6,[]) (dP enV (ap x.en p o))) (k,l)=some o':=λhk q=>(uN λz=>hk (by cases z;rfl)).trans q
 ⟨g (by lia) h.z,g (by lia) h.s,g (by lia) h.c,g (by lia) h.w,g (by lia) h.r,uS,h.nw,h.nr,⟨bp h.ne.1,ź aL (by lia)⟩,h.nc⟩
noncomputable def bnd(x:Sx):Ú (P×(Ú Lk×Ú (Int×Int))):=x.rd.filter λr=>(al x.en r.1).isNone
theorem qh{α:Type}{f:P×α->AV}:∀(a rs:Ú (P×α)),nds a->(∀r∈rs,r∈a)->(rs.map λr=>kP r.1).filterMap (fG (a.map λr=>kP r.1) (a.map f) (es.map λr=>kP r.1) (es.map enV))=(rs.filter λr=>(al es r.1).isNone).map f
 | a,[],_,_=>rfl
 | a,r::rs,hn,hs=>by
  have ih:=qh (f:=f) (es:=es) a rs hn λr h=>hs r (Θ _ h)
  have e:fG (a.map λr=>kP r.1) (a.map f) (es.map λr=>kP r.1) (es.map enV) (kP r.1)=if (al es r.1).isNone then some (f r) else none:=by
   unfold fG
   rw [bF bq,bF bq,cT hn (hs r Ω)]
   cases al es r.1<;>rfl
  rw [Ŵ,List.filterMap_cons,e,ih]
  cases h:(al es r.1).isNone
  .rw [List.filter_cons_of_neg (by simp [h])];rfl
  .rw [List.filter_cons_of_pos (by simp [h])];rfl
def nJ(h:StA A x)(q:Q (.frl ((bnd x).map rdV)) A):fnSp tb (n+1) 98 [.ref (1,[])] A Q:=by
 refine fz ⟨.ref (1,[]),(5,[]),(6,[]),_,_,_,_,ϱ,ae h.s rfl,ae h.s rfl,(λz=>by cases z),h.r,h.e,?_⟩
 have:=qh (f:=rdV) (es:=x.en) x.rd x.rd h.nr.1 λ_ z=>z
 rw [this]
 exact q
def jY(h:StA A x){i:Nat}{v:Int}(hi:x.cs[i]?=some v)(q:Q (.int v) A):fnSp tb (n+1) 94 [.ref (1,[]),.int i] A Q :=
 fz (okI rfl (okI (ae h.s rfl) (okI (bG h.c (ba hi)) q)))
def wQ(h:StA A x)(q:Q (.frl (x.cs.map .int)) A):fnSp tb (n+1) 95 [.ref (1,[])] A Q :=
 fz (okI rfl (okI (ae h.s rfl) (okI (am h.c) q)))
abbrev bg(x:Sx):AV:=.tup ((L2.bh L2.ltE x.en).map eA)
theorem qB(h:StA A x)(q:Q (bg x) A):fnSp tb (n+1) 97 [.ref (1,[])] A Q:=by
 refine fz (okI rfl (okI (ae h.s rfl) ?_))
 dsimp only
 rw [h.e]
 exact ⟨x.en,ϱ,ϱ,by have:=h.ne.2;lia,okI rfl q⟩
end
section
variable {n:Nat}{A A' A'':AH}{Q:AQ}{c c':Int}{x:Sx}{p:P}
def DD{g:ATG}{tb:ATS}{inv:AH->Prop}{D:AEnds}{σ:ASt}(hi:inv A)(h:D.nx σ A):forL g tb inv D [] σ A:=by rw [iX];exact ⟨hi,h⟩
abbrev kx:Str:=nm 226277367
abbrev dH:Str:=nm 1652581
abbrev dB:Str:=nm 213628900
abbrev gj:Str:=nm 3806909430114
theorem tD(h:StA A x)(a:x.wk.length<899)(q:Q .non (ac A (4,[]) (dP wkV (ap x.wk p ())))):fnSp tb (n+2) 92 [.ref (1,[]),.tup [.str kx,nmA p]] A Q:=by
 refine fz (okI rfl (okI (af h.s) (okI rfl (fz (okI rfl (DD trivial ?_))))))
 exact okI (ae h.s rfl) (okI (ju h.w h.nw.1 (by lia) rfl) q)
theorem pc(h:StA A x)(a:x.rd.length<899){y:Ú Lk×Ú (Int×Int)}(q:Q .non (ac A (5,[]) (dP rdV (ap x.rd p y)))):fnSp tb (n+2) 92 [.ref (1,[]),rdR p y] A Q:=by
 refine fz (okI rfl (okI (af h.s) (okI rfl (fz (okI rfl (DD trivial ?_))))))
 exact okI (ae h.s rfl) (okI (ju h.r h.nr.1 (by lia) rfl) q)
theorem tF(h:StA A x)(b:x.en.length<62)(a:al x.en p=none)(q:Q .non (ac A (6,[]) (dP enV (ap x.en p gj)))):fnSp tb (n+2) 92 [.ref (1,[]),.tup [.str dH,nmA p,.str gj,.tup []]] A Q:=by
 refine fz (okI rfl (okI (af h.s) (okI rfl (fz (okI rfl (DD trivial ?_))))))
 refine okI (ae h.s rfl) (okI (aY h.e) (okI rfl (okI rfl ?_)))
 exact okI (oJ h.e (by have:=h.ne.2;lia) a rfl) q
noncomputable def aM(cs:ò)(ch:Ú (Int×Int)):ò:=ch.foldl (λcs y=>cs.set y.1.toNat y.2) cs
theorem setAll_len:∀{ch:Ú (Int×Int)} {cs:ò},(aM cs ch).length=cs.length
 | [],_=>rfl
 | y::ch,cs=>by show (aM (cs.set _ _) ch).length=_;rw [setAll_len,Ĳ]
theorem tE(h:StA A x)(v:x.en.length<62)(o:al x.en p=none)(l:al x.rd p=some y)(u:∀z∈y.2,0<=z.1/\z.1<x.cs.length)
  (q:Q .non (ac (ac A (2,[]) (.lst ((aM x.cs y.2).map .int))) (6,[]) (dP enV (ap x.en p dB)))):fnSp tb (n+2) 92 [.ref (1,[]),.tup [.str dH,nmA p,.str dB,.tup []]] A Q:=by
 refine fz (okI rfl (okI (af h.s) (okI rfl (fz (okI rfl (okI (ae h.s rfl) ?_))))))
 refine okI (bM h.r p) (ifT (by rw [l];rfl) (okI (ae h.s rfl) (okI (pAt h.r l) (okI rfl ?_))))
 refine aV (λj σ A'=>A'=ac A (2,[]) (.lst ((aM x.cs (y.2.take j)).map .int))/\∃k,σ=[some (.ref (1,[])),some (.tup [.str dH,nmA p,.str dB,.tup []]),k,none]) ⟨(us h.c).symm,none,ϱ⟩ (λj w σ A' K i b m=>?_) (fun σ A' b=>?_)
 .obtain ⟨rfl,k,rfl⟩:=b
  rw [Ź] at i
  obtain ⟨z,d,rfl⟩:=ſ.mp i
  obtain ⟨h0,h1⟩:=u z (Ÿ d)
  refine ⟨trivial,okI (ae ((uN λz=>by cases z).trans h.s) rfl) ?_⟩
  have e:z.1=(z.1.toNat:Int):=(ŕ h0).symm
  refine okI (x:=ac A (2,[]) (.lst ((aM x.cs (y.2.take (j+1))).map .int))) ?_ (m _ _ ⟨ϱ,_,ϱ⟩)
  rw [e,oz uS (by rw [ν,setAll_len];lia),uu,← List.map_set,ŏ,d]
  unfold aM
  rw [List.foldl_append];rfl
 .obtain ⟨rfl,k,rfl⟩:=b
  rw [ν,ő]
  have a:=h.cell (cs:=aM x.cs y.2) setAll_len
  refine ⟨trivial,okI (ae a.s rfl) (okI (aY a.e) (okI rfl (okI rfl ?_)))⟩
  exact okI (oJ a.e (by have:=a.ne.2;lia) o rfl) q
end
section
variable {n:Nat}{A A' A'':AH}{Q:AQ}{c c' k:Int}{x x':Sx}{p:P}
abbrev Lt:=Int×Str×P×Ú AV
abbrev ltA(y:Lt):AV:=.tup [.int y.1,.tup [.str y.2.1,nmA y.2.2.1,.tup y.2.2.2]]
abbrev ltN(x:Sx)(y:Lt):AV:=.tup [.int y.1,.tup [.str y.2.1,nmA y.2.2.1,.tup y.2.2.2,bg x]]
structure ShA(A:AH)(k:Int)(rows:Ú AV)(sent:Ú Lt)(lt:AV):Prop where
 s:A (20,[k])=some (.ins 21 [27075836531,243136498,245084915,4016813453548] [.ref (1,[]),.ref (21,[k]),.ref (22,[k]),lt])
 r:A (21,[k])=some (.lst rows)
 t:A (22,[k])=some (.lst (sent.map ltA))
 zr:rows.length<900
 zs:sent.length<900
variable {rows:Ú AV}{sent:Ú Lt}{lt:AV}
theorem ShA.off(h:ShA A k rows sent lt)(e:Off 20 22 A A'):ShA A' k rows sent lt :=
 ⟨(e _ _ (by lia) (by lia)).trans h.s,(e _ _ (by lia) (by lia)).trans h.r,(e _ _ (by lia) (by lia)).trans h.t,h.zr,h.zs⟩
theorem b7{K:Nm->AH->Prop}{d:ñ->Ú AV->Prop}(hf:Fr A c)(q:∀A',ShA A' c [] [] .non->Fr A' (c+1)->Off 0 19 A A'->Off 23 100 A A'->K (20,[c]) A'):∃m,A m=none/\fnSp tb (n+1) 86 [.ref m,.ref (1,[])] (ac A m (.ins 21 [] [])) λv A2=>v=.non/\(K m A2\/∃fs ys,A2 m=some (.ins 21 fs ys)/\(∀m',m'≠m->A2 m'=A m')/\bP ys=true/\d fs ys):=by
 have e0:∀{k:Nat} {l:ò} {k':Nat} {l':ò} {A:AH} {o:AO},k'≠k->ac A (k,l) o (k',l')=A (k',l'):=λh=>uN λz=>h (by cases z;rfl)
 refine ⟨(20,[c]),hf.new,fz (okI rfl (okI (aH uS rfl) (.inr ⟨(21,[c]),?_,okI (aH ((e0 (by lia)).trans uS) rfl) (.inr ⟨(22,[c]),?_,okI (aH ((e0 (by lia)).trans uS) rfl) (okI (aH uS rfl) ⟨ϱ,.inl (q _ ⟨uS,?_,?_,ζ,ζ⟩ ⟨?_,λk i l e=>?_⟩ (λk l h1 b=>?_) (λk l h1 b=>?_))⟩)⟩)⟩)))⟩
 .rw [e0 (by lia),e0 (by lia)];exact hf.new
 .rw [e0 (by lia),e0 (by lia),e0 (by lia),e0 (by lia)];exact hf.new
 .rw [e0 (by lia),e0 (by lia),e0 (by lia),e0 (by lia)];exact uS
 .rw [e0 (by lia),e0 (by lia)];exact uS
 .rw [e0 (by lia),e0 (by lia),e0 (by lia),e0 (by lia),e0 (by lia),e0 (by lia),e0 (by lia)];exact hf.1
 .have a:∀{k':Nat} {A:AH} {o:AO},ac A (k',[c]) o (k,i::l)=A (k,i::l):=uN λz=>by cases z;lia
  rw [a,a,a,a,a,a,a];exact hf.2 _ _ _ (by lia)
 .rw [e0 (by lia),e0 (by lia),e0 (by lia),e0 (by lia),e0 (by lia),e0 (by lia),e0 (by lia)]
 .rw [e0 (by lia),e0 (by lia),e0 (by lia),e0 (by lia),e0 (by lia),e0 (by lia),e0 (by lia)]
def jj(n:Nat)(row:AV)(A:AH)(x':Sx):Prop:=∀Q:AQ,(∀A',StA A' x'->Off 9 100 A A'->(∀c,Fr A c->Fr A' c)->Q .non A')->fnSp tb n 92 [.ref (1,[]),row] A Q
theorem o7(h:StA A x)(hl:x.wk.length<899):jj (n+2) (.tup [.str kx,nmA p]) A {x with wk:=ap x.wk p ()}:=λQ q=>tD h hl (q _ (h.wrk hl) (Off.rf.up (.inl (by lia))) λc f=>f.put h.w)
theorem mR(h:StA A x)(hl:x.rd.length<899):jj (n+2) (rdR p y) A {x with rd:=ap x.rd p y}:=λQ q=>pc h hl (q _ (h.rdy hl) (Off.rf.up (.inl (by lia))) λc f=>f.put h.r)
theorem o9(h:StA A x)(hl:x.en.length<62)(he:al x.en p=none):jj (n+2) (.tup [.str dH,nmA p,.str gj,.tup []]) A {x with en:=ap x.en p gj}:=λQ q=>tF h hl he (q _ (h.end_ hl) (Off.rf.up (.inl (by lia))) λc f=>f.put h.e)
theorem o8(h:StA A x)(hl:x.en.length<62)(he:al x.en p=none)(hr:al x.rd p=some y)(hy:∀z∈y.2,0<=z.1/\z.1<x.cs.length):jj (n+2) (.tup [.str dH,nmA p,.str dB,.tup []]) A {x with cs:=aM x.cs y.2,en:=ap x.en p dB}:=λQ q =>
 have h':=h.cell (cs:=aM x.cs y.2) setAll_len
 tE h hl he hr hy (q _ (h'.end_ hl) ((Off.rf.up (.inl (by lia))).up (.inl (by lia))) λc f=>(f.put h.c).put h'.e)
theorem oC(i:ShA A k rows sent lt)(h:StA A x)(p:jj (n+2) (.tup row) A x')(hz:rows.length<899)(q:∀A',StA A' x'->ShA A' k (rows++[.tup row]) sent (bg x')->Off 9 19 A A'->Off 23 100 A A'->(∀c,Fr A c->Fr A' c)->Q .non A'):fnSp tb (n+3) 87 [.ref (20,[k]),.tup row] A Q:=by
 have e0:∀{k:Nat} {l:ò} {k':Nat} {l':ò} {A:AH} {o:AO},k'≠k->ac A (k,l) o (k',l')=A (k',l'):=λh=>uN λz=>h (by cases z;rfl)
 refine fz (okI rfl (okI (ae i.s rfl) (okI (af h.s) (ndI rfl (okI rfl (p _ λj h1 e m=>?_))))))
 have a:ShA j k rows sent lt:=i.off (e.cut (by lia) (by lia))
 refine okI (ae a.s rfl) (okI (fI a.r) (okI rfl (okI rfl (okI (dq a.r (rZ (Ş a.zr ζ))) ?_))))
 have b:=(e0 (k':=20) (l':=[k]) (k:=21) (l:=[k]) (o:=.lst (rows++[.tup row])) (by lia)).trans a.s
 have d:StA (ac j (21,[k]) (.lst (rows++[.tup row]))) x':=h1.off (Off.rf.up (.inr (by lia)))
 refine okI (ae b rfl) (okI (af d.s) (okI rfl (qB d (okI (aH b rfl) ?_))))
 refine q _ (d.off (Off.rf.up (.inr (by lia)))) ⟨uS,?_,?_,?_,i.zs⟩ (((e.cut (by lia) (by lia)).up (.inr (by lia))).up (.inr (by lia))) (((e.cut (by lia) (by lia)).up (.inl (by lia))).up (.inl (by lia))) λc f=>((m c f).put a.r).put b
 .rw [e0 (by lia)];exact uS
 .rw [e0 (by lia),e0 (by lia)];exact a.t
 .rw [ŷ];show rows.length+1<900;lia
theorem ku(a:ShA A k rows sent lt)(hz:sent.length<899)(q:ShA (ac A (22,[k]) (.lst ((sent++[(to,w,p,m)]).map ltA))) k rows (sent++[(to,w,p,m)]) lt->Q .non (ac A (22,[k]) (.lst ((sent++[(to,w,p,m)]).map ltA)))):fnSp tb (n+1) 88 [.ref (20,[k]),.int to,.str w,nmA p,.tup m] A Q:=by
 have e0:∀{k:Nat} {l:ò} {k':Nat} {l':ò} {A:AH} {o:AO},k'≠k->ac A (k,l) o (k',l')=A (k',l'):=λh=>uN λz=>h (by cases z;rfl)
 refine fz (okI rfl (okI (ae a.s rfl) (okI (fI a.t) (okI rfl (okI rfl (okI ((dq (y:=ltA (to,w,p,m)) a.t (by rw [ν];exact rZ (Ş a.zs ζ))).trans (congrArg (λz=>some (ac A (22,[k]) (.lst z))) (ů (f:=ltA) (l₁:=sent) (l₂:=[(to,w,p,m)])).symm)) ?_))))))
 exact q ⟨(e0 (by lia)).trans a.s,(e0 (by lia)).trans a.r,uS,a.zr,by rw [ŷ];show sent.length+1<900;lia⟩
def yD(hs:ShA A k rows sent lt)(q:Q (.frl rows) A):fnSp tb (n+1) 89 [.ref (20,[k])] A Q:=fz (okI rfl (okI (ae hs.s rfl) (okI (am hs.r) q)))
def a9(a:ShA A k rows sent lt)(h:StA A x)(c:lt=.non\/lt=bg x)(q:Q (.frl (sent.map (ltN x))) A):fnSp tb (n+2) 90 [.ref (20,[k])] A Q:=by
 have b:bi ⟨fnSp tb (n+1),tb.me,tb.ini,tb.fl,tb.fn⟩ [(.ret (.comp (Zf 0 245084915) 1 false [0] [1] [] (.tup [(Zx 0 0),(.op .add (Zx 0 1) (.tup [(.v 1)]))])))] (cC Q) [some (.ref (20,[k])),some (bg x)] A:=by
  refine okI (ae a.s rfl) (okI (am a.t) (ndI (by rw [ν];exact szl (Ş a.zs ζ)) ?_))
  refine aD (f:=ltA) (λ_=>true) (ltN x) (am a.t) sent [] (λy d K e h1 _=>h1 rfl) ?_
  rw [ŋ,Ť.mpr λ_ _=>rfl]
  exact q
 refine fz (okI rfl (okI (ae a.s rfl) ?_))
 rcases c with rfl | rfl
 .exact okI (ae a.s rfl) (okI (af h.s) (okI rfl (qB h b)))
 .exact okI (ae a.s rfl) b
end
section
variable {n:Nat}{A A' A'':AH}{Q:AQ}{c c' k:Int}{x x':Sx}{p:P}
def gY{κ α:Type} [DecidableEq κ]{l:Ú (κ×α)}{k:κ}{y:α}{x:κ×α}(a:nds l)(h:x∈ap l k y):x=(k,y)\/(x∈l/\x.1≠k):=by
 by_cases e:x.1=k
 .have h1:=cT (bp (k:=k) (y:=y) a) h
  rw [e,bx] at h1
  cases h1
  exact .inl (by rw [← e])
 .exact .inr ⟨(pP h).resolve_left λz=>e (by rw [z]),e⟩
noncomputable def apL(l ch:Ú (Int×Int)):Ú (Int×Int):=ch.foldl (λl y=>ap l y.1 y.2) l
theorem eR:∀{ch l:Ú (Int×Int)},nds l->nds (apL l ch)
 | [],_,h=>h
 | y::ch,l,h=>eR (ch:=ch) (bp h)
theorem eX:∀{ch l:Ú (Int×Int)},(apL l ch).length<=l.length+ch.length
 | [],_=>ι _
 | y::ch,l=>by
  have h1:=aL (l:=l) (k:=y.1) (y:=y.2)
  have h2:=eX (ch:=ch) (l:=ap l y.1 y.2)
  rw [Ũ]
  exact Λ h2 (by lia)
theorem cA:∀(l2 l:Ú (Int×Int)),aO (l.map λx=>kI x.1) (l.map λx=>AV.int x.2) (l2.map λx=>kI x.1) (l2.map λx=>AV.int x.2)=((apL l l2).map (λx=>kI x.1),(apL l l2).map λx=>AV.int x.2)
 | [],l=>by unfold aO;rfl
 | y::l2,l=>by
  rw [Ŵ,Ŵ]
  unfold aO
  dsimp only
  rw [gR (f:=λx:Int×Int=>AV.int x.2) (y:=y.2) fR]
  exact cA l2 _
theorem HG{m m':Nm}{l l2:Ú (Int×Int)}(h:A m=some (dI l))(a:A m'=some (dI l2))(b:m≠m')(c:nds l)(hz:l.length<900)(d:l2.length<900):rT (.ref m) [.ref m'] A=some (ac A m (dI (apL l l2))):=by
 unfold rT;dsimp only;rw [h,a]
 refine (Ż ⟨b,oP fR c,by rw [ν,ν];exact Λ (by lia:l.length+l2.length<=1800) ζ⟩).trans ?_
 rw [cA];rfl
theorem eQ:∀ch:Ú (Int×Int),c9 (ch.map λx=>AV.tup [.int x.1,.int x.2])=some (ch.map (λx=>kI x.1),ch.map λx=>AV.int x.2)
 | []=>rfl
 | y::ch=>by
  rw [Ŵ]
  unfold c9
  rw [eQ ch];rfl
noncomputable def drV(x:P×(Int×Ú (Int×Int))):AV:=.ref (16,[x.2.1,x.1.1,x.1.2])
noncomputable def anV(x:P×(Int×Ú (Int×Int))):AV:=.ref (17,[x.2.1,x.1.1,x.1.2])
noncomputable def peT(x:Int×Int×Stp):AV:=.tup [.int x.1,.int x.2.1,.str x.2.2.tx]
noncomputable def peV(x:P×(Int×Int×Stp)):AV:=peT x.2
structure Wk where
 g:Int
 pn:Int
 ps:Ú Pr
 dr:Ú (P×(Int×Ú (Int×Int)))
 an:Ú (P×(Int×Ú (Int×Int)))
 pe:Ú (P×(Int×Int×Stp))
abbrev okL{κ α:Type}(l:Ú (κ×α)):Prop:=nds l/\l.length<900
structure WkA(A:AH)(w:Wk):Prop where
 o:A (10,[w.g])=some (.ins 20 [27075836531,213612520,255570157,31096109036,3982723938660,509719722391393,456806759117552] [.ref (1,[]),.int 4,.int 5,.ref (11,[w.g]),.ref (12,[w.g]),.ref (13,[w.g]),.ref (14,[w.g])])
 l:LA A w.g w.pn w.ps
 d:A (12,[w.g])=some (dP drV w.dr)
 a:A (13,[w.g])=some (dP anV w.an)
 p:A (14,[w.g])=some (dP peV w.pe)
 dd:∀x∈w.dr,A (16,[x.2.1,x.1.1,x.1.2])=some (dI x.2.2)/\okL x.2.2
 aa:∀x∈w.an,A (17,[x.2.1,x.1.1,x.1.2])=some (dI x.2.2)/\okL x.2.2
 nd:okL w.dr
 na:okL w.an
 np:okL w.pe
variable {w:Wk}
def EH(A A':AH)(m m':Nm):Prop:=∀k l,10<=k->k<=17->(k,l)≠m->(k,l)≠m'->A' (k,l)=A (k,l)
def LA.off(h:LA A g pn ps)(e:A' (11,[g])=A (11,[g])/\A' (15,[pn])=A (15,[pn])):LA A' g pn ps:=⟨e.1.trans h.l,e.2.trans h.p,h.z⟩
theorem WkA.off(h:WkA A w)(e:Off 10 17 A A'):WkA A' w :=
 have g:∀{k:Nat} {l:ò} {o:AO},(10<=k/\k<=17)->A (k,l)=some o->A' (k,l)=some o:=λhk q=>(e _ _ hk.1 hk.2).trans q
 ⟨g (by lia) h.o,h.l.off ⟨e _ _ (by lia) (by lia),e _ _ (by lia) (by lia)⟩,g (by lia) h.d,g (by lia) h.a,g (by lia) h.p,λx hx=>⟨g (by lia) (h.dd x hx).1,(h.dd x hx).2⟩,λx hx=>⟨g (by lia) (h.aa x hx).1,(h.aa x hx).2⟩,h.nd,h.na,h.np⟩
theorem WkA.putD{cc:Int}{d:Ú (Int×Int)}(h:WkA A w)(e:EH A A' (12,[w.g]) (16,[cc,p.1,p.2]))(e1:A' (12,[w.g])=some (dP drV (ap w.dr p (cc,d))))(e2:A' (16,[cc,p.1,p.2])=some (dI d))(hd:okL d)(hz:w.dr.length<899):WkA A' {w with dr:=ap w.dr p (cc,d)} :=
 have g:∀{k:Nat} {l:ò} {o:AO},(10<=k/\k<=17)->k≠12/\k≠16->A (k,l)=some o->A' (k,l)=some o:=λhk h2 q=>(e _ _ hk.1 hk.2 (λz=>h2.1 (by cases z;rfl)) (λz=>h2.2 (by cases z;rfl))).trans q
 ⟨g (by lia) (by lia) h.o,⟨g (by lia) (by lia) h.l.l,g (by lia) (by lia) h.l.p,h.l.z⟩,e1,g (by lia) (by lia) h.a,g (by lia) (by lia) h.p,λx hx=>by
  rcases gY h.nd.1 hx with rfl | ⟨hx,ne⟩
  .exact ⟨e2,hd⟩
  .refine ⟨(e _ _ (by lia) (by lia) (λz=>by cases z) λz=>ne ?_).trans (h.dd x hx).1,(h.dd x hx).2⟩
   obtain ⟨⟨x1,x2⟩,x3⟩:=x
   obtain ⟨p1,p2⟩:=p
   cases z;rfl,λx hx=>⟨g (by lia) (by lia) (h.aa x hx).1,(h.aa x hx).2⟩,⟨bp h.nd.1,ź aL (by lia)⟩,h.na,h.np⟩
theorem WkA.putA{cc:Int}{d:Ú (Int×Int)}(h:WkA A w)(e:EH A A' (13,[w.g]) (17,[cc,p.1,p.2]))(e1:A' (13,[w.g])=some (dP anV (ap w.an p (cc,d))))(e2:A' (17,[cc,p.1,p.2])=some (dI d))(hd:okL d)(hz:w.an.length<899):WkA A' {w with an:=ap w.an p (cc,d)} :=
 have g:∀{k:Nat} {l:ò} {o:AO},(10<=k/\k<=17)->k≠13/\k≠17->A (k,l)=some o->A' (k,l)=some o:=λhk h2 q=>(e _ _ hk.1 hk.2 (λz=>h2.1 (by cases z;rfl)) (λz=>h2.2 (by cases z;rfl))).trans q
 ⟨g (by lia) (by lia) h.o,⟨g (by lia) (by lia) h.l.l,g (by lia) (by lia) h.l.p,h.l.z⟩,g (by lia) (by lia) h.d,e1,g (by lia) (by lia) h.p,λx hx=>⟨g (by lia) (by lia) (h.dd x hx).1,(h.dd x hx).2⟩,λx hx=>by
  rcases gY h.na.1 hx with rfl | ⟨hx,ne⟩
  .exact ⟨e2,hd⟩
  .refine ⟨(e _ _ (by lia) (by lia) (λz=>by cases z) λz=>ne ?_).trans (h.aa x hx).1,(h.aa x hx).2⟩
   obtain ⟨⟨x1,x2⟩,x3⟩:=x
   obtain ⟨p1,p2⟩:=p
   cases z;rfl,h.nd,⟨bp h.na.1,ź aL (by lia)⟩,h.np⟩
theorem WkA.setP(h:WkA A w)(hz:okL pe):WkA (ac A (14,[w.g]) (dP peV pe)) {w with pe:=pe} :=
 have g:∀{k:Nat} {l:ò} {o:AO},k≠14->A (k,l)=some o->(ac A (14,[w.g]) (dP peV pe)) (k,l)=some o:=λhk q=>(uN λz=>hk (by cases z;rfl)).trans q
 ⟨g (by lia) h.o,⟨g (by lia) h.l.l,g (by lia) h.l.p,h.l.z⟩,g (by lia) h.d,g (by lia) h.a,uS,λx hx=>⟨g (by lia) (h.dd x hx).1,(h.dd x hx).2⟩,λx hx=>⟨g (by lia) (h.aa x hx).1,(h.aa x hx).2⟩,h.nd,h.na,hz⟩
theorem WkA.dropD(h:WkA A w):WkA (ac A (12,[w.g]) (dP drV (ad w.dr p))) {w with dr:=ad w.dr p} :=
 have g:∀{k:Nat} {l:ò} {o:AO},k≠12->A (k,l)=some o->(ac A (12,[w.g]) (dP drV (ad w.dr p))) (k,l)=some o:=λhk q=>(uN λz=>hk (by cases z;rfl)).trans q
 ⟨g (by lia) h.o,⟨g (by lia) h.l.l,g (by lia) h.l.p,h.l.z⟩,uS,g (by lia) h.a,g (by lia) h.p,λx hx=>have hx:=(ŵ.mp hx).1;⟨g (by lia) (h.dd x hx).1,(h.dd x hx).2⟩,λx hx=>⟨g (by lia) (h.aa x hx).1,(h.aa x hx).2⟩,⟨fM h.nd.1,ź bZ h.nd.2⟩,h.na,h.np⟩
theorem WkA.dropA(h:WkA A w):WkA (ac A (13,[w.g]) (dP anV (ad w.an p))) {w with an:=ad w.an p} :=
 have g:∀{k:Nat} {l:ò} {o:AO},k≠13->A (k,l)=some o->(ac A (13,[w.g]) (dP anV (ad w.an p))) (k,l)=some o:=λhk q=>(uN λz=>hk (by cases z;rfl)).trans q
 ⟨g (by lia) h.o,⟨g (by lia) h.l.l,g (by lia) h.l.p,h.l.z⟩,g (by lia) h.d,uS,g (by lia) h.p,λx hx=>⟨g (by lia) (h.dd x hx).1,(h.dd x hx).2⟩,λx hx=>have hx:=(ŵ.mp hx).1;⟨g (by lia) (h.aa x hx).1,(h.aa x hx).2⟩,h.nd,⟨fM h.na.1,ź bZ h.na.2⟩,h.np⟩
theorem WkA.locks(h:WkA A w)(e:EH A A' (11,[w.g]) (15,[pn]))(hl:LA A' w.g pn ps):WkA A' {w with pn:=pn,ps:=ps} :=
 have g:∀{k:Nat} {l:ò} {o:AO},(10<=k/\k<=17)->k≠11/\k≠15->A (k,l)=some o->A' (k,l)=some o:=λhk h2 q=>(e _ _ hk.1 hk.2 (λz=>h2.1 (by cases z;rfl)) (λz=>h2.2 (by cases z;rfl))).trans q
 ⟨g (by lia) (by lia) h.o,hl,g (by lia) (by lia) h.d,g (by lia) (by lia) h.a,g (by lia) (by lia) h.p,λx hx=>⟨g (by lia) (by lia) (h.dd x hx).1,(h.dd x hx).2⟩,λx hx=>⟨g (by lia) (by lia) (h.aa x hx).1,(h.aa x hx).2⟩,h.nd,h.na,h.np⟩
def isB(x:Sx)(p:P):Bool:=(bnd x).any λr=>decide (r.1=p)
def fS(h:WkA A w)(a:StA A x)(q:Q (.bl (isB x p)) A):fnSp tb (n+2) 85 [.ref (10,[w.g]),nmA p] A Q:=by
 refine fz (okI rfl (okI (ae h.o rfl) (okI (af a.s) (okI rfl (nJ a ?_)))))
 refine ndI (by rw [ν];exact szl (ź (ŧ _ _) (Ş a.nr.2 ζ))) ?_
 refine aD (f:=rdV) (λ_=>true) (λr=>nmA r.1) trivial _ [] (λr b K c h1 _=>h1 rfl) ?_
 rw [ŋ,Ť.mpr λ_ _=>rfl]
 refine okI (o:=cx _ _) ((congrArg (cx (nmA p)) (Ō (f:=λr:P×(Ú Lk×Ú (Int×Int))=>r.1) (g:=nmA)).symm).trans (eT p _)) ?_
 rw [List.any_map]
 show Q (.bl (false ^^ isB x p)) A
 rw [Ŝ]
 exact q
noncomputable def zS(w:Wk)(p:P)(i v:Int):Int:=match al w.dr p with
 | some d=>(al d.2 i).getD v
 | none=>v
theorem BW(h:WkA A w)(z:StA A x)(hf:Fr A c)(h0:0<=i)(r:x.cs[i.toNat]?=some v)(q:∀A',J A c A' (c+1)->Q (.int (zS w p i v)) A'):fnSp tb (n+2) 74 [.ref (10,[w.g]),nmA p,.int i] A Q:=by
 have j:=J.new (k:=18) (l:=[]) (o:=.dK [] []) hf (.inr rfl)
 have b:=h.off (j.off (.inl (by lia)))
 have a:=z.off (j.off (.inl (by lia)))
 have q:=q _ j
 unfold zS at q
 refine fz (okI rfl (okI (ae h.o rfl) (okI (aY h.d) (okI rfl (okI rfl (.inl ⟨(18,[c]),hf.new,?_⟩))))))
 obtain ⟨g1,y⟩:=qy b.d p
 refine okI g1 (okI y ?_)
 cases e:al w.dr p with
 | none =>
  rw [e] at q
  refine okI (iIn (l:=[]) uS i) (ifF rfl ?_)
  refine okI (ae b.o rfl) (okI (af a.s) (okI rfl ?_))
  have:=jY (n:=n) (Q:=Q) a r q
  rw [ŕ h0] at this
  exact this
 | some d =>
  rw [e] at q
  obtain ⟨m,_⟩:=b.dd _ (aX e)
  refine okI (iIn m i) ?_
  dsimp only at q
  cases e2:al d.2 i with
  | none =>
   rw [e2] at q
   refine ifF rfl (okI (ae b.o rfl) (okI (af a.s) (okI rfl ?_)))
   have:=jY (n:=n) (Q:=Q) a r q
   rw [ŕ h0] at this
   exact this
  | some u =>
   rw [e2] at q
   exact ifT rfl (okI (iAt m e2) q)
abbrev Hg:Str:=nm 1651940
abbrev f9(p:P)(i h:Int):Lt:=(p.1,Hg,p,[.int i,.int h])
def wL(h:WkA A w)(hs:ShA A k rows sent lt)(hz:sent.length<899)(e:al w.an p=some d)(e2:al d.2 i=some hh)(q:ShA (ac A (22,[k]) (.lst ((sent++[f9 p i hh]).map ltA))) k rows (sent++[f9 p i hh]) lt->Q .non (ac A (22,[k]) (.lst ((sent++[f9 p i hh]).map ltA)))):fnSp tb (n+2) 75 [.ref (10,[w.g]),.ref (20,[k]),nmA p,.int i] A Q :=
 fz (okI rfl (okI (af hs.s) (ndI rfl (okI rfl (okI (ae h.o rfl) (okI (pAt h.a e) (okI (iAt (h.aa _ (aX e)).1 e2) (ku hs hz q))))))))
end
section
variable {n:Nat}{A A' A'':AH}{Q:AQ}{c c' k:Int}{x x':Sx}{p:P}{w:Wk}{rows:Ú AV}{sent:Ú Lt}{lt:AV}
noncomputable abbrev Rb(n:Nat):Rn:=⟨fnSp tb n,tb.me,tb.ini,tb.fl,tb.fn⟩
noncomputable def xwk(x:Sx)(w:Wk)(p:P):Sx:=match al w.an p with
 | none=>{x with wk:=ap x.wk p ()}
 | some _=>x
noncomputable def iq(rows:Ú AV)(w:Wk)(p:P):Ú AV:=match al w.an p with
 | none=>rows++[.tup [.str kx,nmA p]]
 | some _=>rows
noncomputable def aI(l:Ú (P×(Int×Ú (Int×Int))))(p:P):Ú (Int×Int):=match al l p with
 | some y=>y.2
 | none=>[]
theorem gX{κ α:Type} [DecidableEq κ]{k:κ}{y:α}:∀{l:Ú (κ×α)},al l k=some y->ap l k y=l
 | [],h=>by cases h
 | x::l,h=>by
  unfold al at h
  unfold ap
  split at h
  .rename_i e;rw [Ż e];cases h;cases e;rfl
  .rename_i e;rw [Ž e,gX h]
def dt{κ α:Type} [DecidableEq κ]{k:κ}{y:α}{x:κ×α}{l:Ú (κ×α)}:ap (x::l) k y=if x.1=k then (k,y)::l else x::ap l k y:=rfl
theorem pO{κ α:Type} [DecidableEq κ]{k:κ}{y z:α}:∀{l:Ú (κ×α)},ap (ap l k y) k z=ap l k z
 | []=>(dt (x:=(k,y)) (l:=[])).trans (Ż rfl)
 | x::l=>by
  rw [dt,dt]
  by_cases e:x.1=k
  .rw [Ż e,Ż e,dt,Ż rfl]
  .rw [Ž e,Ž e,dt,Ž e,pO]
theorem gV{α:Type}{f:P×α->AV}{y y':α}(hf:f (p,y')=f (p,y)):∀{l:Ú (P×α)},al l p=some y->dP f (ap l p y')=dP f l
 | [],z=>nomatch z
 | u::l,z=>by
  have ih:=gV hf (l:=l)
  unfold dP at ih ⊢
  unfold al at z
  rw [dt]
  split at z
  .rename_i e;rw [Ż e];cases z;cases e
   show AO.dT (_::_) (f (u.1,y')::_)=_
   rw [hf];rfl
  .rename_i e;rw [Ž e]
   have ih:=ih z
   injection ih with i1 i2
   rw [Ŵ,Ŵ,Ŵ,Ŵ,i1,i2]
theorem xo{i h':Int}{d:Int×Ú (Int×Int)}{ch:AV}{hh:Int}{s:Stp}(h:WkA A w)(F:ShA A k rows sent lt)(m:StA A x)(hf:Fr A c)(hz:sent.length<899)(e:al w.an p=some d)(I:d.2.length<899)(r:w.an.length<899)
  (q:∀A',Fr A' c->StA A' x->WkA A' {w with an:=ap w.an p (d.1,ap d.2 i h')}->ShA A' k rows (sent++[f9 p i h']) lt->Off 24 100 A A'->Q .non A') :
  bi (Rb (n+2)) [(.seti (.op .ix (Zf 0 509719722391393) (.v 2)) (Zx 3 0) (Zx 4 0)),(.ex (Zm 0 56760251912532723 [(.v 1),(.v 2),(Zx 3 0)]))] (cC Q) [some (.ref (10,[w.g])),some (.ref (20,[k])),some (nmA p),some (.tup [.int i,.int hh,.str s.tx]),some (.tup [.int h',ch])] A:=by
 obtain ⟨u,C⟩:=h.aa _ (aX e)
 have h1:WkA (ac A (17,[d.1,p.1,p.2]) (dI (ap d.2 i h'))) {w with an:=ap w.an p (d.1,ap d.2 i h')}:=by
  refine h.putA (cc:=d.1) (λk l h1 G H D=>uN D) ?_ uS ⟨bp C.1,ź aL (by lia)⟩ r
  rw [uN (by intro z;cases z)]
  refine h.a.trans ?_
  rw [gV (f:=anV) (y:=d) (y':=(d.1,ap d.2 i h')) rfl e]
 have b:ShA (ac A (17,[d.1,p.1,p.2]) (dI (ap d.2 i h'))) k rows sent lt:=F.off (Off.rf.up (.inl (by lia)))
 refine okI (ae h.o rfl) (okI (pAt h.a e) (okI (HH u C.1 (by lia)) (okI (af h1.o) (okI rfl ?_))))
 refine wL (w:={w with an:=ap w.an p (d.1,ap d.2 i h')}) h1 b hz bx bx λj=>?_
 exact q _ ((hf.put u).put b.t) ((m.off (Off.rf.up (.inr (by lia)))).off (Off.rf.up (.inr (by lia)))) (h1.off (Off.rf.up (.inr (by lia)))) j ((Off.rf.up (.inl (by lia))).up (.inl (by lia)))
theorem ya{i h':Int}{ch:AV}{hh:Int}{s:Stp}(h:WkA A w)(N:ShA A k rows sent lt)(u:StA A x)(hf:Fr A c)(hz:sent.length<899)(hr:rows.length<899)(H:(aI w.an p).length<899)(ak:w.an.length<898)(I:x.wk.length<899)
  (q:∀A' c' ca lt',c<=c'->Fr A' c'->StA A' (xwk x w p)->WkA A' {w with an:=ap w.an p (ca,ap (aI w.an p) i h')}->ShA A' k (iq rows w p) (sent++[f9 p i h']) lt'->(lt'=lt\/lt'=bg x)->Off 24 100 A A'->Q .non A') :
  bi (Rb (n+4)) [(.ite (.op .notin (.v 2) (Zf 0 509719722391393)) [(.seti (Zf 0 509719722391393) (.v 2) .dic),(.ex (Zm 1 1964018 [(.tup [(Zs 226277367),(.v 2)])]))] []),(.seti (.op .ix (Zf 0 509719722391393) (.v 2)) (Zx 3 0) (Zx 4 0)),(.ex (Zm 0 56760251912532723 [(.v 1),(.v 2),(Zx 3 0)]))] (cC Q) [some (.ref (10,[w.g])),some (.ref (20,[k])),some (nmA p),some (.tup [.int i,.int hh,.str s.tx]),some (.tup [.int h',ch])] A:=by
 refine okI (ae h.o rfl) (okI (bM h.a p) ?_)
 unfold xwk iq aI at q
 cases e:al w.an p with
 | some d =>
  unfold aI at H
  rw [e] at q H
  refine ifF rfl ?_
  exact xo h N u hf hz e H (by lia) λA' C X Y D m=>q A' c d.1 lt (Ŗ _) C X Y D (.inl rfl) m
 | none =>
  rw [e] at q
  refine ifT rfl ?_
  have C:Fr (ac A (17,[c,p.1,p.2]) (.dK [] [])) (c+1):=hf.upd
  refine .inl ⟨(17,[c,p.1,p.2]),hf.new,?_⟩
  have O:(ac A (17,[c,p.1,p.2]) (.dK [] [])) (10,[w.g])=_:=(uN (by intro z;cases z)).trans h.o
  have K:(ac A (17,[c,p.1,p.2]) (.dK [] [])) (13,[w.g])=_:=(uN (by intro z;cases z)).trans h.a
  refine okI (ae O rfl) (okI (ju (y:=(c,[])) K h.na.1 (by lia) rfl) ?_)
  have h1:WkA (ac (ac A (17,[c,p.1,p.2]) (.dK [] [])) (13,[w.g]) (dP anV (ap w.an p (c,[])))) {w with an:=ap w.an p (c,[])}:=by
   refine h.putA (cc:=c) (λk l h1 L Z n2=>by rw [uN Z,uN n2]) uS ?_ ⟨ŭ,ζ⟩ (by lia)
   rw [uN (by intro z;cases z)];exact uS
  have m:∀{a b:Nat},(13<a/\17<a)\/b<13->Off a b A (ac (ac A (17,[c,p.1,p.2]) (.dK [] [])) (13,[w.g]) (dP anV (ap w.an p (c,[])))):=λz=>(Off.rf.up (by lia)).up (by lia)
  have r:=N.off (m (by lia))
  have j:=u.off (m (by lia))
  have S:=C.put (o:=dP anV (ap w.an p (c,[]))) K
  refine okI (af r.s) (ndI rfl (okI rfl (oC r j (o7 j I) hr λA2 s2 F o2 o3 f3=>?_)))
  have L:=h1.off (o2.cut (by lia) (by lia))
  refine xo (w:={w with an:=ap w.an p (c,[])}) (d:=(c,[])) L F s2 (f3 _ S) hz bx (show (0:Nat)<899 by decide) ?_ λA' f4 s4 w4 G o4=>q A' (c+1) c (bg x) (by lia) f4 s4 ?_ G (.inr rfl) (((m (by lia)).tr (o3.cut (by lia) (by lia))).tr o4)
  .exact ź aL (by lia)
  .have U:ap (ap w.an p (c,[])) p (c,ap [] i h')=ap w.an p (c,ap [] i h'):=pO
   rw [← U];exact w4
def wI(s:Stp)(V:Int->Int)(h:Int):(s.done V h).2.length<=1:=by
 obtain ⟨w,a,b⟩:=s
 cases w<;>first | exact ι _ | exact ϖ _
def Ar(h:ch.length<=1):apL [] ch=ch:=by
 match ch,h with
 | [],_=>rfl
 | [y],_=>rfl
abbrev dw(w:Wk)(x:Sx)(p:P)(i:Int):Int:=zS w p i (x.cs.getD i.toNat 0)
theorem jU{i hh:Int}{s:Stp}(h:WkA A w)(hs:ShA A k rows sent lt)(L:StA A x)(hf:Fr A c)(ho:s.Ok)(hm:s.a<x.cs.length/\(s.w=.sum->s.b<x.cs.length))(hz:sent.length<899)(hr:rows.length<899)(hd:(aI w.an p).length<899)(aa:(aI w.dr p).length<898)(ab:w.an.length<898)(cj:w.dr.length<898)(ag:x.wk.length<899)
  (q:∀A' c' cc ca lt',c<=c'->Fr A' c'->StA A' (xwk x w p)->WkA A' {w with dr:=ap w.dr p (cc,apL (aI w.dr p) (s.done (dw w x p) hh).2),an:=ap w.an p (ca,ap (aI w.an p) i (s.done (dw w x p) hh).1)}->ShA A' k (iq rows w p) (sent++[f9 p i (s.done (dw w x p) hh).1]) lt'->(lt'=lt\/lt'=bg x)->Off 24 100 A A'->Q .non A') :
  fnSp tb (n+7) 73 [.ref (10,[w.g]),.ref (20,[k]),nmA p,.tup [.int i,.int hh,.str s.tx]] A Q:=by
 refine fz (okI rfl (mr ho hf λA1 c1 j1=>?_))
 have z1:=L.off (j1.off (.inl (by lia)))
 refine okI (x:=(s.w.id,s.w.fs)) rfl (ndI (Bq s.w).2 (okI (F6 s.w) ⟨ϱ,z1.z,okI (o:=some [nmA p,.ref (10,[w.g])]) rfl ?_⟩))
 refine uT (m:=x.cs.length) (V:=dw w x p) ho hm j1.fr (λi' A' c' Q' j h0 h1 q'=>?_) λA2 C K=>ndI rfl ?_
 .have j':=j1.trans j
  have hw:=h.off (j'.off (.inl (by lia)))
  refine fz (okI rfl (okI (af hw.o) (okI rfl (BW hw (L.off (j'.off (.inl (by lia)))) j.fr h0 ?_ λA'' K=>q' A'' _ (j.trans K)))))
  rw [ξ (show i'.toNat<x.cs.length by lia),Ŭ,ξ (show i'.toNat<x.cs.length by lia)];rfl
 have j:=j1.trans K
 have H:=h.off (j.off (.inl (by lia)))
 have S:=hs.off (j.off (.inr (.inl (by lia))))
 have G:=L.off (j.off (.inl (by lia)))
 have hl:=wI s (dw w x p) hh
 generalize hch:s.done (dw w x p) hh=r at q hl ⊢
 obtain ⟨h',u⟩:=r
 dsimp only at q hl ⊢
 refine okI (ae H.o rfl) (okI (aY H.d) (okI rfl (okI rfl (.inl ?_))))
 have U:∀(D:AH) (F cc:Int) (l:Ú (Int×Int)),aI w.dr p=l->Fr D F->c<=F->WkA D {w with dr:=ap w.dr p (cc,l)}->Off 24 100 A D->StA D x->ShA D k rows sent lt ->
   st (.frK (aO [] [] (u.map λx=>kI x.1) (u.map λx=>AV.int x.2)).1 (aO [] [] (u.map λx=>kI x.1) (u.map λx=>AV.int x.2)).2) D λy A4=>ok (rT (.ref (16,[cc,p.1,p.2])) [y] A4) λA5=>bi (Rb (n+6)) [(.ite (.op .notin (.v 2) (Zf 0 509719722391393)) [(.seti (Zf 0 509719722391393) (.v 2) .dic),(.ex (Zm 1 1964018 [(.tup [(Zs 226277367),(.v 2)])]))] []),(.seti (.op .ix (Zf 0 509719722391393) (.v 2)) (Zx 3 0) (Zx 4 0)),(.ex (Zm 0 56760251912532723 [(.v 1),(.v 2),(Zx 3 0)]))] (cC Q) [some (.ref (10,[w.g])),some (.ref (20,[k])),some (nmA p),some (.tup [.int i,.int hh,.str s.tx]),some (.tup [.int h',chA u])] A5:=by
  intro D F cc l Y Z c4 I X s3 a8
  rw [show aO [] [] (u.map λx=>kI x.1) (u.map λx=>AV.int x.2)=_ from cA u []]
  refine ⟨(18,[F]),Z.new,?_⟩
  rw [Ar hl]
  obtain ⟨e1,e2⟩:=I.dd (p,(cc,l)) (aX bx)
  have N:∀{k:Nat} {l':ò} {o:AO},k≠18->ac D (18,[F]) o (k,l')=D (k,l'):=λhk=>uN λz=>hk (by cases z;rfl)
  refine okI (HG ((N (by lia)).trans e1) (l2:=u) uS (by intro z;cases z) e2.1 e2.2 (by lia)) ?_
  have f4:Fr (ac D (18,[F]) (dI u)) (F+1):=Z.upd
  have a3:(apL l u).length<900:=ź eX (by rw [Y] at aa;lia)
  have w4:WkA (ac (ac D (18,[F]) (dI u)) (16,[cc,p.1,p.2]) (dI (apL l u))) {w with dr:=ap w.dr p (cc,apL l u)}:=by
   have:=I.putD (A':=ac (ac D (18,[F]) (dI u)) (16,[cc,p.1,p.2]) (dI (apL l u))) (p:=p) (cc:=cc) (d:=apL l u) (λk l h1 H n3 n2=>by rw [uN n2,N (by lia)]) ?_ uS ⟨eR e2.1,a3⟩ ?_
   .rw [pO] at this;exact this
   .rw [uN (by intro z;cases z),N (by lia)]
    refine I.d.trans ?_
    rw [gV (f:=drV) (y:=(cc,l)) (y':=(cc,apL l u)) rfl bx]
   .exact ź aL (by lia)
  have o4:∀{a b:Nat},18<a\/b<16->Off a b D (ac (ac D (18,[F]) (dI u)) (16,[cc,p.1,p.2]) (dI (apL l u))):=λz=>(Off.rf.up (by lia)).up (by lia)
  refine ya (w:={w with dr:=ap w.dr p (cc,apL l u)}) (n:=n+2) w4 (a8.off (o4 (by lia))) (s3.off (o4 (by lia))) (f4.put ((N (by lia)).trans e1)) hz hr hd ab ag λA' c' ca lt' g1 g2 g3 g4 g5 g6 g7=>?_
  exact q A' c' cc ca lt' (by lia) g2 g3 (by rw [Y];exact g4) g5 g6 ((X.tr (o4 (by lia))).tr g7)
 cases e:al w.dr p with
 | some y =>
  have O:=J.new (k:=18) (l:=[]) (o:=.dK [] []) K.fr (.inr rfl)
  have I:=H.off (O.off (.inl (by lia)))
  refine ⟨(18,[C]),K.fr.new,okI (C0 I.d (Ş h.nd.2 ζ) e) (okI (x:=Rc.b .dict) ?_ (okI rfl (okI rfl ?_)))⟩
  .exact u9 (I.dd _ (aX e)).1
  refine okI (eQ u) (ndI (by rw [ν];lia) ?_)
  refine (U _ (C+1) y.1 y.2 (by unfold aI;rw [e]) O.fr (Int.le_trans j.le O.le) ?_ ((j.off (.inr (.inr (by lia)))).tr (O.off (.inr (.inr (by lia))))) (G.off (O.off (.inl (by lia)))) (S.off (O.off (.inr (.inl (by lia))))))
  rw [gX (y:=(y.1,y.2)) e];exact I
 | none =>
  have w0:=(uN (A:=A2) (m:=(16,[C,p.1,p.2])) (o:=.dK [] []) (m':=(12,[w.g])) (by intro z;cases z)).trans H.d
  have Z:Fr (ac A2 (16,[C,p.1,p.2]) (.dK [] [])) (C+1):=K.fr.upd
  have e9:ac (ac A2 (16,[C,p.1,p.2]) (.dK [] [])) (12,[w.g]) (dP drV (ap w.dr p (C,[]))) (16,[C,p.1,p.2])=some (.dK [] []):=(uN (by intro z;cases z)).trans uS
  refine ⟨(16,[C,p.1,p.2]),K.fr.new,okI (oJ (y:=(C,[])) w0 (Ş h.nd.2 ζ) e rfl) (okI (x:=Rc.b .dict) ?_ (okI rfl (okI rfl ?_)))⟩
  .exact u9 e9
  have X:∀{a b:Nat},16<a\/b<12->Off a b A2 (ac (ac A2 (16,[C,p.1,p.2]) (.dK [] [])) (12,[w.g]) (dP drV (ap w.dr p (C,[])))):=λz=>(Off.rf.up (by lia)).up (by lia)
  refine okI (eQ u) (ndI (by rw [ν];lia) ?_)
  refine (U _ (C+1) C [] (by unfold aI;rw [e]) (Z.put w0) (by have:=j.le;lia) ?_ ((j.off (.inr (.inr (by lia)))).tr (X (by lia))) (G.off (X (by lia))) (S.off (X (by lia))))
  exact H.putD (cc:=C) (λk l h1 H N n2=>(uN N).trans (uN n2)) uS e9 ⟨ŭ,ζ⟩ (by lia)
end
section
variable {n:Nat}{A A' A'':AH}{Q:AQ}{c c' k:Int}{x x':Sx}{p:P}{w:Wk}{rows:Ú AV}{sent:Ú Lt}{lt:AV}
theorem lq(h:WkA A w)(hf:Fr A c):J A c (ac A (18,[c]) (.dK [] [])) (c+1)/\∃d o,bB (.ref (13,[w.g])) (ac A (18,[c]) (.dK [] []))=some d/\d.get (nmA p)=some o/\inV (.int i) (o.getD (.ref (18,[c]))) (ac A (18,[c]) (.dK [] []))=some (al (aI w.an p) i).isSome:=by
 have j:=J.new (k:=18) (l:=[]) (o:=.dK [] []) hf (.inr rfl)
 have b:=h.off (j.off (.inl (by lia)))
 obtain ⟨g1,m⟩:=qy b.a p
 refine ⟨j,_,_,g1,m,?_⟩
 unfold aI
 cases e:al w.an p with
 | none=>exact iIn (l:=[]) uS i
 | some d=>exact iIn (b.aa _ (aX e)).1 i
theorem rR(h:WkA A w)(b:StA A x)(hf:Fr A c)(r:isB x p=false)(u:al (aI w.an p) i=none)(hp:(al w.pe p).isSome=true)
  (q:∀A',J A c A' (c+1)->Q .non A'):fnSp tb (n+3) 72 [.ref (10,[w.g]),.ref (20,[k]),nmA p,.int i,.int hh,.str tx] A Q:=by
 refine fz (okI rfl (okI (af h.o) (ndI rfl (okI rfl (fS h b ?_)))))
 refine ifF r ?_
 refine okI (ae h.o rfl) (okI (aY h.a) (okI rfl (okI rfl (.inl ?_))))
 obtain ⟨j,d,o,g1,m,e⟩:=lq (p:=p) (i:=i) h hf
 rw [u] at e
 refine ⟨(18,[c]),hf.new,okI g1 (okI m (okI e ?_))⟩
 have l:=h.off (j.off (.inl (by lia)))
 refine ifF rfl (okI (ae l.o rfl) (okI (bM l.p p) (ifF (by rw [hp];rfl) (q _ j))))
theorem ol(h:WkA A w)(l:StA A x)(z:ShA A k rows sent lt)(hf:Fr A c)(C:isB x p=false)(e:al w.an p=some d)(v:al d.2 i=some hh)(hz:sent.length<899)
  (q:∀A',Fr A' (c+1)->StA A' x->WkA A' w->ShA A' k rows (sent++[f9 p i hh]) lt->Off 24 100 A A'->Q .non A'):fnSp tb (n+3) 72 [.ref (10,[w.g]),.ref (20,[k]),nmA p,.int i,.int h0,.str tx] A Q:=by
 refine fz (okI rfl (okI (af h.o) (ndI rfl (okI rfl (fS h l ?_)))))
 refine ifF C ?_
 refine okI (ae h.o rfl) (okI (aY h.a) (okI rfl (okI rfl (.inl ?_))))
 obtain ⟨j,D,o,g1,y,u⟩:=lq (p:=p) (i:=i) h hf
 have m:=h.off (j.off (.inl (by lia)))
 have b:=z.off (j.off (.inr (.inl (by lia))))
 have e0:(al (aI w.an p) i).isSome=true:=by unfold aI;rw [e];dsimp only;rw [v];rfl
 rw [e0] at u
 refine ⟨(18,[c]),hf.new,okI g1 (okI y (okI u ?_))⟩
 refine ifT rfl (okI (af m.o) (ndI rfl (okI rfl (wL m b hz e v λr=>q _ (j.fr.put b.t) ((l.off (j.off (.inl (by lia)))).off (Off.rf.up (.inr (by lia)))) (m.off (Off.rf.up (.inr (by lia)))) r ((j.off (.inr (.inr (by lia)))).up (.inl (by lia)))))))
noncomputable def aQ(ps:Ú Pr)(p:P)(l:Lk):Ú Pr:=if ps.any (own p l) then ps else ps++[(p,l)]
noncomputable def jg(ps:Ú Pr)(p:P)(l:Lk):Bool:=ps.any (own p l)||(hin (ps++[(p,l)]) ps.length (p,l)).isNone
theorem rD(h:WkA A w)(hw:wts w.ps p=false)(hz:w.ps.length<899)
  (q:∀A',WkA A' {w with ps:=aQ w.ps p l}->Off 0 14 A A'->Off 16 100 A A'->(∀c,Fr A c->Fr A' c)->Q (.bl (jg w.ps p l)) A'):fnSp tb (n+5) 12 [.ref (11,[w.g]),nmA p,l.av] A Q:=by
 refine D3 h.l hw (by lia) (λe=>?_) λe a=>?_
 .have:=q A (by unfold aQ;rw [if_pos e];exact h) Off.rf Off.rf λ_ f=>f
  unfold jg at this
  rw [e] at this
  exact this
 .have:=q _ (by unfold aQ;rw [if_neg (by rw [e];exact Bool.false_ne_true)];exact h.locks (λk d h1 i j b=>uN b) a) (Off.rf.up (.inr (by lia))) (Off.rf.up (.inl (by lia))) λ_ f=>f.put h.l.p
  unfold jg at this
  rw [e] at this
  exact this
theorem jd:(aQ ps p l).length<=ps.length+1:=by
 unfold aQ
 split
 .lia
 .rw [ŷ];exact ι _
theorem ui{i hh:Int}{s:Stp}(h:WkA A w)(C:StA A x)(hs:ShA A k rows sent lt)(hf:Fr A c)(hb:isB x p=false)(hi:al (aI w.an p) i=none)(hp:al w.pe p=none)(hw:wts w.ps p=false)(K:w.ps.length<899)(D:w.pe.length<899)
  (X:s.Ok)(hm:s.a<x.cs.length/\(s.w=.sum->s.b<x.cs.length))(hz:sent.length<899)(hr:rows.length<899)(hd:(aI w.an p).length<899)(L:(aI w.dr p).length<898)(N:w.an.length<898)(O:w.dr.length<898)(S:x.wk.length<899)
  (q1:jg w.ps p s.lk=true->∀A' c' cc ca lt',c<=c'->Fr A' c'->StA A' (xwk x w p)->WkA A' {w with ps:=aQ w.ps p s.lk,dr:=ap w.dr p (cc,apL (aI w.dr p) (s.done (dw w x p) hh).2),an:=ap w.an p (ca,ap (aI w.an p) i (s.done (dw w x p) hh).1)}->ShA A' k (iq rows w p) (sent++[f9 p i (s.done (dw w x p) hh).1]) lt'->(lt'=lt\/lt'=bg x)->Off 24 100 A A'->Q .non A')
  (q2:jg w.ps p s.lk=false->∀A' c',c<=c'->Fr A' c'->StA A' x->WkA A' {w with ps:=aQ w.ps p s.lk,pe:=ap w.pe p (i,hh,s)}->ShA A' k rows sent lt->Off 24 100 A A'->Q .non A') :
  fnSp tb (n+8) 72 [.ref (10,[w.g]),.ref (20,[k]),nmA p,.int i,.int hh,.str s.tx] A Q:=by
 refine fz (okI rfl (okI (af h.o) (ndI rfl (okI rfl (fS h C ?_)))))
 refine ifF hb ?_
 refine okI (ae h.o rfl) (okI (aY h.a) (okI rfl (okI rfl (.inl ?_))))
 obtain ⟨j,d,o,g1,I,F⟩:=lq (p:=p) (i:=i) h hf
 rw [hi] at F
 refine ⟨(18,[c]),hf.new,okI g1 (okI I (okI F ?_))⟩
 have G:=h.off (j.off (.inl (by lia)))
 refine ifF rfl (okI (ae G.o rfl) (okI (bM G.p p) (ifT (by rw [hp];rfl) ?_)))
 refine okI (ae G.o rfl) (okI (af G.l.l) (ndI rfl (okI rfl (mr X j.fr λA1 Y H=>?_))))
 refine okI (x:=.c s.w.id s.w.fs) rfl (ndI (Bq s.w).1 (okI (FK s.w) (uO H.fr.1 (jJ H.fr.1 ?_))))
 have q:=j.trans H
 have h1:=h.off (q.off (.inl (by lia)))
 refine rD h1 hw K λA2 m Z U f2=>?_
 have r:=(C.off (q.off (.inl (by lia)))).off (Z.cut (by lia) (by lia))
 have u:=(hs.off (q.off (.inr (.inl (by lia))))).off (U.cut (by lia) (by lia))
 have v:=f2 _ H.fr
 have z:Off 24 100 A A2:=(q.off (.inr (.inr (by lia)))).tr (U.cut (by lia) (by lia))
 refine if2 (λe=>?_) (λe=>?_)
 .refine okI (af m.o) (ndI rfl (okI rfl (jU (w:={w with ps:=aQ w.ps p s.lk}) m u r v X hm hz hr hd L N O S λA' c' cc ca lt' g1 I F g4 g5 g6 g7=>?_)))
  exact q1 e A' c' cc ca lt' (Int.le_trans q.le g1) I F g4 g5 g6 (z.tr g7)
 .refine okI (ae m.o rfl) (okI (ju (y:=(i,hh,s)) m.p m.np.1 (by exact Ş D ζ) rfl) ?_)
  exact q2 e _ Y q.le (v.put m.p) (r.off (Off.rf.up (.inr (by lia)))) (m.setP ⟨bp m.np.1,ź aL (by have:=D;show w.pe.length+1<900;lia)⟩) (u.off (Off.rf.up (.inl (by lia)))) (z.up (.inl (by lia)))
end
section
variable {n:Nat}{A A' A'':AH}{Q:AQ}{c c' k:Int}{x x':Sx}{p:P}{w:Wk}{rows:Ú AV}{sent:Ú Lt}{lt:AV}
abbrev He:Str:=nm 1897209
abbrev EI(p:P):Lt:=(p.1,He,p,[])
def mx(h:WkA A w)(a:StA A x)(d:ShA A k rows sent lt)(hf:Fr A c)(e:isB x p=true)(hz:sent.length<899)
  (q:∀A',Fr A' c->StA A' x->WkA A' w->ShA A' k rows (sent++[EI p]) lt->Off 24 100 A A'->Q .non A'):fnSp tb (n+3) 76 [.ref (10,[w.g]),.ref (20,[k]),nmA p,.tup [.int 4]] A Q:=by
 refine fz (okI rfl (okI (af h.o) (ndI rfl (okI rfl (fS h a ?_)))))
 refine ifF (by rw [e];rfl) (okI (af d.s) (ndI rfl (okI rfl (ku d hz λb=>?_))))
 exact q _ (hf.put d.t) (a.off (Off.rf.up (.inr ω))) (h.off (Off.rf.up (.inr ω))) b (Off.rf.up (.inl ω))
def oE(h:WkA A w)(b:StA A x)(c:isB x p=false)(d:al w.an p=none\/(al w.pe p).isSome=true)
  (q:Q .non A):fnSp tb (n+3) 76 [.ref (10,[w.g]),.ref (20,[k]),nmA p,.tup [.int 4]] A Q:=by
 refine fz (okI rfl (okI (af h.o) (ndI rfl (okI rfl (fS h b ?_)))))
 refine ifT (by rw [c];rfl) (okI (ae h.o rfl) (okI (bM h.a p) ?_))
 refine if2 (λe=>q) (λe=>?_)
 refine okI (ae h.o rfl) (okI (bM h.p p) (ifT ?_ q))
 rcases d with z | z
 .rw [z] at e;cases e
 .rw [z];rfl
noncomputable def iK(ps:Ú Pr)(p:P):Ú Lk:=((aE ps).filter λy=>decide (y.1=p)).map (·.2)
def sA(h:WkA A w)(j:StA A x)(N:ShA A k rows sent lt)(hf:Fr A c)(hb:isB x p=false)(O:(al w.an p).isSome=true)(hp:al w.pe p=none)(S:al w.dr p=some d)(H:d.2.length<64)(hz:sent.length<899)(hr:rows.length<899)(I:x.rd.length<899)
  (q:∀A' row,Fr A' c->StA A' {x with rd:=ap x.rd p (iK w.ps p,L2.bh L2.ltP d.2)}->WkA A' {w with an:=ad w.an p}->ShA A' k (rows++[row]) (sent++[EI p]) (bg x)->Off 24 100 A A'->Q .non A'):fnSp tb (n+7) 76 [.ref (10,[w.g]),.ref (20,[k]),nmA p,.tup [.int 4]] A Q:=by
 refine fz (okI rfl (okI (af h.o) (ndI rfl (okI rfl (fS h j ?_)))))
 refine ifT (by rw [hb];rfl) (okI (ae h.o rfl) (okI (bM h.a p) ?_))
 refine ifF (by rw [O];rfl) (okI (ae h.o rfl) (okI (bM h.p p) (ifF (by rw [hp];rfl) ?_)))
 have m:(aE w.ps).length<1000:=by
  unfold aE
  rw [ν]
  exact ź (ŧ _ _) (by rw [ħ];exact h.l.z)
 refine okI (af h.o) (ndI rfl (okI rfl (fz (okI rfl (okI (ae h.o rfl) (okI (af h.l.l) (ndI rfl (okI rfl (qM h.l m ?_)))))))))
 refine ndI (by rw [ν];exact szl m) ?_
 refine aD (f:=ptA) (λy=>decide (y.1=p)) (λy=>y.2.told) trivial _ [] (λy hy K u h1 Y=>?_) ?_
 .exact if2 (c:=false ^^ eqQ y.1 p) (λe=>h1 (by rw [Ŝ,cB] at e;exact e)) (λe=>Y (by rw [Ŝ,cB] at e;exact e))
 have U:∀u:Ú Pr,(u.map λy=>y.2.told)=(u.map (·.2)).map λl=>l.told:=λu=>by rw [Ō];rfl
 rw [ŋ,U]
 obtain ⟨v,e2⟩:=h.dd _ (aX S)
 refine okI (af N.s) (ndI rfl (okI rfl (okI (ae h.o rfl) (okI (pAt h.d S) ?_))))
 have v:A (16,[d.1,p.1,p.2])=some (dI d.2):=v
 unfold drV
 dsimp only
 rw [v]
 refine ⟨d.2,ϱ,ϱ,H,?_⟩
 obtain ⟨ca,C⟩:=Ů.mp O
 refine oC N j (mR (p:=p) (y:=(iK w.ps p,L2.bh L2.ltP d.2)) j I) hr λL Z F o1 o2 f1=>?_
 have r:=h.off (o1.cut ω ω)
 refine okI (ae r.o rfl) (okI (aY r.a) (okI rfl (okI rfl (okI (vM r.a C) ?_))))
 have X:=r.dropA (p:=p)
 have D:∀{a b:Nat},13<a\/b<13->Off a b L (ac L (13,[w.g]) (dP anV (ad w.an p))):=λz=>Off.rf.up ω
 have i:=F.off (D ω)
 refine okI (af i.s) (ndI rfl (okI rfl (ku i hz λG=>?_)))
 exact q _ _ (((f1 _ hf).put r.a).put i.t) ((Z.off (D ω)).off (Off.rf.up (.inr ω))) (X.off (Off.rf.up (.inr ω))) G (((o2.cut ω ω).tr (D ω)).up (.inl ω))
end
section
variable {n:Nat}{A A' A'':AH}{Q:AQ}{c c' k:Int}{x x':Sx}{p q:P}{w w':Wk}{rows:Ú AV}{sent:Ú Lt}{lt:AV}
noncomputable def sel(l:Ú (P×(Int×Ú (Int×Int))))(p:P):Option (Ú (Int×Int)):=(al l p).map (·.2)
def aG:aI l p=(sel l p).getD []:=by
 unfold aI sel
 cases al l p<;>rfl
noncomputable def cV(d:Ú (Int×Int))(cs:ò)(i:Int):Int:=(al d i).getD (cs.getD i.toNat 0)
def qb:dw w x p=cV (aI w.dr p) x.cs:=by
 funext i
 unfold dw zS cV aI
 cases al w.dr p<;>rfl
def ik:sel (ap l p (cc,d)) q=if q=p then some d else sel l q:=by
 unfold sel
 rw [al_ap]
 split<;>rfl
def oA:sel (ad l p) q=if q=p then none else sel l q:=by
 unfold sel
 rw [al_ad]
 split<;>rfl
def eF:(al l p).isSome=(sel l p).isSome:=by unfold sel;rw [Option.isSome_map]
def psF(ps:Ú Pr)(p:P):Ú Pr:=ps.filter λy=>!decide (y.1=p)
noncomputable def stq(w:Wk)(q:P):Int×Int×Stp:=(al w.pe q).getD (0,0,⟨.take,0,0⟩)
noncomputable def dnq(w:Wk)(cs:ò)(q:P):Int×Ú (Int×Int):=(stq w q).2.2.done (cV (aI w.dr q) cs) (stq w q).2.1
noncomputable def ltq(w:Wk)(cs:ò)(q:P):Lt:=f9 q (stq w q).1 (dnq w cs q).1
structure EG(w:Wk)(x:Sx)(p:P)(fs:Ú P)(w':Wk)(x':Sx):Prop where
 g:w'.g=w.g
 ps:w'.ps=psF w.ps p
 dr:∀q,sel w'.dr q=if q∈fs then some (apL (aI w.dr q) (dnq w x.cs q).2) else if q=p then none else sel w.dr q
 an:∀q,sel w'.an q=if q∈fs then some (ap (aI w.an q) (stq w q).1 (dnq w x.cs q).1) else if q=p then none else sel w.an q
 pe:∀q,al w'.pe q=if q∈fs then none else if q=p then none else al w.pe q
 cs:x'.cs=x.cs
 rd:x'.rd=x.rd
 en:x'.en=x.en
 wk:x'.wk.length<=x.wk.length+fs.length
 ws:∀q,(al x'.wk q).isSome=true->q∈fs\/(al x.wk q).isSome=true
 ld:w'.dr.length<=w.dr.length+fs.length
 la:w'.an.length<=w.an.length+fs.length
 lp:w'.pe.length<=w.pe.length
structure G0(w:Wk)(x:Sx)(p:P)(fs:Ú P):Prop where
 nd:fs.Nodup
 np:p∉fs
 pe:∀q∈fs,(al w.pe q).isSome=true
 ok:∀q∈fs,(stq w q).2.2.Ok/\((stq w q).2.2.a<x.cs.length/\((stq w q).2.2.w=.sum->(stq w q).2.2.b<x.cs.length))
 la:∀q∈fs,(aI w.an q).length<899
 ld:∀q∈fs,(aI w.dr q).length<898
 len:fs.length<=40
 zd:w.dr.length<800
 za:w.an.length<800
 zw:x.wk.length<800
def AY(x:Sx)(w:Wk)(p:P):(xwk x w p).cs=x.cs/\(xwk x w p).rd=x.rd/\(xwk x w p).en=x.en/\(xwk x w p).wk.length<=x.wk.length+1:=by
 unfold xwk
 cases al w.an p
 .exact ⟨ϱ,ϱ,ϱ,aL⟩
 .exact ⟨ϱ,ϱ,ϱ,ğ _⟩
def AZ(h:(al (xwk x w p).wk q).isSome=true):q=p\/(al x.wk q).isSome=true:=by
 unfold xwk at h
 cases e:al w.an p with
 | none =>
  rw [e] at h
  have h:(al (ap x.wk p ()) q).isSome=true:=h
  rw [al_ap] at h
  by_cases e2:q=p
  .exact .inl e2
  .rw [Ž e2] at h;exact .inr h
 | some d=>rw [e] at h;exact .inr h
def sy(rows:Ú AV)(w:Wk)(p:P):(iq rows w p).length<=rows.length+1:=by
 unfold iq
 cases al w.an p
 .rw [ŷ];exact ι _
 .exact ğ _
theorem aU{fs:Ú P}{j:Nat}{q:P}(h:fs[j]?=some q)(c:fs.Nodup):∀r,(r∈fs.take (j+1)↔r∈fs.take j\/r=q)/\q∉fs.take j:=by
 obtain ⟨h1,a⟩:=ž.mp h
 refine λr=>⟨?_,λz=>?_⟩
 .rw [List.take_add_one,h,List.mem_append];simp
 .obtain ⟨t,b,e⟩:=Ŧ.mp z
  rw [ű] at b
  rw [List.getElem_take] at e
  have:=(Ě (h₀:=by lia) (h₁:=h1) c).mp (e.trans a.symm)
  lia
theorem wE(h:WkA A w)(b4:StA A x)(hs:ShA A k rows sent lt)(hf:Fr A c)(hz:sent.length<800)(hr:rows.length<800)(g:G0 w x p (frd w.ps p))(hl:lt=.non\/lt=bg x)
  (q:∀A' c' w' x' rows' lt',c<=c'->Fr A' c'->StA A' x'->WkA A' w'->ShA A' k rows' (sent++(frd w.ps p).map (ltq w x.cs)) lt'->(lt'=.non\/lt'=bg x')->Off 24 100 A A'->EG w x p (frd w.ps p) w' x'->Q .non A'):fnSp tb (n+9) 77 [.ref (10,[w.g]),.ref (20,[k]),nmA p] A Q:=by
 have C:∀{a b m:Nat} {l:ò} {o:AO} {A:AH},m<a\/b<m->Off a b A (ac A (m,l) o):=λz=>Off.rf.up z
 refine fz (okI rfl (okI (ae h.o rfl) (okI (aY h.d) (okI rfl (okI rfl (okI (qw h.d) ?_))))))
 have h1:=h.dropD (p:=p)
 refine okI (ae h1.o rfl) (okI (aY h1.a) (okI rfl (okI rfl (okI (qw h1.a) ?_))))
 have H:=h1.dropA (p:=p)
 refine okI (ae H.o rfl) (okI (aY H.p) (okI rfl (okI rfl (okI (qw H.p) ?_))))
 have L:=H.setP (pe:=ad w.pe p) ⟨fM h.np.1,ź bZ h.np.2⟩
 have G:=((hf.put (o:=dP drV (ad w.dr p)) h.d).put (o:=dP anV (ad w.an p)) h1.a).put (o:=dP peV (ad w.pe p)) H.p
 have D:=((b4.off (A':=ac A (12,[w.g]) (dP drV (ad w.dr p))) (C (by lia))).off (A':=ac (ac A (12,[w.g]) (dP drV (ad w.dr p))) (13,[w.g]) (dP anV (ad w.an p))) (C (by lia))).off (A':=ac (ac (ac A (12,[w.g]) (dP drV (ad w.dr p))) (13,[w.g]) (dP anV (ad w.an p))) (14,[w.g]) (dP peV (ad w.pe p))) (C (by lia))
 have N:=((hs.off (A':=ac A (12,[w.g]) (dP drV (ad w.dr p))) (C (by lia))).off (A':=ac (ac A (12,[w.g]) (dP drV (ad w.dr p))) (13,[w.g]) (dP anV (ad w.an p))) (C (by lia))).off (A':=ac (ac (ac A (12,[w.g]) (dP drV (ad w.dr p))) (13,[w.g]) (dP anV (ad w.an p))) (14,[w.g]) (dP peV (ad w.pe p))) (C (by lia))
 have O:Off 24 100 A (ac (ac (ac A (12,[w.g]) (dP drV (ad w.dr p))) (13,[w.g]) (dP anV (ad w.an p))) (14,[w.g]) (dP peV (ad w.pe p))):=((C (by lia)).tr (C (by lia))).tr (C (by lia))
 generalize ac (ac (ac A (12,[w.g]) (dP drV (ad w.dr p))) (13,[w.g]) (dP anV (ad w.an p))) (14,[w.g]) (dP peV (ad w.pe p))=A3 at L G D N O ⊢
 have wz:∀ps:Ú Pr,ps.length<1000->(az ps).length<1000:=λps hp=>by
  unfold az
  rw [ν]
  exact ź (ŧ _ _) (by rw [ħ];exact hp)
 refine okI (ae L.o rfl) (okI (af L.l.l) (ndI rfl (okI rfl (zQ L.l G (wz _ h.l.z) (wz _ (ź (ŧ _ _) h.l.z)) λA4 e4 l4=>?_))))
 have S:∀{k':Nat} {l:ò},(k',l)≠(11,[w.g])->(k',l)≠(15,[c])->A4 (k',l)=A3 (k',l):=λz1 z2=>by rw [e4];exact (uN z1).trans (uN z2)
 have w4:WkA A4 {w with pn:=c,ps:=psF w.ps p,dr:=ad w.dr p,an:=ad w.an p,pe:=ad w.pe p}:=L.locks (λk l h1 H n1 n2=>S n1 n2) l4
 have o4:∀{a b:Nat},b<11\/15<a->Off a b A3 A4:=λz k l h1 H=>S (λz=>by cases z;lia) (λz=>by cases z;lia)
 have f4:Fr A4 (c+1):=by
  rw [e4]
  exact Fr.put (o':=.ins 9 [31110885616] [.ref (15,[w.pn])]) G.upd ((uN (by intro z;cases z)).trans L.l.l)
 have aw:=D.off (o4 (by lia))
 have ax:=N.off (o4 (by lia))
 have aS:Off 24 100 A A4:=O.tr (o4 (by lia))
 clear e4 S l4 o4 N D G O h1 H L
 refine aV (λj σ A'=>∃c' w' x' rows' lt',c<=c'/\Fr A' c'/\StA A' x'/\WkA A' w'/\ShA A' k rows' (sent++((frd w.ps p).take j).map (ltq w x.cs)) lt'/\rows'.length<=rows.length+j/\(lt'=.non\/lt'=bg x')/\Off 24 100 A A'/\w'.g=w.g/\EG w x p ((frd w.ps p).take j) w' x'/\∃f,σ=[some (.ref (10,[w.g])),some (.ref (20,[k])),some (nmA p),f])
  ⟨c+1,_,x,rows,lt,by lia,f4,aw,w4,by rw [List.take_zero,List.map_nil,ĳ];exact ax,ι _,hl,aS,ϱ,⟨ϱ,ϱ,λq=>?_,λq=>?_,λq=>?_,ϱ,ϱ,ϱ,ι _,λq h=>.inr h,Λ bZ (Nat.le_add_right _ _),Λ bZ (Nat.le_add_right _ _),bZ⟩,none,ϱ⟩ (λj y σ A' K hx hP hK=>?_) (fun σ A' hP=>?_)
 .simp only [List.take_zero,List.not_mem_nil,if_false];exact oA
 .simp only [List.take_zero,List.not_mem_nil,if_false];exact oA
 .simp only [List.take_zero,List.not_mem_nil,if_false];exact al_ad
 .obtain ⟨c1,i,I,u,a1,g1,g2,g3,F,g5,g6,g7,g8,g9,R,f,rfl⟩:=hP
  rw [Ź] at hx
  obtain ⟨r,v,rfl⟩:=ſ.mp hx
  have hm:=Ÿ v
  have U:r≠p:=λz=>g.np (z▸hm)
  have tk:=aU v g.nd
  have X:=(tk r).2
  have jl:j<(frd w.ps p).length:=(ž.mp v).1
  have bb:((frd w.ps p).take j).length<=j:=by rw [ű];lia
  have c3:=g.len
  have c4:=g.zd
  have c5:=g.za
  have c6:=g.zw
  have b1:al i.pe r=some (stq w r):=by
   rw [R.pe r,Ž X,Ž U]
   obtain ⟨y,hy⟩:=Ů.mp (g.pe r hm)
   unfold stq;rw [hy];rfl
  have Y:aI i.dr r=aI w.dr r:=by rw [aG,aG,R.dr r,Ž X,Ž U]
  have a4:aI i.an r=aI w.an r:=by rw [aG,aG,R.an r,Ž X,Ž U]
  have Z:(stq w r).2.2.done (dw {i with pe:=ad i.pe r} I r) (stq w r).2.1=dnq w x.cs r:=by
   rw [qb]
   show (stq w r).2.2.done (cV (aI i.dr r) I.cs) (stq w r).2.1=_
   rw [Y,R.cs];rfl
  rw [← g9]
  refine ⟨trivial,okI (af F.o) (ndI rfl (okI rfl (okI (ae F.o rfl) (okI (aY F.p) (okI rfl (okI rfl (okI (vM F.p b1) ?_)))))))⟩
  have h5:=F.setP (pe:=ad i.pe r) ⟨fM F.np.1,ź bZ F.np.2⟩
  obtain ⟨ar,as⟩:=g.ok r hm
  have xs:=AY I {i with pe:=ad i.pe r} r
  have rl:=sy u {i with pe:=ad i.pe r} r
  have Rd:=R.ld
  have Ra:=R.la
  have Rw:=R.wk
  refine jU (w:={i with pe:=ad i.pe r}) (s:=(stq w r).2.2) h5 (g5.off (C (by lia))) (g3.off (C (by lia))) (g2.put F.p) ar (by rw [R.cs];exact as) ?_ ?_ (by show (aI i.an r).length<899;rw [a4];exact g.la r hm) (by show (aI i.dr r).length<898;rw [Y];exact g.ld r hm) (by show i.an.length<898;lia) (by show i.dr.length<898;lia) (by lia) λA' c' cc ca lt' k1 k2 k3 k4 k5 k6 k7=>hK _ _ ⟨c',_,_,iq u {i with pe:=ad i.pe r} r,lt',Int.le_trans g1 k1,k2,k3,k4,?_,?_,?_,(g8.tr (C (by lia))).tr k7,g9,⟨g9,R.ps,λq=>?_,λq=>?_,λq=>?_,xs.1.trans R.cs,xs.2.1.trans R.rd,xs.2.2.1.trans R.en,?_,λq h=>?_,?_,?_,Λ bZ R.lp⟩,_,by rw [g9];rfl⟩
  .rw [ŷ,ν];lia
  .lia
  .rw [Z] at k5
   rw [ŏ,v,ů,← List.append_assoc]
   exact k5
  .exact Λ rl (by lia)
  .rcases k6 with rfl | rfl
   .rcases g7 with rfl | rfl
    .exact .inl rfl
    .refine .inr ?_
     show bg I=.tup _
     rw [xs.2.2.1]
   .refine .inr ?_
    show bg I=.tup _
    rw [xs.2.2.1]
  .rw [Z]
   show sel (ap i.dr r (cc,apL (aI i.dr r) _)) q=_
   rw [ik,Y,R.dr q]
   by_cases e:q=r
   .rw [Ż e,Ż (((aU v g.nd) q).1.mpr (.inr e)),e]
   .rw [Ž e]
    by_cases e2:q∈(frd w.ps p).take j
    .rw [Ż e2,Ż (((aU v g.nd) q).1.mpr (.inl e2))]
    .rw [Ž e2,Ž (λz=>(((aU v g.nd) q).1.mp z).elim e2 e)]
  .rw [Z]
   show sel (ap i.an r (ca,ap (aI i.an r) _ _)) q=_
   rw [ik,a4,R.an q]
   by_cases e:q=r
   .rw [Ż e,Ż (((aU v g.nd) q).1.mpr (.inr e)),e]
   .rw [Ž e]
    by_cases e2:q∈(frd w.ps p).take j
    .rw [Ż e2,Ż (((aU v g.nd) q).1.mpr (.inl e2))]
    .rw [Ž e2,Ž (λz=>(((aU v g.nd) q).1.mp z).elim e2 e)]
  .show al (ad i.pe r) q=_
   rw [al_ad,R.pe q]
   by_cases e:q=r
   .rw [Ż e,Ż (((aU v g.nd) q).1.mpr (.inr e))]
   .rw [Ž e]
    by_cases e2:q∈(frd w.ps p).take j
    .rw [Ż e2,Ż (((aU v g.nd) q).1.mpr (.inl e2))]
    .rw [Ž e2,Ž (λz=>(((aU v g.nd) q).1.mp z).elim e2 e)]
  .have:((frd w.ps p).take (j+1)).length=((frd w.ps p).take j).length+1:=by rw [ű,ű];lia
   rw [this];exact Λ xs.2.2.2 (by lia)
  .rcases AZ h with e | h
   .exact .inl (((aU v g.nd) q).1.mpr (.inr e))
   .exact (R.ws q h).imp (λz=>((aU v g.nd) q).1.mpr (.inl z)) id
  .have:((frd w.ps p).take (j+1)).length=((frd w.ps p).take j).length+1:=by rw [ű,ű];lia
   rw [this];exact Λ aL (by show i.dr.length+1<=_;lia)
  .have:((frd w.ps p).take (j+1)).length=((frd w.ps p).take j).length+1:=by rw [ű,ű];lia
   rw [this];exact Λ aL (by show i.an.length+1<=_;lia)
 .obtain ⟨c1,i,I,u,a1,g1,g2,g3,F,g5,g6,g7,g8,g9,R,f,rfl⟩:=hP
  rw [ν,ő] at g5 R
  exact ⟨trivial,q _ c1 i I u a1 g1 g2 g3 F g5 g7 g8 R⟩
end
section
variable {n:Nat}{A A' A'':AH}{Q:AQ}{c c' k:Int}{x x':Sx}{p q:P}{w w':Wk}
abbrev Rw:=P×(Ú Lk×Ú (Int×Int))
noncomputable def dS(ps:Ú Pr)(p:P)(ls:Ú Lk):Ú Pr:=ls.foldl (λps l=>aQ ps p l) ps
noncomputable def psA(rs:Ú Rw):Ú Pr:=rs.foldl (λps r=>dS ps r.1 r.2.1) []
theorem jf:∀{ls:Ú Lk} {ps:Ú Pr},(dS ps p ls).length<=ps.length+ls.length
 | [],ps=>ι _
 | l::ls,ps=>Λ (jf (ls:=ls) (ps:=aQ ps p l)) (by have:=jd (ps:=ps) (p:=p) (l:=l);rw [Ũ];lia)
theorem x9(h:WkA A w)(O:StA A x)(hf:Fr A c)(hw:∀j,j<lks.length->wts (dS w.ps p (lks.take j)) p=false)(hz:w.ps.length+lks.length<890)(X:ch.length<890)(S:w.dr.length<899)
  (q:∀A' pn,Fr A' (c+1)->WkA A' {w with pn:=pn,ps:=dS w.ps p lks,dr:=ap w.dr p (c,apL [] ch)}->Off 0 9 A A'->Off 18 100 A A'->Q .non A'):fnSp tb (n+6) 71 [.ref (10,[w.g]),rdR p (lks,ch)] A Q:=by
 refine fz (okI rfl ?_)
 refine aV (λj σ A'=>WkA A' {w with ps:=dS w.ps p (lks.take j)}/\Fr A' c/\Off 0 9 A A'/\Off 18 100 A A'/\∃f,σ=[some (.ref (10,[w.g])),some (rdR p (lks,ch)),f]) ⟨h,hf,Off.rf,Off.rf,none,ϱ⟩ (λj y σ A' K C u F=>?_) (fun σ A' u=>?_)
 .obtain ⟨g1,a,b,i,f,rfl⟩:=u
  rw [Ź] at C
  obtain ⟨l,v,rfl⟩:=ſ.mp C
  have D:j<lks.length:=(ž.mp v).1
  refine ⟨trivial,okI (ae g1.o rfl) (okI (af g1.l.l) (ndI rfl (okI rfl (jJ a.1 (rD g1 (hw j D) ?_ λA2 r G H I=>F _ _ ⟨?_,I _ a,b.tr (G.cut (by lia) (by lia)),i.tr (H.cut (by lia) (by lia)),_,ϱ⟩)))))⟩
  .refine ź jf ?_
   rw [ű];lia
  .rw [ŏ,v]
   unfold dS
   rw [List.foldl_append]
   exact r
 .obtain ⟨g1,a,b,i,f,rfl⟩:=u
  rw [ν,ő] at g1
  refine ⟨trivial,okI (eQ ch) (ndI (by rw [ν];lia) ?_)⟩
  rw [show aO [] [] (ch.map λx=>kI x.1) (ch.map λx=>AV.int x.2)=_ from cA ch []]
  refine ⟨(16,[c,p.1,p.2]),a.new,?_⟩
  have m:∀{k':Nat} {l:ò},k'≠16->ac A' (16,[c,p.1,p.2]) (dI (apL [] ch)) (k',l)=A' (k',l):=λz=>uN λe=>z (by cases e;rfl)
  refine okI (ae ((m (by lia)).trans g1.o) rfl) (okI (ju (y:=(c,apL [] ch)) ((m (by lia)).trans g1.d) h.nd.1 (by show w.dr.length<1000;lia) rfl) ?_)
  have r:=g1.putD (p:=p) (cc:=c) (d:=apL [] ch) (A':=ac (ac A' (16,[c,p.1,p.2]) (dI (apL [] ch))) (12,[w.g]) (dP drV (ap w.dr p (c,apL [] ch)))) (λk l h1 U L N=>(uN L).trans (uN N)) uS ((uN (by intro z;cases z)).trans uS) ⟨eR ŭ,ź eX (by show 0+ch.length<900;lia)⟩ S
  exact q _ w.pn (a.upd.put (o':=dP drV w.dr) ((m (by lia)).trans g1.d)) r ((b.up (.inr (by lia))).up (.inr (by lia))) ((i.up (.inl (by lia))).up (.inl (by lia)))
def bH{c f:Nat}{fs fs':ñ}{xs xs':Ú AV}{y:AV}{m:Nm}(h:A m=some (.ins c fs xs))(e:(tb.fl c f&&decide (fs.length<900))=true)(e1:eJ fs f=fs')(e2:iw fs xs f y=xs'):jr tb.fl (.ref m) f y A=some (ac A m (.ins c fs' xs')):=by subst e1 e2;exact aH h e
theorem Au{κ α:Type} [DecidableEq κ]{l:Ú (κ×α)}{j:Nat}{r:κ×α}(hn:nds l)(h:l[j]?=some r):al (l.take j) r.1=none:=al_none.mpr λy hy e=>by
 obtain ⟨h1,h2⟩:=ž.mp h
 obtain ⟨t,ht,ey⟩:=Ŧ.mp hy
 rw [ű] at ht
 rw [List.getElem_take] at ey
 have:=(Ě (h₀:=by rw [ν];lia) (h₁:=by rw [ν];exact h1) hn).mp (show (l.map (·.1))[t]'_=(l.map (·.1))[j]'_ by rw [Ļ,Ļ,ey,h2];exact e)
 lia
theorem qJ{K:Nm->AH->Prop}{K2:ñ->Ú AV->Prop}(U:StA A x)(hf:Fr A c)(hw:∀(i:Nat) (r:Rw),(bnd x)[i]?=some r->r.2.2.length<890/\(psA ((bnd x).take i)).length+r.2.1.length<890/\∀j,j<r.2.1.length->wts (dS (psA ((bnd x).take i)) r.1 (r.2.1.take j)) r.1=false)(hl:(bnd x).length<800)
  (q:∀A' c' w',c<=c'->Fr A' c'->StA A' x->WkA A' w'->Off 24 100 A A'->w'.g=c->w'.an=[]->w'.pe=[]->w'.ps=psA (bnd x)->(∀q,sel w'.dr q=(al (bnd x) q).map λy=>apL [] y.2)->w'.dr.length<=(bnd x).length->K (10,[c]) A') :
  ∃m,A m=none/\fnSp tb (n+8) 70 [.ref m,.ref (1,[]),.int 4,.int 5] (ac A m (.ins 20 [] [])) λv A2=>v=.non/\(K m A2\/∃fs ys,A2 m=some (.ins 20 fs ys)/\(∀m',m'≠m->A2 m'=A m')/\bP ys=true/\K2 fs ys):=by
 have e0:∀{k:Nat} {l:ò} {k':Nat} {l':ò} {A:AH} {o:AO},k'≠k->ac A (k,l) o (k',l')=A (k',l'):=λh=>uN λz=>h (by cases z;rfl)
 have N:∀k,A (k,[c])=none:=λk=>hf.new
 refine ⟨(10,[c]),hf.new,fz (okI rfl (okI (bH (fs':=[27075836531]) (xs':=[.ref (1,[])]) uS rfl rfl rfl) (okI (bH (fs':=[27075836531,213612520]) (xs':=[.ref (1,[]),.int 4]) uS rfl rfl rfl) (okI (bH (fs':=[27075836531,213612520,255570157]) (xs':=[.ref (1,[]),.int 4,.int 5]) uS rfl rfl rfl) ?_))))⟩
 rw [uu,uu,uu]
 generalize eB:ac A (10,[c]) (.ins 20 [27075836531,213612520,255570157] [.ref (1,[]),.int 4,.int 5])=B
 have b1:B (10,[c])=_:=eB▸uS
 have b3:∀(k:Nat) l,(k,l)≠(10,[c])->B (k,l)=A (k,l):=λk l z=>eB▸uN z
 refine ⟨(11,[c]),(b3 _ _ (by intro z;cases z)).trans (N _),fz (okI rfl (.inr ⟨(15,[c]),(e0 (by lia)).trans ((b3 _ _ (by intro z;cases z)).trans (N _)),okI (bH (fs':=[31110885616]) (xs':=[.ref (15,[c])]) ((e0 (by lia)).trans uS) rfl rfl rfl) ⟨ϱ,.inl ?_⟩⟩))⟩
 generalize eC:ac (ac (ac B (11,[c]) (.ins 9 [] [])) (15,[c]) (.lst [])) (11,[c]) (.ins 9 [31110885616] [.ref (15,[c])])=C
 have F:C (10,[c])=some (.ins 20 [27075836531,213612520,255570157] [.ref (1,[]),.int 4,.int 5]):=by rw [← eC,e0 (by lia),e0 (by lia),e0 (by lia)];exact b1
 have c2:C (11,[c])=some (.ins 9 [31110885616] [.ref (15,[c])]):=eC▸uS
 have c3:C (15,[c])=some (.lst []):=by rw [← eC,e0 (by lia)];exact uS
 have O:∀(k:Nat) l,(k,l)≠(10,[c])->(k,l)≠(11,[c])->(k,l)≠(15,[c])->C (k,l)=A (k,l):=λk l w S z3=>by rw [← eC,uN S,uN z3,uN S];exact b3 k l w
 refine okI (bH (fs':=[27075836531,213612520,255570157,31096109036]) (xs':=[.ref (1,[]),.int 4,.int 5,.ref (11,[c])]) F rfl rfl rfl) (.inr ⟨(12,[c]),(e0 (by lia)).trans ((O _ _ (by intro z;cases z) (by intro z;cases z) (by intro z;cases z)).trans (N _)),okI (bH (fs':=[27075836531,213612520,255570157,31096109036,3982723938660]) (xs':=[.ref (1,[]),.int 4,.int 5,.ref (11,[c]),.ref (12,[c])]) ((e0 (by lia)).trans uS) rfl rfl rfl)
  (.inr ⟨(13,[c]),(e0 (by lia)).trans ((e0 (by lia)).trans ((e0 (by lia)).trans ((O _ _ (by intro z;cases z) (by intro z;cases z) (by intro z;cases z)).trans (N _)))),okI (bH (fs':=[27075836531,213612520,255570157,31096109036,3982723938660,509719722391393]) (xs':=[.ref (1,[]),.int 4,.int 5,.ref (11,[c]),.ref (12,[c]),.ref (13,[c])]) ((e0 (by lia)).trans uS) rfl rfl rfl)
  (.inr ⟨(14,[c]),(e0 (by lia)).trans ((e0 (by lia)).trans ((e0 (by lia)).trans ((e0 (by lia)).trans ((e0 (by lia)).trans ((O _ _ (by intro z;cases z) (by intro z;cases z) (by intro z;cases z)).trans (N _)))))),okI (bH (fs':=[27075836531,213612520,255570157,31096109036,3982723938660,509719722391393,456806759117552]) (xs':=[.ref (1,[]),.int 4,.int 5,.ref (11,[c]),.ref (12,[c]),.ref (13,[c]),.ref (14,[c])]) ((e0 (by lia)).trans uS) rfl rfl rfl) ?_⟩)⟩)⟩)
 generalize eD:ac (ac (ac (ac (ac (ac (ac C (10,[c]) (.ins 20 [27075836531,213612520,255570157,31096109036] [.ref (1,[]),.int 4,.int 5,.ref (11,[c])])) (12,[c]) (.dT [] [])) (10,[c]) (.ins 20 [27075836531,213612520,255570157,31096109036,3982723938660] [.ref (1,[]),.int 4,.int 5,.ref (11,[c]),.ref (12,[c])])) (13,[c]) (.dT [] [])) (10,[c]) (.ins 20 [27075836531,213612520,255570157,31096109036,3982723938660,509719722391393] [.ref (1,[]),.int 4,.int 5,.ref (11,[c]),.ref (12,[c]),.ref (13,[c])])) (14,[c]) (.dT [] [])) (10,[c]) (.ins 20 [27075836531,213612520,255570157,31096109036,3982723938660,509719722391393,456806759117552] [.ref (1,[]),.int 4,.int 5,.ref (11,[c]),.ref (12,[c]),.ref (13,[c]),.ref (14,[c])])=D
 have d1:D (10,[c])=_:=eD▸uS
 have d2:∀(k:Nat) l,k≠10->k≠12->k≠13->k≠14->D (k,l)=C (k,l):=λk l w S z3 z4=>by rw [← eD,e0 w,e0 z4,e0 w,e0 z3,e0 w,e0 S,e0 w]
 have d3:D (12,[c])=some (.dT [] []):=by rw [← eD,e0 (by lia),e0 (by lia),e0 (by lia),e0 (by lia),e0 (by lia)];exact uS
 have d4:D (13,[c])=some (.dT [] []):=by rw [← eD,e0 (by lia),e0 (by lia),e0 (by lia)];exact uS
 have d5:D (14,[c])=some (.dT [] []):=by rw [← eD,e0 (by lia)];exact uS
 have Q:∀(k:Nat) l,(k≠10/\k≠11/\k≠12/\k≠13/\k≠14/\k≠15)\/l≠[c]->D (k,l)=A (k,l):=λk l z=>by
  have b:∀m,m=10\/m=11\/m=12\/m=13\/m=14\/m=15->(k,l)≠(m,[c]):=λm hm e=>by
   cases e
   rcases z with ⟨w,S,z3,z4,z5,z6⟩ | z
   .lia
   .exact z rfl
  rw [← eD,uN (b _ (by lia)),uN (b _ (by lia)),uN (b _ (by lia)),uN (b _ (by lia)),uN (b _ (by lia)),uN (b _ (by lia)),uN (b _ (by lia))]
  exact O _ _ (b _ (by lia)) (b _ (by lia)) (b _ (by lia))
 have w0:WkA D {g:=c,pn:=c,ps:=[],dr:=[],an:=[],pe:=[]}:=⟨d1,⟨(d2 _ _ (by lia) (by lia) (by lia) (by lia)).trans c2,(d2 _ _ (by lia) (by lia) (by lia) (by lia)).trans c3,show (0:Nat)<1000 by decide⟩,d3,d4,d5,(λx H=>nomatch H),(λx H=>nomatch H),⟨ŭ,show (0:Nat)<900 by decide⟩,⟨ŭ,show (0:Nat)<900 by decide⟩,⟨ŭ,show (0:Nat)<900 by decide⟩⟩
 have f0:Fr D (c+1):=⟨(Q _ _ (.inl (by lia))).trans hf.1,λk i l hi=>(Q _ _ (.inr λz=>by cases z;lia)).trans (hf.2 k i l (by lia))⟩
 have o1:Off 0 9 A D:=λk l h1 h2=>Q k l (.inl (by lia))
 have o2:Off 18 100 A D:=λk l h1 h2=>Q k l (.inl (by lia))
 have a:=U.off (o1.cut (by lia) (by lia))
 clear eB eC eD b1 b3 F c2 c3 O d1 d2 d3 d4 d5 Q
 have ab:=o2.cut (a':=24) (b':=100) (by lia) (by lia)
 have nb:nds (bnd x):=ĸ (ĩ _ ı) U.nr.1
 refine okI (af a.s) (ndI rfl (okI rfl (nJ a ?_)))
 refine aV (λj σ A'=>∃c' w',c<=c'/\Fr A' c'/\StA A' x/\WkA A' w'/\Off 24 100 A A'/\w'.g=c/\w'.an=[]/\w'.pe=[]/\w'.ps=psA ((bnd x).take j)/\(∀q,sel w'.dr q=(al ((bnd x).take j) q).map λy=>apL [] y.2)/\w'.dr.length<=j/\∃f,σ=[some (.ref (10,[c])),some (.ref (1,[])),some (.int 4),some (.int 5),f])
  ⟨c+1,_,by lia,f0,a,w0,ab,ϱ,ϱ,ϱ,ϱ,λq=>rfl,ι _,none,ϱ⟩ (λj y σ A' K H hP hK=>?_) (fun σ A' hP=>?_)
 .obtain ⟨F,X,g1,g2,Y,Z,g5,I,g7,g8,G,d,u,f,rfl⟩:=hP
  rw [Ź] at H
  obtain ⟨r,L,rfl⟩:=ſ.mp H
  obtain ⟨h1,h2,h3⟩:=hw j r L
  have jl:j<(bnd x).length:=(ž.mp L).1
  have e1:(bnd x).take (j+1)=ap ((bnd x).take j) r.1 r.2:=by
   rw [dU (Au nb L),ŏ,L];rfl
  rw [← I]
  refine ⟨trivial,okI (af Z.o) (ndI rfl (okI rfl (x9 (p:=r.1) (lks:=r.2.1) (ch:=r.2.2) Z Y g2 (by rw [G];exact h3) (by rw [G];exact h2) h1 (by lia) λA2 pn k1 k2 k3 k4=>hK _ _ ⟨F+1,_,by lia,k1,Y.off (k3.cut (by lia) (by lia)),k2,g5.tr (k4.cut (by lia) (by lia)),I,g7,g8,?_,λq=>?_,?_,_,by rw [I];rfl⟩)))⟩
  .show dS X.ps r.1 r.2.1=_
   rw [G,ŏ,L]
   unfold psA
   rw [List.foldl_append];rfl
  .show sel (ap X.dr r.1 _) q=_
   rw [ik,e1,al_ap,d q]
   split<;>rfl
  .exact Λ aL (by lia)
 .obtain ⟨F,X,g1,g2,Y,Z,g5,I,g7,g8,G,d,u,f,rfl⟩:=hP
  rw [ν,ő] at G
  rw [ν] at u
  refine ⟨trivial,ϱ,.inl (q A' F X g1 g2 Y Z g5 I g7 g8 G (λq=>?_) u)⟩
  have:=d q
  rw [ν,ő] at this
  exact this
end
section
def aZ{α:Type}{P:Ú α->Prop}(h0:P [])(h1:∀l a,P l->P (l++[a]))(l:Ú α):P l:=by
 have b:∀r:Ú α,P r.reverse:=λr=>by
  induction r with
  | nil=>exact h0
  | cons a r ih=>rw [List.reverse_cons];exact h1 _ _ ih
 have:=b l.reverse
 rwa [List.reverse_reverse] at this
variable {ps:Ú Pr}{z z':Pr}{p q:P}{l l' l1:Lk}
def zH:hin (ps++[z]) ps.length z=ps.findIdx? (bad z):=by unfold hin;rw [List.take_left]
def ff:(hin (ps++[z]) ps.length z).isNone=!ps.any (bad z):=by
 rw [zH]
 cases h:ps.any (bad z) with
 | false =>
  rw [List.findIdx?_eq_none_iff.mpr λx a=>by
   cases e:bad z x with
   | false=>rfl
   | true=>rw [Ţ.mpr ⟨x,a,e⟩] at h;cases h];rfl
 | true =>
  cases e:ps.findIdx? (bad z) with
  | some i=>rfl
  | none =>
   obtain ⟨x,a,b⟩:=Ţ.mp h
   rw [List.findIdx?_eq_none_iff.mp e x a] at b;cases b
def qN(h:x∈ps.zipIdx):hel (ps++[z]) x=hel ps x:=by
 unfold hel hin
 have:x.2<=ps.length:=ĕ (ž.mp (ck h)).1
 rw [List.take_append_of_le_length this]
def pV:(ps++[z]).zipIdx=ps.zipIdx++[(z,ps.length)]:=by rw [List.zipIdx_append];simp
def bN:aE (ps++[z])=aE ps++if ps.any (bad z) then [] else [z]:=by
 unfold aE
 rw [pV,List.filter_append,ů,List.filter_congr λx a=>qN a]
 congr 1
 have:hel (ps++[z]) (z,ps.length)=!ps.any (bad z):=ff
 cases h:ps.any (bad z)<;>rw [h] at this
 .rw [List.filter_cons_of_pos this];rfl
 .rw [List.filter_cons_of_neg (by rw [this];exact Ų)];rfl
def b0:az (ps++[z])=az ps++if ps.any (bad z) then [z] else []:=by
 unfold az
 rw [pV,List.filter_append,ů,List.filter_congr (q:=λx=>!hel ps x) λx a=>by rw [qN a]]
 congr 1
 have:hel (ps++[z]) (z,ps.length)=!ps.any (bad z):=ff
 cases h:ps.any (bad z)<;>rw [h] at this
 .rw [List.filter_cons_of_neg (by rw [this];exact Ų)];rfl
 .rw [List.filter_cons_of_pos (by rw [this];rfl)];rfl
def v9(h:z∈ps):z∈aE ps\/z∈az ps:=by
 revert h
 refine aZ (P:=λps=>z∈ps->z∈aE ps\/z∈az ps) (λh=>nomatch h) (λps a b h=>?_) ps
 rw [bN,b0,Ű,Ű]
 rcases Ű.mp h with h | h
 .exact (b h).imp .inl .inl
 .rw [Ŋ] at h
  subst h
  cases ps.any (bad z)
  .exact .inl (.inr (ϵ.mpr rfl))
  .exact .inr (.inr (ϵ.mpr rfl))
def zI(h:z∈aE ps):z∈ps:=by
 obtain ⟨x,a,rfl⟩:=ϑ.mp h
 exact Ÿ (ck (ŵ.mp a).1)
def kg(h:z∈az ps):z∈ps:=by
 obtain ⟨x,a,rfl⟩:=ϑ.mp h
 exact Ÿ (ck (ŵ.mp a).1)
def qp:psF (ps++[z]) p=if z.1=p then psF ps p else psF ps p++[z]:=by
 unfold psF
 rw [List.filter_append]
 split
 .rename_i h;rw [List.filter_cons_of_neg (by simp [h])];simp
 .rename_i h;rw [List.filter_cons_of_pos (by simp [h])];rfl
def BA(h:ps.any (bad z)=false):(psF ps p).any (bad z)=false:=by
 rw [Ġ] at h ⊢
 exact λx a=>h x (ŵ.mp a).1
def we(h:z∈aE ps)(hz:z.1≠p):z∈aE (psF ps p):=by
 revert h
 refine aZ (P:=λps=>z∈aE ps->z∈aE (psF ps p)) (λh=>h) (λps a b h=>?_) ps
 rw [bN] at h
 rw [qp]
 rcases Ű.mp h with h | h
 .split
  .exact b h
  .rw [bN];exact ũ _ (b h)
 .cases e:ps.any (bad a) with
  | true=>rw [e] at h;cases h
  | false =>
   rw [e] at h
   rw [Ž Ų,Ŋ] at h
   subst h
   rw [Ž hz,bN,BA e]
   exact Ψ _ (ϵ.mpr rfl)
def wait_F:(az (psF ps p)).Sublist (az ps):=by
 refine aZ (P:=λps=>(az (psF ps p)).Sublist (az ps)) (List.Sublist.refl _) (λps a b=>?_) ps
 rw [qp,b0]
 split
 .exact b.trans (List.sublist_append_left _ _)
 .rw [b0]
  refine b.append ?_
  cases e:ps.any (bad a) with
  | false=>rw [BA e];exact List.Sublist.refl _
  | true=>cases (psF ps p).any (bad a)<;>simp
def in_F:z∈psF ps p↔z∈ps/\z.1≠p:=by unfold psF;rw [List.mem_filter];simp
def lU:bes l l'=bes l' l:=by
 unfold bes
 obtain ⟨k,a,b⟩:=l
 obtain ⟨c,d,e⟩:=l'
 rw [Bool.or_comm (decide _)]
 congr 1
 cases k<;>cases c<;>rfl
def mV(h:z∈aE ps)(h':z'∈aE ps)(b:z.1≠z'.1):bes z.2 z'.2=true:=by
 revert h h'
 refine aZ (P:=λps=>z∈aE ps->z'∈aE ps->bes z.2 z'.2=true) (λh=>nomatch h) (λps a c h h'=>?_) ps
 rw [bN] at h h'
 have one:∀{u v:Pr},u∈aE ps->v∈(if ps.any (bad a)=true then [] else [a])->u.1≠v.1->bes u.2 v.2=true:=λ{u v} hu hv b=>by
  cases e:ps.any (bad a) with
  | true=>rw [e] at hv;cases hv
  | false =>
   rw [e,Ž Ų,Ŋ] at hv
   subst hv
   have:=Ġ.mp e u (zI hu)
   unfold bad at this
   simp [b] at this
   exact this
 rcases Ű.mp h with h | h<;>rcases Ű.mp h' with h' | h'
 .exact c h h'
 .exact one h h' b
 .rw [lU];exact one h' h (Ne.symm b)
 .cases e:ps.any (bad a) with
  | true=>rw [e] at h;cases h
  | false =>
   rw [e,Ž Ų,Ŋ] at h h'
   exact absurd (by rw [h,h']) b
def fj:cov l l=true:=by unfold cov;simp
def cov_iff:cov l l'=true↔l.a<=l'.a/\l'.b<=l.b/\l'.k.rk<=l.k.rk:=by unfold cov;simp [and_assoc]
theorem tX(h:cov l l'=true)(h':cov l' l1=true):cov l l1=true:=by
 rw [cov_iff] at *
 lia
def yl(k k1 k2:Kd):k.rk<=k1.rk->k1.sh k2=true->k.sh k2=true:=by cases k<;>cases k1<;>cases k2<;>decide
theorem rB(h:cov l1 l=true)(hb:bes l1 l'=true):bes l l'=true:=by
 rw [cov_iff] at h
 obtain ⟨h1,b,a⟩:=h
 unfold bes at *
 rw [Bool.or_eq_true,Bool.or_eq_true,Ĵ,Ĵ] at *
 rcases hb with (hb | hb) | hb
 .exact .inl (.inl (by lia))
 .exact .inl (.inr (by lia))
 .refine .inr ?_
  exact yl _ _ _ a hb
def j7(h:jg ps p l=true):(∃l1,(p,l1)∈aQ ps p l/\cov l1 l=true)/\az (aQ ps p l)=az ps/\(∀z∈aE ps,z∈aE (aQ ps p l))/\(ps.any (own p l)=false->aE (aQ ps p l)=aE ps++[(p,l)]):=by
 unfold jg at h
 unfold aQ
 cases e:ps.any (own p l) with
 | true =>
  rw [Ż rfl]
  obtain ⟨x,b,a⟩:=Ţ.mp e
  unfold own at a
  rw [Ā,Ĵ] at a
  exact ⟨⟨x.2,by rw [← a.1];exact b,a.2⟩,ϱ,λ_ z=>z,λz=>by cases z⟩
 | false =>
  rw [e,ff] at h
  have h:ps.any (bad (p,l))=false:=by simpa using h
  rw [Ž Ų,b0,bN,h]
  exact ⟨⟨l,List.mem_append_right _ (List.mem_singleton.mpr rfl),fj⟩,by simp,λz c=>List.mem_append_left _ c,λ_=>rfl⟩
def j6(h:jg ps p l=false):az (aQ ps p l)=az ps++[(p,l)]/\aE (aQ ps p l)=aE ps:=by
 unfold jg at h
 rw [Bool.or_eq_false_iff,ff] at h
 obtain ⟨e,h⟩:=h
 have h:ps.any (bad (p,l))=true:=by simpa using h
 unfold aQ
 rw [Ž (by rw [e];exact Ų),b0,bN,h]
 simp
def lW(h:z∈aQ ps p l):z∈ps\/z=(p,l):=by
 unfold aQ at h
 split at h
 .exact .inl h
 .exact (Ű.mp h).imp id λh=>ϵ.mp h
def xa(h:z∈ps):z∈aQ ps p l:=by
 unfold aQ
 split
 .exact h
 .exact ũ _ h
def qz(h:∀u∈ps,∀v∈ps,u.1≠v.1->bes u.2 v.2=true):az ps=[]:=by
 revert h
 refine aZ (P:=λps=>(∀u∈ps,∀v∈ps,u.1≠v.1->bes u.2 v.2=true)->az ps=[]) (λ_=>rfl) (λps a b h=>?_) ps
 have:ps.any (bad a)=false:=Ġ.mpr λx c=>by
  unfold bad
  by_cases e:x.1=a.1
  .simp [e]
  .simp [h x (List.mem_append_left _ c) a (List.mem_append_right _ (List.mem_singleton.mpr rfl)) e]
 rw [b0,this,b λu d v i=>h u (ũ _ d) v (ũ _ i)]
 rfl
def uh(h:az ps=[]):wts ps p=false:=by unfold wts;rw [h];rfl
theorem lX:∀{ls:Ú Lk} {ps:Ú Pr},z∈dS ps p ls->z∈ps\/(z.1=p/\z.2∈ls)
 | [],_,h=>.inl h
 | l::ls,ps,h=>by
  rcases lX (ls:=ls) (ps:=aQ ps p l) h with h | h
  .rcases lW h with h | rfl
   .exact .inl h
   .exact .inr ⟨ϱ,Ω⟩
  .exact .inr ⟨h.1,Θ _ h.2⟩
theorem je:∀{ls:Ú Lk} {ps:Ú Pr},z∈ps->z∈dS ps p ls
 | [],_,h=>h
 | l::ls,ps,h=>je (ls:=ls) (xa h)
def xc:∃l1,(p,l1)∈aQ ps p l/\cov l1 l=true:=by
 unfold aQ
 split
 .rename_i e
  obtain ⟨x,b,a⟩:=Ţ.mp e
  unfold own at a
  rw [Ā,Ĵ] at a
  exact ⟨x.2,by rw [← a.1];exact b,a.2⟩
 .exact ⟨l,Ψ _ (ϵ.mpr rfl),fj⟩
theorem nM:∀{ls:Ú Lk} {ps:Ú Pr},l∈ls->∃l1,(p,l1)∈dS ps p ls/\cov l1 l=true
 | [],_,h=>nomatch h
 | l0::ls,ps,h=>by
  rcases ϕ.mp h with rfl | h
  .obtain ⟨l1,h1,h2⟩:=xc (ps:=ps) (p:=p) (l:=l)
   exact ⟨l1,je (ls:=ls) h1,h2⟩
  .exact nM (ps:=aQ ps p l0) h
def eK:psA (rs++[r])=dS (psA rs) r.1 r.2.1:=by unfold psA;rw [List.foldl_append];rfl
def vi:z∈psA rs->∃r∈rs,z.1=r.1/\z.2∈r.2.1:=by
 refine aZ (P:=λrs=>z∈psA rs->∃r∈rs,z.1=r.1/\z.2∈r.2.1) (λh=>nomatch h) (λrs a c h=>?_) rs
 rw [eK] at h
 rcases lX h with h | ⟨h1,h2⟩
 .obtain ⟨r,b,h⟩:=c h
  exact ⟨r,ũ _ b,h⟩
 .exact ⟨a,Ψ _ (ϵ.mpr rfl),h1,h2⟩
def qq:r∈rs->l∈r.2.1->∃l1,(r.1,l1)∈psA rs/\cov l1 l=true:=by
 refine aZ (P:=λrs=>r∈rs->l∈r.2.1->∃l1,(r.1,l1)∈psA rs/\cov l1 l=true) (λh=>nomatch h) (λrs a d h b=>?_) rs
 rw [eK]
 rcases Ű.mp h with h | h
 .obtain ⟨l1,h1,c⟩:=d h b
  exact ⟨l1,je h1,c⟩
 .rw [Ŋ] at h
  subst h
  exact nM b
end
section
noncomputable def gv(cs:ò)(i:Int):Int:=cs.getD i.toNat 0
structure Stp.Rg(s:Stp)(m:Nat):Prop where
 ok:s.Ok
 a:s.a<m
 b:s.w=.sum->s.b<m
noncomputable def Stp.pl(s:Stp)(cs:ò)(h:Int):Ú Int×Int:=(aM cs (s.done (gv cs) h).2,(s.done (gv cs) h).1)
noncomputable def bA(cs:ò)(h:Int):Ú (Stp×Int)->Option (ò)
 | []=>some cs
 | (s,t)::r=>if (s.pl cs h).2=t then bA (s.pl cs h).1 t r else none
noncomputable def lh(h:Int):Ú (Stp×Int)->Int
 | []=>h
 | (_,t)::r=>lh t r
variable {s:Stp}{h:Int}{cs ds c':ò}{V V':Int->Int}{d ch:Ú (Int×Int)}{st:Ú (Stp×Int)}
theorem qV(n:s.Rg m)(e:∀i:Int,0<=i->i<m->s.lk.a<=i->i<=s.lk.b->V i=V' i):s.done V h=s.done V' h:=by
 obtain ⟨w,a,b⟩:=s
 obtain ⟨⟨⟨d,o⟩,_,p⟩,j,c⟩:=n
 dsimp only at d j c
 cases w
 .exact congrArg (λv=>(v,[])) (e a d j (Ŗ _) (Ŗ _))
 .exact congrArg (λv=>(v,[])) (e a d j (Ŗ _) (Ŗ _))
 .have q:b<m:=c rfl
  refine congrArg (λv=>(List.sum v,[])) (List.map_congr_left λi l=>?_)
  have l:i<(b+1-a).toNat:=ę.mp l
  exact e (a+(i:Nat)) (by lia) (by lia) (by show a<=a+(i:Nat);lia) (by show a+(i:Nat)<=b;lia)
 .rfl
 .exact congrArg (λv=>(h,[(a,v+b)])) (e a d j (Ŗ _) (Ŗ _))
def fh:(s.done V h).2=[]\/(s.lk=⟨.c,s.a,s.a⟩/\∃v,(s.done V h).2=[(s.a,v)]):=by
 obtain ⟨w,a,b⟩:=s
 cases w<;>first | exact .inl rfl | exact .inr ⟨ϱ,_,ϱ⟩
theorem iU{i j:Int}{v:Int}(a:0<=i/\i<cs.length)(b:0<=j):gv (cs.set i.toNat v) j=if j=i then v else gv cs j:=by
 unfold gv
 rw [Ŭ,Ŭ]
 split
 .rename_i e;subst e;rw [İ (by lia)];rfl
 .rename_i e;rw [Ň (by lia)]
def fE{κ α:Type} [DecidableEq κ]{l:Ú (κ×α)}{x:κ×α}{k:κ}:al (x::l) k=if x.1=k then some x.2 else al l k:=rfl
theorem pz:∀{ch:Ú (Int×Int)} {cs:ò} {j:Int},nds ch->(∀z∈ch,0<=z.1/\z.1<cs.length)->0<=j->gv (aM cs ch) j=(al ch j).getD (gv cs j)
 | [],cs,j,_,_,_=>rfl
 | y::ch,cs,j,hn,hr,hj=>by
  obtain ⟨n1,n2⟩:=ŝ.mp hn
  show gv (aM (cs.set y.1.toNat y.2) ch) j=_
  rw [pz n2 (λz hz=>by rw [Ĳ];exact hr z (Θ _ hz)) hj,iU (hr y Ω) hj]
  rw [fE]
  by_cases e:y.1=j
  .have n3:al ch j=none:=al_none.mpr λz hz ez=>n1 (show y.1∈ch.map (·.1) by rw [e,← ez];exact ł hz)
   rw [Ż e,Ż e.symm,n3];rfl
  .rw [Ž e,Ž (Ne.symm e)]
theorem Dv(b:cs.length=ds.length)(e:∀i:Int,0<=i->i<cs.length->gv cs i=gv ds i):cs=ds:=by
 refine List.ext_getElem b λi h1 a=>?_
 have:=e i (by lia) (by lia)
 unfold gv at this
 rw [ń,Ŭ,Ŭ,ξ h1,ξ a] at this
 exact this
def Vw(d:Ú (Int×Int))(cs c':ò):Prop:=c'.length=cs.length/\∀i:Int,0<=i->i<cs.length->gv c' i=cV d cs i
def BV:Vw [] cs cs:=⟨ϱ,λ_ _ _=>rfl⟩
def xV(hv:Vw d cs c')(hs:s.Rg cs.length):s.done (gv c') h=s.done (cV d cs) h:=qV hs λi h0 h1 _ _=>hv.2 i h0 h1
def xU(b:Vw d cs c')(j:s.Rg cs.length):Vw (apL d (s.done (cV d cs) h).2) cs (aM c' (s.done (cV d cs) h).2):=by
 refine ⟨setAll_len.trans b.1,λi h0 h1=>?_⟩
 have l:=j.a
 have c:=j.ok.a.1
 rcases fh (s:=s) (V:=cV d cs) (h:=h) with e | ⟨_,v,e⟩<;>rw [e]
 .exact b.2 i h0 h1
 .show gv (c'.set s.a.toNat v) i=(al (ap d s.a v) i).getD _
  rw [iU ⟨c,by rw [b.1];exact l⟩ h0,al_ap,b.2 i h0 h1]
  split<;>rfl
theorem fK:∀{st:Ú (Stp×Int)} {cs:ò} {h:Int},bA cs h (st++[t])=(bA cs h st).bind λc=>if (t.1.pl c (lh h st)).2=t.2 then some (t.1.pl c (lh h st)).1 else none
 | [],cs,h=>by
  obtain ⟨s,u⟩:=t
  show (if (s.pl cs h).2=u then some (s.pl cs h).1 else none)=_
  rfl
 | (s,u)::st,cs,h=>by
  show (if (s.pl cs h).2=u then bA (s.pl cs h).1 u (st++[t]) else none)=(if (s.pl cs h).2=u then bA (s.pl cs h).1 u st else none).bind _
  split
  .exact fK
  .rfl
theorem kW:∀{st:Ú (Stp×Int)} {h:Int},lh h (st++[t])=t.2
 | [],_=>rfl
 | _::st,_=>kW (st:=st)
def zp(e:st[st.length-1]?=some t):lh h st=t.2:=by
 refine aZ (P:=λst=>st[st.length-1]?=some t->lh h st=t.2) (λe=>by simp at e) (λst a _ e=>?_) st e
 rw [kW]
 simp at e
 rw [e]
def ig{T:Int->Prop}(c:s.Rg cs.length)(d:∀i,s.lk.a<=i->i<=s.lk.b->T i){i:Int}(h0:0<=i)(j:¬T i):gv (aM cs (s.done V h).2) i=gv cs i:=by
 rcases fh (s:=s) (V:=V) (h:=h) with e | ⟨e1,v,e⟩<;>rw [e]
 .rfl
 .show gv (cs.set s.a.toNat v) i=_
  rw [iU ⟨c.ok.a.1,c.a⟩ h0,Ž λz=>j (d i (by rw [e1,z];exact Ŗ _) (by rw [e1,z];exact Ŗ _))]
theorem mF{T:Int->Prop}:∀{st:Ú (Stp×Int)} {h:Int} {cs ds c':ò},bA cs h st=some c'->cs.length=ds.length->(∀t∈st,t.1.Rg cs.length/\∀i,t.1.lk.a<=i->i<=t.1.lk.b->T i)->(∀i:Int,0<=i->T i->gv cs i=gv ds i) ->
  ∃d',bA ds h st=some d'/\d'.length=ds.length/\c'.length=cs.length/\(∀i:Int,0<=i->T i->gv d' i=gv c' i)/\∀i:Int,0<=i->¬T i->gv d' i=gv ds i/\gv c' i=gv cs i
 | [],h,cs,ds,c',e,hl,_,ha=>by cases e;exact ⟨ds,rfl,rfl,rfl,λi h0 ht=>(ha i h0 ht).symm,λi _ _=>⟨rfl,rfl⟩⟩
 | (s,u)::st,h,cs,ds,c',e,hl,hT,ha=>by
  obtain ⟨r1,r2⟩:=hT (s,u) Ω
  have ed:s.done (gv ds) h=s.done (gv cs) h:=qV r1 λi h0 h1 h2 h3=>(ha i h0 (r2 i h2 h3)).symm
  change (if (s.pl cs h).2=u then bA (s.pl cs h).1 u st else none)=some c' at e
  split at e
  .rename_i eu
   have l1:(s.pl cs h).1.length=cs.length:=setAll_len
   have l2:(s.pl ds h).1.length=ds.length:=setAll_len
   have ag:∀i:Int,0<=i->T i->gv (s.pl cs h).1 i=gv (s.pl ds h).1 i:=λi h0 ht=>by
    show gv (aM cs _) i=gv (aM ds _) i
    rw [ed]
    rcases fh (s:=s) (V:=gv cs) (h:=h) with e | ⟨e1,v,e⟩<;>rw [e]
    .exact ha i h0 ht
    .show gv (cs.set s.a.toNat v) i=gv (ds.set s.a.toNat v) i
     rw [iU ⟨r1.ok.a.1,r1.a⟩ h0,iU ⟨r1.ok.a.1,hl▸r1.a⟩ h0,ha i h0 ht]
   obtain ⟨d',p1,p2,p3,p4,p5⟩:=mF (st:=st) e (l1.trans (hl.trans l2.symm)) (λt ht=>by rw [l1];exact hT t (Θ _ ht)) ag
   refine ⟨d',?_,p2.trans l2,p3.trans l1,p4,λi h0 hi=>⟨(p5 i h0 hi).1.trans ?_,(p5 i h0 hi).2.trans (ig r1 r2 h0 hi)⟩⟩
   .show (if (s.pl ds h).2=u then bA (s.pl ds h).1 u st else none)=_
    rw [Ż (show (s.pl ds h).2=u by rw [← eu];exact congrArg Prod.fst ed)]
    exact p1
   .exact ig (cs:=ds) (hl▸r1) r2 h0 hi
  .cases e
structure Run(cs:ò)(st:Ú (Stp×Int))(d:Ú (Int×Int))(c':ò):Prop where
 pl:bA cs 0 st=some c'
 vw:Vw d cs c'
 nd:nds d
 ky:∀z∈d,(0<=z.1/\z.1<cs.length)/\∃t∈st,t.1.lk=⟨.c,z.1,z.1⟩
 ln:d.length<=st.length
 rg:∀t∈st,t.1.Rg cs.length
def kz:Run cs [] [] cs:=⟨ϱ,BV,ŭ,(λz hz=>nomatch hz),ι _,(λt ht=>nomatch ht)⟩
theorem mo(r:Run cs st d c')(i:s.Rg cs.length):Run cs (st++[(s,(s.done (cV d cs) (lh 0 st)).1)]) (apL d (s.done (cV d cs) (lh 0 st)).2) (aM c' (s.done (cV d cs) (lh 0 st)).2):=by
 have j:=xV (h:=lh 0 st) r.vw i
 refine ⟨?_,xU r.vw i,eR r.nd,λz hz=>?_,?_,λt ht=>?_⟩
 .rw [fK,r.pl]
  show (if (s.pl c' (lh 0 st)).2=_ then some (s.pl c' (lh 0 st)).1 else none)=_
  unfold Stp.pl
  rw [j,Ż rfl]
 .have b:z∈d->(0<=z.1/\z.1<cs.length)/\∃t∈st++[(s,(s.done (cV d cs) (lh 0 st)).1)],t.1.lk=⟨.c,z.1,z.1⟩:=λhz=>⟨(r.ky z hz).1,let ⟨t,h1,h2⟩:=(r.ky z hz).2;⟨t,ũ _ h1,h2⟩⟩
  rcases fh (s:=s) (V:=cV d cs) (h:=lh 0 st) with e | ⟨e1,v,e⟩<;>rw [e] at hz
  .exact b hz
  .rcases pP hz with rfl | hz
   .exact ⟨⟨i.ok.a.1,i.a⟩,_,Ψ _ (ϵ.mpr rfl),e1⟩
   .exact b hz
 .rw [ŷ]
  refine Λ eX ?_
  have:=r.ln
  rcases fh (s:=s) (V:=cV d cs) (h:=lh 0 st) with e | ⟨e1,v,e⟩<;>rw [e]<;>simp<;>lia
 .rcases Ű.mp ht with ht | ht
  .exact r.rg t ht
  .rw [Ŋ] at ht;rw [ht];exact i
theorem yC(r:Run cs st d c')(h:cs.length=ds.length)(m:∀i:Int,0<=i->(∃t∈st,t.1.lk.a<=i/\i<=t.1.lk.b)->gv cs i=gv ds i):∃d',Run ds st d d':=by
 obtain ⟨d',n,o,x,p,q⟩:=mF (T:=λi=>∃t∈st,t.1.lk.a<=i/\i<=t.1.lk.b) r.pl h (λt c=>⟨r.rg t c,λi h1 u=>⟨t,c,h1,u⟩⟩) m
 refine ⟨d',n,⟨o,λi h0 h1=>?_⟩,r.nd,λz w=>by rw [← h];exact r.ky z w,r.ln,λt c=>h▸r.rg t c⟩
 have l:=r.vw.2 i h0 (by lia)
 unfold cV at l ⊢
 by_cases hT:∃t∈st,t.1.lk.a<=i/\i<=t.1.lk.b
 .rw [p i h0 hT,l]
  show _=(al d i).getD (gv ds i)
  rw [← m i h0 hT];rfl
 .rw [(q i h0 hT).1]
  cases e:al d i with
  | none=>rfl
  | some v =>
   obtain ⟨_,t,c,j⟩:=r.ky _ (aX e)
   exact absurd ⟨t,c,by rw [j];exact Ŗ _,by rw [j];exact Ŗ _⟩ hT
def yB(r:Run cs st d c')(e:∀i,al ch i=al d i)(a:nds ch):aM cs ch=c':=by
 have b:∀z∈ch,0<=z.1/\z.1<cs.length:=λz c=>by
  have:=cT a c
  rw [e] at this
  exact (r.ky _ (aX this)).1
 refine Dv (setAll_len.trans r.vw.1.symm) λi h0 h1=>?_
 rw [pz a b h0,e,r.vw.2 i h0 (by rw [setAll_len] at h1;exact h1)];rfl
end
section
structure Lw where
 lv:Ú P
 st:Ú (P×Ú (Stp×Int))
 ak:Ú (P×(Int×Int×Stp))
 bd:Ú (P×Unit)
noncomputable def stO(y:Lw)(p:P):Ú (Stp×Int):=(al y.st p).getD []
def Ans(l:Ú (Int×Int))(s:Ú (Stp×Int)):Prop:=∀j:Int,al l j=if 0<=j then (s[j.toNat]?).map (·.2) else none
noncomputable def cnu(ps:Ú Pr)(p:P):Nat:=(ps.filter λz=>decide (z.1=p)).length
structure PO(x:Sx)(w:Wk)(y:Lw)(p:P):Prop where
 run:∃c',Run x.cs (stO y p) ((sel w.dr p).getD []) c'
 cv:∀t∈stO y p,∃l,(p,l)∈aE w.ps/\cov l t.1.lk=true
 ak:al y.ak p=al w.pe p
 aw:∀a,al y.ak p=some a->a.1=(stO y p).length/\a.2.1=lh 0 (stO y p)/\a.2.2.Rg x.cs.length/\(p,a.2.2.lk)∈az w.ps/\∀z∈az w.ps,z.1=p->z.2=a.2.2.lk
 an0:al y.ak p=none->∀z∈az w.ps,z.1≠p
 ln:(stO y p).length+(if (al y.ak p).isSome then 1 else 0)<=12
 np:cnu w.ps p<=(stO y p).length+(if (al y.ak p).isSome then 1 else 0)
 la:((sel w.an p).getD []).length<=(stO y p).length
 bd:al y.bd p=none->al x.rd p=none/\(stO y p=[]->sel w.an p=none/\sel w.dr p=none)/\(stO y p≠[]->(sel w.dr p).isSome/\∃l,sel w.an p=some l/\Ans l (stO y p))
 bn:(al y.bd p).isSome->al y.ak p=none/\sel w.an p=none/\stO y p≠[]/\∃r:Ú Lk×Ú (Int×Int),al x.rd p=some r/\nds r.2/\(∀i,al r.2 i=al ((sel w.dr p).getD []) i)/\(∀t∈stO y p,∃l∈r.1,cov l t.1.lk=true)/\(∀l∈r.1,∃l1,(p,l1)∈aE w.ps/\cov l1 l=true)/\r.1.length<=(stO y p).length/\r.2.length<=(stO y p).length
variable {x x':Sx}{w w':Wk}{y y':Lw}{p q:P}{L:Ú P}
structure GV(x:Sx)(w:Wk)(y:Lw)(x':Sx)(w':Wk)(y':Lw)(q:P):Prop where
 st:al y'.st q=al y.st q
 dr:sel w'.dr q=sel w.dr q
 an:sel w'.an q=sel w.an q
 pe:al w'.pe q=al w.pe q
 ak:al y'.ak q=al y.ak q
 bd:al y'.bd q=al y.bd q
 rd:al x'.rd q=al x.rd q
 hh:∀l,(q,l)∈aE w.ps->(q,l)∈aE w'.ps
 hw:∀z:Pr,z.1=q->(z∈az w'.ps↔z∈az w.ps)
 np:cnu w'.ps q=cnu w.ps q
def PO.fr(h:PO x w y q)(e:GV x w y x' w' y' q)(H:x'.cs.length=x.cs.length)(I:∀c',Run x.cs (stO y q) ((sel w.dr q).getD []) c'->∃c',Run x'.cs (stO y q) ((sel w.dr q).getD []) c'):PO x' w' y' q:=by
 have b:stO y' q=stO y q:=by unfold stO;rw [e.st]
 obtain ⟨c',r⟩:=h.run
 refine ⟨by rw [b,e.dr];exact I c' r,λt u=>?_,by rw [e.ak,e.pe];exact h.ak,λa d=>?_,λd z p i=>?_,by rw [b,e.ak];exact h.ln,by rw [b,e.ak,e.np];exact h.np,by rw [b,e.an];exact h.la,λj=>?_,λj=>?_⟩
 .rw [b] at u
  obtain ⟨l,h1,c⟩:=h.cv t u
  exact ⟨l,e.hh l h1,c⟩
 .rw [e.ak] at d
  obtain ⟨h1,c,m,n,o⟩:=h.aw a d
  exact ⟨by rw [b];exact h1,by rw [b];exact c,by rw [H];exact m,(e.hw _ rfl).mpr n,λz p i=>o z ((e.hw z i).mp p) i⟩
 .rw [e.ak] at d
  exact h.an0 d z ((e.hw z i).mp p) i
 .rw [e.bd] at j
  rw [e.rd,b,e.an,e.dr]
  exact h.bd j
 .rw [e.bd] at j
  rw [e.ak,b,e.an,e.dr,e.rd]
  obtain ⟨h1,c,m,r,n,o,v,C,D,F⟩:=h.bn j
  exact ⟨h1,c,m,r,n,o,v,C,λl G=>let ⟨l1,k1,k2⟩:=D l G;⟨l1,e.hh _ k1,k2⟩,F⟩
noncomputable def act(x:Sx)(y:Lw)(p:P):Nat:=if al x.en p=none/\(stO y p≠[]\/(al y.ak p).isSome=true) then 1 else 0
noncomputable def jp(x:Sx)(y:Lw):Nat:=(y.lv.map (act x y)).sum
def Lv(x:Sx)(y:Lw)(L:Ú P)(q:P):Prop:=q∈y.lv/\al x.en q=none/\q∉L
structure GO(x:Sx)(w:Wk)(y:Lw)(L:Ú P)(k:Nat):Prop where
 lv:∃a b c:Int,y.lv=[(0,a),(1,b),(2,c)]
 po:∀p,Lv x y L p->PO x w y p
 kn:∀q,(al y.st q).isSome=true->∃p∈y.lv,p.1=q.1/\q.2<=p.2
 ks:∀p∈y.lv,(al y.st p).isSome=true
 kl:∀q,(al y.st q).isSome=true->al x.en q=none->q∈y.lv
 lp:∀z∈w.ps,Lv x y L z.1
 ld:∀q,(sel w.dr q).isSome=true->Lv x y L q
 la:∀q,(sel w.an q).isSome=true->Lv x y L q
 le:∀q,(al w.pe q).isSome=true->Lv x y L q
 lk:∀q,(al y.ak q).isSome=true->Lv x y L q
 rb:∀q,(al y.bd q).isSome=(al x.rd q).isSome
 ws:∀q,(al x.wk q).isSome=true->(al y.st q).isSome=true
 rs:∀q,(al x.rd q).isSome=true->(al y.st q).isSome=true
 es:∀q,(al x.en q).isSome=true->(al y.st q).isSome=true
 wn:((az w.ps).map (·.1)).Nodup
 cs:0<x.cs.length/\x.cs.length<=8
 ec:x.en.length+jp x y<=k
theorem d8{α:Type} [DecidableEq α]:∀{l m:Ú α},l.Nodup->(∀a∈l,a∈m)->l.length<=m.length
 | [],_,_,_=>ϖ _
 | a::l,m,hn,h=>by
  obtain ⟨n1,n2⟩:=ŝ.mp hn
  have hm:=h a Ω
  have:l.length<=(m.erase a).length:=d8 n2 λb hb=>(List.mem_erase_of_ne λe=>n1 (by rw [← e];exact hb)).mpr (h b (Θ _ hb))
  rw [List.length_erase_of_mem hm] at this
  have:=List.length_pos_of_mem hm
  rw [Ũ];lia
def du{κ α:Type} [DecidableEq κ]{l:Ú (κ×α)}{x:κ×α}(h:x∈l):(al l x.1).isSome=true:=by
 cases e:al l x.1 with
 | some _=>rfl
 | none=>exact absurd rfl (al_none.mp e x h)
def GO.len3{k:Nat}(g:GO x w y L k){α:Type}{l:Ú (P×α)}(j:nds l)(h:∀q,(al l q).isSome=true->Lv x y L q):l.length<=3:=by
 obtain ⟨a,b,c,e⟩:=g.lv
 have:=d8 (m:=y.lv) j λq i=>by
  obtain ⟨z,d,rfl⟩:=ϑ.mp i
  exact (h _ (du d)).1
 rw [ν,e] at this
 exact this
theorem GO.lenS{k:Nat}(g:GO x w y L k){α:Type}{l:Ú (P×α)}(j:nds l)(h:∀q,(al l q).isSome=true->(al y.st q).isSome=true):l.length<=3+k:=by
 obtain ⟨a,b,c,e⟩:=g.lv
 have:=d8 (m:=y.lv++x.en.map (·.1)) j λq i=>by
  obtain ⟨z,d,rfl⟩:=ϑ.mp i
  cases e2:al x.en z.1 with
  | none=>exact ũ _ (g.kl _ (h _ (du d)) e2)
  | some v=>exact Ψ _ (ł (f:=(·.1)) (aX e2))
 rw [ν,ŷ,ν,e] at this
 have n:=g.ec
 exact Λ this (by show 3+x.en.length<=3+k;lia)
theorem Gb:∀{ps:Ú Pr},(∀z∈ps,z.1=a\/z.1=b\/z.1=c)->ps.length<=cnu ps a+cnu ps b+cnu ps c
 | [],_=>ϖ _
 | z::ps,h=>by
  have ih:=Gb λz hz=>h z (Θ _ hz)
  have one:∀p,cnu (z::ps) p=cnu ps p+if z.1=p then 1 else 0:=λp=>by
   unfold cnu
   by_cases e:z.1=p
   .rw [if_pos e,List.filter_cons_of_pos (by simp [e])];rfl
   .rw [if_neg e,List.filter_cons_of_neg (by simp [e])];rfl
  rw [one,one,one,Ũ]
  rcases h z Ω with e | e | e<;>rw [Ż e]<;>lia
theorem GO.lenP{k:Nat}(g:GO x w y L k):w.ps.length<=36:=by
 obtain ⟨a,b,c,e⟩:=g.lv
 have h:=Gb (a:=(0,a)) (b:=(1,b)) (c:=(2,c)) (ps:=w.ps) λz d=>by
  have:=(g.lp z d).1
  rw [e] at this
  simpa using this
 have one:∀p∈y.lv,cnu w.ps p<=12:=λp hp=>by
  by_cases hl:Lv x y L p
  .exact Λ (g.po p hl).np (g.po p hl).ln
  .have:cnu w.ps p=0:=by
    unfold cnu
    rw [List.length_eq_zero_iff,List.filter_eq_nil_iff]
    exact λz d e=>hl (by have:=g.lp z d;rwa [Ξ e] at this)
   lia
 rw [e] at one
 have h1:=one _ Ω
 have i:=one (1,b) (by simp)
 have j:=one (2,c) (by simp)
 lia
def Ds(d:nds x.rd):isB x p=((al x.rd p).isSome&&(al x.en p).isNone):=by
 rw [Ģ,Ā]
 unfold isB bnd
 constructor
 .intro h
  obtain ⟨r,b,e⟩:=Ţ.mp h
  obtain ⟨h1,a⟩:=ŵ.mp b
  have e:=Ξ e
  subst e
  exact ⟨du h1,a⟩
 .rintro ⟨h1,a⟩
  obtain ⟨v,c⟩:=Ů.mp h1
  exact Ţ.mpr ⟨(p,v),ŵ.mpr ⟨aX c,a⟩,τ rfl⟩
theorem Ci(g:GO x w y L k){f f':P->Nat}(hp:p∈y.lv)(h:∀q∈y.lv,q≠p->f' q<=f q)(m:f' p<=f p+d):(y.lv.map f').sum<=(y.lv.map f).sum+d:=by
 obtain ⟨a,b,c,e⟩:=g.lv
 rw [e] at hp h ⊢
 simp only [List.map_cons,List.map_nil,List.sum_cons,List.sum_nil]
 have i:=h (0,a) (by simp)
 have j:=h (1,b) (by simp)
 have l:=h (2,c) (by simp)
 simp only [List.mem_cons,List.mem_nil_iff,or_false] at hp
 rcases hp with rfl | rfl | rfl
 .have:=j (by simp);have:=l (by simp);lia
 .have:=i (by simp);have:=l (by simp);lia
 .have:=i (by simp);have:=j (by simp);lia
end
section
variable {x x':Sx}{w w':Wk}{y y':Lw}{p q:P}{L:Ú P}{k k':Nat}{s:Stp}{l:Lk}{ps:Ú Pr}
def lL(h:q≠p):cnu (aQ ps p l) q=cnu ps q:=by
 unfold aQ cnu
 split
 .rfl
 .rw [List.filter_append,List.filter_cons_of_neg (by simp [Ne.symm h])];simp
theorem i9:cnu (aQ ps p l) p<=cnu ps p+1:=by
 unfold aQ cnu
 split
 .lia
 .rw [List.filter_append,ŷ]
  exact Nat.add_le_add_left (ŧ _ _) _
theorem nO{l:Ú (Int×Int)}{st:Ú (Stp×Int)}{t:Stp×Int}(h:Ans l st):Ans (ap l st.length t.2) (st++[t]):=λj=>by
 rw [al_ap]
 by_cases e:j=st.length
 .rw [Ż e,Ż (by lia),e,ń,ť (ι _),ā];rfl
 .rw [Ž e,h j]
  by_cases h0:0<=j
  .rw [Ż h0,Ż h0]
   by_cases hl:j.toNat<st.length
   .rw [Ĥ hl]
   .rw [List.getElem?_eq_none (by lia),List.getElem?_eq_none (by rw [List.length_append];simp;lia)]
  .rw [Ž h0,Ž h0]
def rF:Ans [] []:=λj=>by unfold al;simp
def GO.asked(g:GO x w y L k)(hp:Lv x y L p):∀a,al y.ak p=some a->al w.pe p=some a:=λa h=>by rw [← (g.po p hp).ak];exact h
theorem zK(g:GO x w y L k)(hp:Lv x y L p)(c:al y.ak p=none)(H:al y.bd p=none)(hl:(stO y p).length<12)(hs:s.Rg x.cs.length)(hb:jg w.ps p s.lk=true)(hr:r=s.done (cV ((sel w.dr p).getD []) x.cs) (lh 0 (stO y p)))
  (m:w'.ps=aQ w.ps p s.lk)(O:∀q,sel w'.dr q=if q=p then some (apL ((sel w.dr p).getD []) r.2) else sel w.dr q)(Q:∀q,sel w'.an q=if q=p then some (ap ((sel w.an p).getD []) (stO y p).length r.1) else sel w.an q)(Z:∀q,al w'.pe q=al w.pe q)
  (S:x'.cs=x.cs)(U:x'.rd=x.rd)(I:x'.en=x.en)(e8:∀q,(al x'.wk q).isSome=true->q=p\/(al x.wk q).isSome=true)
  (C:y'.lv=y.lv)(K:∀q,al y'.st q=if q=p then some (stO y p++[(s,r.1)]) else al y.st q)(v:∀q,al y'.ak q=al y.ak q)(f4:y'.bd=y.bd):GO x' w' y' L (k+1):=by
 have n:=g.po p hp
 obtain ⟨a1,N,a3,a4⟩:=j7 hb
 have b:∀q,Lv x' y' L q↔Lv x y L q:=λq=>by unfold Lv;rw [C,I]
 have o:stO y' p=stO y p++[(s,r.1)]:=by unfold stO;rw [K,if_pos rfl];rfl
 have so:∀q,q≠p->stO y' q=stO y q:=λq h=>by unfold stO;rw [K,if_neg h]
 have j:∀q,(al y.st q).isSome=true->(al y'.st q).isSome=true:=λq h=>by rw [K];split<;>first | rfl | exact h
 have D:∀q,(al y'.st q).isSome=true->(al y.st q).isSome=true:=λq h=>by
  by_cases e:q=p
  .rw [e];exact g.ks p hp.1
  .rw [K,Ž e] at h;exact h
 have F:∀z∈az w.ps,z.1≠p:=n.an0 c
 obtain ⟨c',R⟩:=n.run
 refine ⟨by rw [C];exact g.lv,λq X=>?_,λq h=>by rw [C];exact g.kn q (D q h),λq h=>j q (g.ks q (C▸h)),λq h1 i=>by rw [C];rw [I] at i;exact g.kl q (D q h1) i,λz G=>?_,λq h=>?_,λq h=>?_,λq h=>by rw [Z] at h;exact (b q).mpr (g.le q h),λq h=>by rw [v] at h;exact (b q).mpr (g.lk q h),λq=>by rw [f4,U];exact g.rb q,λq h=>j q ?_,λq h=>by rw [U] at h;exact j q (g.rs q h),λq h=>by rw [I] at h;exact j q (g.es q h),by rw [m,N];exact g.wn,by rw [S];exact g.cs,?_⟩
 .have X:=(b q).mp X
  by_cases e:q=p
  .subst e
   have Y:(sel w'.dr q).getD []=apL ((sel w.dr q).getD []) r.2:=by rw [O,Ż rfl];rfl
   refine ⟨⟨_,by rw [o,Y,S,hr];exact mo R hs⟩,λt ht=>?_,by rw [v,Z];exact n.ak,λa ha=>?_,λ_ z G=>?_,?_,?_,?_,λu=>?_,λu=>?_⟩
   .rw [o] at ht
    rw [m]
    rcases Ű.mp ht with ht | ht
    .obtain ⟨l,h1,i⟩:=n.cv t ht
     exact ⟨l,a3 _ h1,i⟩
    .rw [Ŋ] at ht
     subst ht
     obtain ⟨l1,h1,i⟩:=a1
     exact ⟨l1,(v9 h1).resolve_right λz=>F _ (N▸z) rfl,i⟩
   .rw [v,c] at ha;cases ha
   .rw [m,N] at G;exact F z G
   .rw [o,v,c,ŷ];show (stO y q).length+1+0<=12;lia
   .rw [o,v,c,m,ŷ]
    have:=n.np
    rw [c] at this
    have i:=i9 (ps:=w.ps) (p:=q) (l:=s.lk)
    show _<=(stO y q).length+1+0
    simp at this
    lia
   .rw [Q,Ż rfl,o,ŷ]
    exact Λ aL (Nat.add_le_add_right n.la 1)
   .obtain ⟨b1,b2,b3⟩:=n.bd H
    refine ⟨by rw [U];exact b1,λz=>?_,λ_=>⟨by rw [O,Ż rfl];rfl,_,by rw [Q,Ż rfl],?_⟩⟩
    .rw [o] at z;exact absurd z (by simp)
    .rw [o]
     refine nO (t:=(s,r.1)) ?_
     by_cases hn:stO y q=[]
     .rw [(b2 hn).1,hn];exact rF
     .obtain ⟨_,l,h1,i⟩:=b3 hn
      rw [h1];exact i
   .rw [f4,H] at u;cases u
  .refine (g.po q X).fr ⟨by rw [K,Ž e],by rw [O,Ž e],by rw [Q,Ž e],Z q,v q,by rw [f4],by rw [U],λl h=>by rw [m];exact a3 _ h,λz _=>by rw [m,N],by rw [m,lL e]⟩ (by rw [S]) λc' R=>⟨c',by rw [S];exact R⟩
 .rw [m] at G
  refine (b _).mpr ?_
  rcases lW G with h | h
  .exact g.lp z h
  .rw [h];exact hp
 .refine (b q).mpr ?_
  by_cases e:q=p
  .rw [e];exact hp
  .rw [O,Ž e] at h;exact g.ld q h
 .refine (b q).mpr ?_
  by_cases e:q=p
  .rw [e];exact hp
  .rw [Q,Ž e] at h;exact g.la q h
 .rcases e8 q h with e | h
  .rw [e];exact g.ks p hp.1
  .exact g.ws q h
 .have:=Ci g (f:=act x y) (f':=act x' y') (d:=1) hp.1 (λq _ e=>by unfold act;rw [I,so q e,v];exact Nat.le_refl _) (by unfold act;split<;>lia)
  have i:=g.ec
  unfold jp at *
  rw [I,C]
  lia
theorem zJ(g:GO x w y L k)(hp:Lv x y L p)(C:al y.ak p=none)(D:al y.bd p=none)(hl:(stO y p).length<12)(Z:s.Rg x.cs.length)(hb:jg w.ps p s.lk=false)
  (m:w'.ps=aQ w.ps p s.lk)(G:w'.dr=w.dr)(H:w'.an=w.an)(Q:∀q,al w'.pe q=if q=p then some (((stO y p).length:Int),lh 0 (stO y p),s) else al w.pe q)
  (u:y'.lv=y.lv)(n:y'.st=y.st)(o:∀q,al y'.ak q=if q=p then some (((stO y p).length:Int),lh 0 (stO y p),s) else al y.ak q)(S:y'.bd=y.bd):GO x w' y' L (k+1):=by
 have r:=g.po p hp
 obtain ⟨I,U⟩:=j6 hb
 have c:∀q,Lv x y' L q↔Lv x y L q:=λq=>by unfold Lv;rw [u]
 have j:∀q,stO y' q=stO y q:=λq=>by unfold stO;rw [n]
 have v:∀z∈az w.ps,z.1≠p:=r.an0 C
 refine ⟨by rw [u];exact g.lv,λq K=>?_,λq h=>by rw [u];rw [n] at h;exact g.kn q h,λq h=>by rw [n];exact g.ks q (u▸h),λq h1 N=>by rw [u];rw [n] at h1;exact g.kl q h1 N,λz hz=>?_,λq h=>by rw [G] at h;exact (c q).mpr (g.ld q h),λq h=>by rw [H] at h;exact (c q).mpr (g.la q h),λq h=>?_,λq h=>?_,λq=>by rw [S];exact g.rb q,λq h=>by rw [n];exact g.ws q h,λq h=>by rw [n];exact g.rs q h,λq h=>by rw [n];exact g.es q h,?_,g.cs,?_⟩
 .have K:=(c q).mp K
  by_cases e:q=p
  .subst e
   refine ⟨by rw [j,G];exact r.run,λt X=>?_,by rw [o,Q,Ż rfl,Ż rfl],λa F=>?_,λh=>?_,?_,?_,by rw [j,H];exact r.la,λ_=>?_,λi=>?_⟩
   .rw [j] at X
    rw [m,U]
    exact r.cv t X
   .rw [o,Ż rfl] at F
    cases F
    rw [j,m,I]
    refine ⟨ϱ,ϱ,Z,Ψ _ (ϵ.mpr rfl),λz hz O=>?_⟩
    rcases Ű.mp hz with hz | hz
    .exact absurd O (v z hz)
    .rw [ϵ.mp hz]
   .rw [o,Ż rfl] at h;cases h
   .rw [j,o,Ż rfl];show (stO y q).length+1<=12;lia
   .rw [j,o,Ż rfl,m]
    have:=r.np
    rw [C] at this
    have N:=i9 (ps:=w.ps) (p:=q) (l:=s.lk)
    show _<=(stO y q).length+1
    simp at this
    lia
   .rw [j,G,H];exact r.bd D
   .rw [S,D] at i;cases i
  .refine (g.po q K).fr ⟨by rw [n],by rw [G],by rw [H],by rw [Q,Ž e],by rw [o,Ž e],by rw [S],ϱ,λl h=>by rw [m,U];exact h,λz O=>?_,by rw [m,lL e]⟩ rfl λY R=>⟨Y,R⟩
   rw [m,I,Ű]
   exact ⟨λh=>h.resolve_right λh=>e (by rw [← O,ϵ.mp h]),.inl⟩
 .rw [m] at hz
  refine (c _).mpr ?_
  rcases lW hz with h | h
  .exact g.lp z h
  .rw [h];exact hp
 .refine (c q).mpr ?_
  by_cases e:q=p
  .rw [e];exact hp
  .rw [Q,Ž e] at h;exact g.le q h
 .refine (c q).mpr ?_
  by_cases e:q=p
  .rw [e];exact hp
  .rw [o,Ž e] at h;exact g.lk q h
 .rw [m,I,ů]
  refine List.nodup_append.mpr ⟨g.wn,by simp,λa F b i=>?_⟩
  obtain ⟨z,hz,rfl⟩:=ϑ.mp F
  rw [show b=p by simpa using i]
  exact v z hz
 .have:=Ci g (f:=act x y) (f':=act x y') (d:=1) hp.1 (λq _ e=>by unfold act;rw [j q,o,if_neg e];exact Nat.le_refl _) (by unfold act;split<;>lia)
  have N:=g.ec
  unfold jp at *
  rw [u]
  lia
end
section
variable {x x':Sx}{w w':Wk}{y y':Lw}{p q:P}{L:Ú P}{k k':Nat}{s:Stp}{l:Lk}{ps:Ú Pr}
def wc:(aE ps).Sublist ps:=by
 unfold aE
 have:=(ı (p:=hel ps) (l:=ps.zipIdx)).map (·.1)
 rwa [List.zipIdx_map_fst] at this
def zo:(iK ps p).length<=cnu ps p:=by
 unfold iK cnu
 rw [ν]
 exact (List.Sublist.filter _ wc).length_le
def lks_in:l∈iK ps p↔(p,l)∈aE ps:=by
 unfold iK
 rw [List.mem_map]
 constructor
 .rintro ⟨⟨a,b⟩,h,rfl⟩
  obtain ⟨h1,c⟩:=ŵ.mp h
  rw [← show a=p from Ξ c];exact h1
 .exact λh=>⟨(p,l),ŵ.mpr ⟨h,τ rfl⟩,ϱ⟩
def d9:(L2.bh L2.ltP d).Perm d:=by
 cases d with
 | nil=>exact .refl _
 | cons a d=>exact L2.d9 _ _ (Nat.succ_pos _)
def Av{d e:Ú (Int×Int)}(h:e.Perm d)(b:nds d):nds e/\∀i,al e i=al d i:=by
 have a:nds e:=((h.map _).nodup_iff).mpr b
 refine ⟨a,λi=>?_⟩
 cases h1:al d i with
 | some v=>exact cT a (h.symm.subset (aX h1))
 | none =>
  cases h2:al e i with
  | none=>rfl
  | some v=>have:=cT b (h.subset (aX h2));rw [h1] at this;cases this
def wj(g:GO x w y L k)(hp:Lv x y L p)(a0:al y.bd p=none)(r:al y.ak p=none)(hn:stO y p≠[]){d:Ú (Int×Int)}(S:sel w.dr p=some d)
  (i:w'.ps=w.ps)(D:w'.dr=w.dr)(F:∀q,sel w'.an q=if q=p then none else sel w.an q)(I:w'.pe=w.pe)
  (u:x'.cs=x.cs)(v:∀q,al x'.rd q=if q=p then some (iK w.ps p,L2.bh L2.ltP d) else al x.rd q)(C:x'.en=x.en)(e8:x'.wk=x.wk)
  (o:y'.lv=y.lv)(m:y'.st=y.st)(j:y'.ak=y.ak)(G:∀q,al y'.bd q=if q=p then some () else al y.bd q):GO x' w' y' L k:=by
 have b:=g.po p hp
 have a:∀q,Lv x' y' L q↔Lv x y L q:=λq=>by unfold Lv;rw [o,C]
 have c:∀q,stO y' q=stO y q:=λq=>by unfold stO;rw [m]
 obtain ⟨K,R⟩:=b.run
 refine ⟨by rw [o];exact g.lv,λq H=>?_,λq h=>by rw [o];rw [m] at h;exact g.kn q h,λq h=>by rw [m];exact g.ks q (o▸h),λq h1 n=>by rw [o];rw [m] at h1;rw [C] at n;exact g.kl q h1 n,λz Y=>(a _).mpr (g.lp z (i▸Y)),λq h=>by rw [D] at h;exact (a q).mpr (g.ld q h),λq h=>?_,λq h=>by rw [I] at h;exact (a q).mpr (g.le q h),λq h=>by rw [j] at h;exact (a q).mpr (g.lk q h),λq=>?_,λq h=>by rw [m];rw [e8] at h;exact g.ws q h,λq h=>?_,λq h=>by rw [m];rw [C] at h;exact g.es q h,by rw [i];exact g.wn,by rw [u];exact g.cs,?_⟩
 .have H:=(a q).mp H
  by_cases e:q=p
  .subst e
   refine ⟨by rw [c,D,u];exact b.run,by rw [c,i];exact b.cv,by rw [j,I];exact b.ak,by rw [j,c,i,u];exact b.aw,by rw [j,i];exact b.an0,by rw [c,j];exact b.ln,by rw [c,j,i];exact b.np,by rw [F,Ż rfl];exact ϖ _,λO=>?_,λ_=>?_⟩
   .rw [G,Ż rfl] at O;cases O
   .rw [S] at R
    have N:=d9 (d:=d)
    obtain ⟨U,X⟩:=Av N R.nd
    refine ⟨by rw [j];exact r,by rw [F,Ż rfl],by rw [c];exact hn,_,by rw [v,Ż rfl],U,by rw [D,S];exact X,λt Q=>?_,λl Z=>?_,?_,?_⟩
    .rw [c] at Q
     obtain ⟨l,h1,n⟩:=b.cv t Q
     exact ⟨l,lks_in.mpr h1,n⟩
    .rw [i];exact ⟨l,lks_in.mp Z,fj⟩
    .rw [c]
     have:=b.np
     rw [r] at this
     exact Λ zo this
    .rw [c]
     exact Λ (Nat.le_of_eq N.length_eq) R.ln
  .refine (g.po q H).fr ⟨by rw [m],by rw [D],by rw [F,Ž e],by rw [I],by rw [j],by rw [G,Ž e],by rw [v,Ž e],λl h=>by rw [i];exact h,λz _=>by rw [i],by rw [i]⟩ (by rw [u]) λK R=>⟨K,by rw [u];exact R⟩
 .refine (a q).mpr ?_
  by_cases e:q=p
  .rw [e];exact hp
  .rw [F,Ž e] at h;exact g.la q h
 .by_cases e:q=p
  .rw [G,v,Ż e,Ż e];rfl
  .rw [G,v,Ž e,Ž e];exact g.rb q
 .rw [m]
  by_cases e:q=p
  .rw [e];exact g.ks p hp.1
  .rw [v,Ž e] at h;exact g.rs q h
 .have n:=g.ec
  have:∀q,act x' y' q=act x y q:=λq=>by unfold act;rw [C,c,j]
  unfold jp at *
  rw [C,o,funext this]
  exact n
def frd_in:q∈frd ps p↔(∃z∈az ps,z.1=q)/\q≠p/\∀z∈az (psF ps p),z.1≠q:=by
 have a:∀z:Pr,(!decide (z.1=p)&&!((az (psF ps p)).map (·.1)).any λu=>decide (u=z.1))=true↔z.1≠p/\∀u∈az (psF ps p),u.1≠z.1:=λz=>by
  simp only [Bool.and_eq_true,Bool.not_eq_true',decide_eq_false_iff_not,List.any_eq_false,decide_eq_true_eq,List.mem_map,forall_exists_index,and_imp,forall_apply_eq_imp_iff₂]
 unfold frd
 rw [List.mem_map]
 constructor
 .rintro ⟨z,h,rfl⟩
  obtain ⟨h1,b⟩:=ŵ.mp h
  exact ⟨⟨z,h1,ϱ⟩,(a z).mp b⟩
 .rintro ⟨⟨z,h1,rfl⟩,b⟩
  exact ⟨z,ŵ.mpr ⟨h1,(a z).mpr b⟩,ϱ⟩
def fY(h:((az ps).map (·.1)).Nodup):(frd ps p).Nodup:=by
 unfold frd
 exact ĸ (ĩ _ ı) h
def Bt(h:q≠p):cnu (psF ps p) q=cnu ps q:=by
 unfold cnu psF
 rw [List.filter_filter]
 congr 1
 refine List.filter_congr λz _=>?_
 by_cases e:z.1=q
 .simp [e,h]
 .simp [e]
def cK(g:GO x w y L k)(c:q∈frd w.ps p):Lv x y L q/\∃a,al y.ak q=some a/\stq w q=a:=by
 obtain ⟨⟨z,h1,e⟩,d,i⟩:=frd_in.mp c
 have b:Lv x y L q:=e▸g.lp z (kg h1)
 cases h:al y.ak q with
 | none=>exact absurd e ((g.po q b).an0 h z h1)
 | some a=>exact ⟨b,a,rfl,by unfold stq;rw [g.asked b a h];rfl⟩
theorem zM(g:GO x w y L k)(r:x1.cs.length=x.cs.length)(hw:x1.wk=x.wk)(u:nds w.dr)(v:nds w.an)(z:nds x.wk)(G:k<100):G0 w x1 p (frd w.ps p):=by
 have n:∀{l:Ú (P×(Int×Ú (Int×Int)))},nds l->(∀q,(sel l q).isSome=true->Lv x y L q)->l.length<=3:=λo h=>g.len3 o λq d=>h q (eF▸d)
 have D:=n u g.ld
 have F:=n v g.la
 refine ⟨fY g.wn,λh=>(frd_in.mp h).2.1 rfl,λq d=>?_,λq d=>?_,λq d=>?_,λq d=>?_,?_,by lia,by lia,?_⟩
 .obtain ⟨h1,a,i,j⟩:=cK g d
  rw [g.asked h1 a i];rfl
 .obtain ⟨h1,a,i,j⟩:=cK g d
  have:=((g.po q h1).aw a i).2.2.1
  rw [j,r]
  exact ⟨this.ok,this.a,this.b⟩
 .obtain ⟨h1,_⟩:=cK g d
  rw [aG]
  have:=(g.po q h1).la
  have:=(g.po q h1).ln
  lia
 .obtain ⟨h1,_⟩:=cK g d
  rw [aG]
  obtain ⟨C,R⟩:=(g.po q h1).run
  have:=R.ln
  have:=(g.po q h1).ln
  lia
 .obtain ⟨a,b,c,e⟩:=g.lv
  have:=d8 (m:=y.lv) (fY (p:=p) g.wn) λq d=>(cK g d).1.1
  rw [e] at this
  exact Λ this (by show 3<=40;lia)
 .rw [hw]
  have:=g.lenS z g.ws
  lia
theorem Dw(g:GO x w y L k)(hp:p∈y.lv)(cp:al x.en p=none)(R:EG w x1 p (frd w.ps p) w' x')(a4:x1.cs.length=x.cs.length)(O:x1.rd=x.rd)(bb:x1.wk=x.wk)(bl:∀q,al x1.en q=none↔q≠p/\al x.en q=none)(hel:x1.en.length<=x.en.length+1)
  (a6:∀q,Lv x y L q->q≠p->∀i:Int,0<=i->(∃t∈stO y q,t.1.lk.a<=i/\i<=t.1.lk.b)->gv x.cs i=gv x1.cs i)
  (X:y'.lv=y.lv)(f2:∀q,al y'.st q=if q∈frd w.ps p then some (stO y q++[((stq w q).2.2,(dnq w x1.cs q).1)]) else al y.st q)(f3:∀q,al y'.ak q=if q∈frd w.ps p then none else if q=p then none else al y.ak q)(f4:y'.bd=y.bd)
  (hk:x.en.length+jp x y+1<=k'+act x y p)(cr:k<=k'):GO x' w' y' L k':=by
 have o:∀q,al x'.en q=none↔q≠p/\al x.en q=none:=λq=>by rw [R.en];exact bl q
 have C:∀q,Lv x' y' L q↔Lv x y L q/\q≠p:=λq=>by
  unfold Lv;rw [X,o]
  exact ⟨λ⟨h1,⟨G,U⟩,Y⟩=>⟨⟨h1,U,Y⟩,G⟩,λ⟨⟨h1,U,Y⟩,G⟩=>⟨h1,⟨G,U⟩,Y⟩⟩
 have I:∀q,q∈frd w.ps p->Lv x' y' L q:=λq h=>(C q).mpr ⟨(cK g h).1,(frd_in.mp h).2.1⟩
 have F:∀q,(al y'.st q).isSome=true↔(al y.st q).isSome=true:=λq=>by
  rw [f2]
  by_cases e:q∈frd w.ps p
  .rw [Ż e];exact ⟨λ_=>g.ks q (cK g e).1.1,λ_=>rfl⟩
  .rw [Ž e]
 have wF:∀z,z∈az (psF w.ps p)->z∈az w.ps:=λz h=>wait_F.subset h
 have wB:∀q,q≠p->q∉frd w.ps p->∀z:Pr,z.1=q->(z∈az (psF w.ps p)↔z∈az w.ps):=λq m H z ez=>⟨wF z,λh=>by
  obtain ⟨u,hu,eu⟩:∃u∈az (psF w.ps p),u.1=q:=Classical.byContradiction λhn=>H (frd_in.mpr ⟨⟨z,h,ez⟩,m,λu hu e=>hn ⟨u,hu,e⟩⟩)
  have:u=z:=by
   obtain ⟨i,hi,e1⟩:=Ŧ.mp (wF u hu)
   obtain ⟨j,hj,n⟩:=Ŧ.mp h
   have:=(Ě (h₀:=by rw [ν];exact hi) (h₁:=by rw [ν];exact hj) g.wn).mp (by rw [Ļ,Ļ,e1,n,eu,ez])
   subst this
   exact e1.symm.trans n
  exact this▸hu⟩
 refine ⟨by rw [X];exact g.lv,λq H=>?_,λq h=>by rw [X];exact g.kn q ((F q).mp h),λq h=>(F q).mpr (g.ks q (X▸h)),λq h1 G=>by rw [X];exact g.kl q ((F q).mp h1) ((o q).mp G).2,λz S=>?_,λq h=>?_,λq h=>?_,λq h=>?_,λq h=>?_,λq=>by rw [f4,R.rd,O];exact g.rb q,λq h=>(F q).mpr ?_,λq h=>(F q).mpr (g.rs q (by rw [R.rd,O] at h;exact h)),λq h=>(F q).mpr ?_,?_,by rw [R.cs,a4];exact g.cs,?_⟩
 .obtain ⟨H,m⟩:=(C q).mp H
  have K:=g.po q H
  have cl:x'.cs.length=x.cs.length:=by rw [R.cs,a4]
  have Z:∀c',Run x.cs (stO y q) ((sel w.dr q).getD []) c'->∃c',Run x'.cs (stO y q) ((sel w.dr q).getD []) c':=λc' r=>yC r cl.symm λi h0 h1=>by rw [R.cs];exact a6 q H m i h0 h1
  by_cases e:q∈frd w.ps p
  .obtain ⟨_,a,Q,ea⟩:=cK g e
   obtain ⟨h1,G,U,Y,h5⟩:=K.aw a Q
   have a0:al y.bd q=none:=by
    cases h:al y.bd q with
    | none=>rfl
    | some u=>have:=(K.bn (by rw [h];rfl)).1;rw [Q] at this;cases this
   obtain ⟨b1,b2,b3⟩:=K.bd a0
   obtain ⟨c0,R0⟩:=K.run
   obtain ⟨c1,R1⟩:=Z c0 R0
   have b5:dnq w x1.cs q=a.2.2.done (cV ((sel w.dr q).getD []) x'.cs) (lh 0 (stO y q)):=by
    unfold dnq;rw [ea,G,aG,R.cs]
   have D:stO y' q=stO y q++[(a.2.2,(dnq w x1.cs q).1)]:=by unfold stO;rw [f2,if_pos e,ea];rfl
   have a1:sel w'.dr q=some (apL ((sel w.dr q).getD []) (dnq w x1.cs q).2):=by rw [R.dr,Ż e,aG]
   have a2:sel w'.an q=some (ap ((sel w.an q).getD []) (stO y q).length (dnq w x1.cs q).1):=by rw [R.an,Ż e,aG,ea,h1]
   have N:al y'.ak q=none:=by rw [f3,Ż e]
   have ln:=K.ln
   rw [Q] at ln
   have ln:(stO y q).length+1<=12:=ln
   have nw:=(frd_in.mp e).2.2
   refine ⟨⟨_,by rw [D,a1,b5];exact mo R1 (by rw [cl];exact U)⟩,λt ht=>?_,by rw [N,R.pe,Ż e],λa Q=>(by rw [N] at Q;cases Q),λ_ z S=>by rw [R.ps] at S;exact nw z S,?_,?_,?_,λ_=>⟨by rw [R.rd,O];exact b1,λz=>?_,λ_=>⟨by rw [a1];rfl,_,a2,?_⟩⟩,λhb=>(by rw [f4,a0] at hb;cases hb)⟩
   .rw [D] at ht
    rw [R.ps]
    rcases Ű.mp ht with ht | ht
    .obtain ⟨l,k1,k2⟩:=K.cv t ht
     exact ⟨l,we k1 m,k2⟩
    .rw [Ŋ] at ht
     subst ht
     refine ⟨a.2.2.lk,(v9 (in_F.mpr ⟨kg Y,m⟩)).resolve_right λz=>nw _ z rfl,fj⟩
   .rw [D,N,ŷ];show (stO y q).length+1+0<=12;lia
   .rw [D,N,ŷ,R.ps,Bt m]
    have:=K.np
    rw [Q] at this
    exact this
   .rw [a2,D,ŷ]
    exact Λ aL (Nat.add_le_add_right K.la 1)
   .rw [D] at z;exact absurd z (by simp)
   .rw [D]
    refine nO (t:=(a.2.2,(dnq w x1.cs q).1)) ?_
    by_cases hn:stO y q=[]
    .rw [(b2 hn).1,hn];exact rF
    .obtain ⟨_,l,k1,k2⟩:=b3 hn
     rw [k1];exact k2
  .refine K.fr ⟨by rw [f2,Ž e],by rw [R.dr,Ž e,Ž m],by rw [R.an,Ž e,Ž m],by rw [R.pe,Ž e,Ž m],by rw [f3,Ž e,Ž m],by rw [f4],by rw [R.rd,O],λl h=>by rw [R.ps];exact we h m,λz ez=>by rw [R.ps];exact wB q m e z ez,by rw [R.ps,Bt m]⟩ cl Z
 .rw [R.ps] at S
  obtain ⟨h1,G⟩:=in_F.mp S
  exact (C _).mpr ⟨g.lp z h1,G⟩
 .rw [R.dr] at h
  by_cases e:q∈frd w.ps p
  .exact I q e
  .rw [Ž e] at h
   by_cases n:q=p
   .rw [Ż n] at h;cases h
   .rw [Ž n] at h;exact (C q).mpr ⟨g.ld q h,n⟩
 .rw [R.an] at h
  by_cases e:q∈frd w.ps p
  .exact I q e
  .rw [Ž e] at h
   by_cases n:q=p
   .rw [Ż n] at h;cases h
   .rw [Ž n] at h;exact (C q).mpr ⟨g.la q h,n⟩
 .rw [R.pe] at h
  by_cases e:q∈frd w.ps p
  .exact I q e
  .rw [Ž e] at h
   by_cases n:q=p
   .rw [Ż n] at h;cases h
   .rw [Ž n] at h;exact (C q).mpr ⟨g.le q h,n⟩
 .rw [f3] at h
  by_cases e:q∈frd w.ps p
  .exact I q e
  .rw [Ž e] at h
   by_cases n:q=p
   .rw [Ż n] at h;cases h
   .rw [Ž n] at h;exact (C q).mpr ⟨g.lk q h,n⟩
 .rcases R.ws q h with e | h
  .exact g.ks q (cK g e).1.1
  .exact g.ws q (by rw [bb] at h;exact h)
 .by_cases e:q=p
  .rw [e];exact g.ks p hp
  .cases e3:al x.en q with
   | some v=>exact g.es q (by rw [e3];rfl)
   | none=>rw [(o q).mpr ⟨e,e3⟩] at h;cases h
 .rw [R.ps];exact ĸ (ĩ _ wait_F) g.wn
 .have S:act x' y' p=0:=by
   unfold act
   refine Ž λz=>((o p).mp z.1).1 rfl
  have aq:∀q∈y.lv,q≠p->act x' y' q<=act x y q:=λq H e=>by
   by_cases n:q∈frd w.ps p
   .obtain ⟨h1,a,G,_⟩:=cK g n
    have:act x y q=1:=by unfold act;exact if_pos ⟨h1.2.1,.inr (by rw [G];rfl)⟩
    rw [this]
    unfold act
    split<;>lia
   .unfold act
    have:stO y' q=stO y q:=by unfold stO;rw [f2,if_neg n]
    rw [this,f3,Ž n,Ž e]
    split
    .rename_i h
     rw [Ż ⟨((o q).mp h.1).2,h.2⟩];exact ι _
    .exact ϖ _
  have s1:=Ci g (f:=λq=>if q=p then 0 else act x y q) (f':=act x' y') (d:=0) (p:=p) hp (λq H e=>by rw [Ž e];exact aq q H e) (by rw [S];exact ϖ _)
  have G:(y.lv.map λq=>if q=p then 0 else act x y q).sum+act x y p<=(y.lv.map (act x y)).sum:=by
   obtain ⟨a,b,c,e⟩:=g.lv
   rw [e] at hp ⊢
   simp only [List.map_cons,List.map_nil,List.sum_cons,List.sum_nil]
   simp only [List.mem_cons,List.mem_nil_iff,or_false] at hp
   rcases hp with rfl | rfl | rfl<;>simp<;>lia
  have U:x'.en.length<=x.en.length+1:=by rw [R.en];exact hel
  unfold jp at *
  rw [X]
  lia
end
section
variable {x x':Sx}{w w':Wk}{y y':Lw}{p q:P}{L:Ú P}{k k':Nat}{s:Stp}{l:Lk}{ps:Ú Pr}
theorem wJ(g:GO x w y L k)(hp:Lv x y L p)(Q:Lv x y L q)(S:q≠p){r:Ú Lk×Ú (Int×Int)}(m:nds r.2)(n:∀i,al r.2 i=al ((sel w.dr p).getD []) i) :
  ∀i:Int,0<=i->(∃t∈stO y q,t.1.lk.a<=i/\i<=t.1.lk.b)->gv x.cs i=gv (aM x.cs r.2) i:=by
 rintro i h0 ⟨t,O,h1,h2⟩
 obtain ⟨U,R⟩:=(g.po p hp).run
 have I:∀z∈r.2,0<=z.1/\z.1<x.cs.length:=λz N=>by
  have:=cT m N
  rw [n] at this
  exact (R.ky _ (aX this)).1
 rw [pz m I h0]
 cases e:al r.2 i with
 | none=>rfl
 | some v =>
  exfalso
  rw [n] at e
  obtain ⟨_,o,d,u⟩:=R.ky _ (aX e)
  obtain ⟨l,C,j⟩:=(g.po p hp).cv o d
  obtain ⟨X,D,F⟩:=(g.po q Q).cv t O
  rw [u] at j
  obtain ⟨G,H,h⟩:=cov_iff.mp j
  obtain ⟨Y,Z,v3⟩:=cov_iff.mp F
  have hb:=mV C D (Ne.symm S)
  dsimp only at G H h hb
  unfold bes at hb
  have K:l.k=.c:=by
   obtain ⟨k,a,b⟩:=l
   cases k
   .exact absurd (show (2:Int)<=0 from h) ζ
   .exact absurd (show (2:Int)<=1 from h) ζ
   .rfl
  rw [K,Bool.or_eq_true,Bool.or_eq_true,Ĵ,Ĵ] at hb
  rcases hb with (hb | hb) | hb
  .lia
  .lia
  .cases hb
theorem rJ{κ α:Type} [DecidableEq κ]{f:κ->Bool}{k:κ}:∀{l:Ú (κ×α)},al (l.filter λz=>f z.1) k=if f k then al l k else none
 | []=>by simp [al]
 | z::l=>by
  have ih:=rJ (f:=f) (k:=k) (l:=l)
  by_cases e:f z.1=true
  .rw [List.filter_cons_of_pos (p:=λz:κ×α=>f z.1) e,fE,fE,ih]
   by_cases e2:z.1=k
   .rw [Ż e2,Ż e2,Ż (e2▸e)]
   .rw [Ž e2,Ž e2]
  .rw [List.filter_cons_of_neg (p:=λz:κ×α=>f z.1) e,ih,fE]
   by_cases e2:z.1=k
   .rw [Ž (λz=>e (e2▸z)),Ž (λz=>e (e2▸z))]
   .rw [Ž e2]
def xq:al (bnd x) q=if al x.en q=none then al x.rd q else none:=by
 unfold bnd
 rw [rJ (f:=λk=>(al x.en k).isNone)]
 cases al x.en q<;>simp
theorem xr:∀{ch l:Ú (Int×Int)} {i:Int},nds ch->al (apL l ch) i=(al ch i).or (al l i)
 | [],l,i,_=>rfl
 | z::ch,l,i,h=>by
  obtain ⟨n1,n2⟩:=ŝ.mp h
  show al (apL (ap l z.1 z.2) ch) i=_
  rw [xr n2,fE,al_ap]
  by_cases e:z.1=i
  .have n3:al ch i=none:=al_none.mpr λu hu eu=>n1 (show z.1∈ch.map (·.1) by rw [e,← eu];exact ł hu)
   rw [Ż e,Ż e.symm,n3];rfl
  .rw [Ž e,Ž (Ne.symm e)]
def xl(h:nds ch):nds (apL [] ch)/\(∀i,al (apL [] ch) i=al ch i)/\(apL [] ch).length<=ch.length :=
 ⟨eR ŭ,λi=>by rw [xr h];cases al ch i<;>rfl,Λ eX (by rw [List.length_nil,Nat.zero_add];exact ι _)⟩
def Run.draft{cs c':ò}{st:Ú (Stp×Int)}{d e:Ú (Int×Int)}(r:Run cs st d c')(h:∀i,al e i=al d i)(hn:nds e)(hl:e.length<=st.length):Run cs st e c' :=
 ⟨r.pl,⟨r.vw.1,λi h0 h1=>by rw [r.vw.2 i h0 h1];unfold cV;rw [h]⟩,hn,λz hz=>r.ky z (aX (by rw [← h];exact cT hn hz)),hl,r.rg⟩
theorem fU(g:GO x w y [] k)(i:nds x.rd)(j:r∈bnd x):Lv x y [] r.1/\(∀l∈r.2.1,∃l1,(r.1,l1)∈aE w.ps/\cov l1 l=true)/\r.2.1.length<=12/\r.2.2.length<=12:=by
 obtain ⟨h1,a⟩:=ŵ.mp j
 have b:=cT i h1
 have a:al x.en r.1=none:=by simpa using a
 have c:Lv x y [] r.1:=⟨g.kl _ (g.rs _ (by rw [b];rfl)) a,a,ņ⟩
 have d:=g.po _ c
 obtain ⟨_,_,_,m,e,_,_,_,h,n,o⟩:=d.bn (by rw [g.rb,b];rfl)
 rw [b] at e
 cases e
 have:=d.ln
 exact ⟨c,h,by lia,by lia⟩
def uq(g:GO x w y [] k)(h:nds x.rd){u v:Pr}(o:∃r∈bnd x,u.1=r.1/\u.2∈r.2.1)(p:∃r∈bnd x,v.1=r.1/\v.2∈r.2.1)(q:u.1≠v.1):bes u.2 v.2=true:=by
 obtain ⟨r,h1,i,j⟩:=o
 obtain ⟨z,a,b,c⟩:=p
 obtain ⟨l,m,n⟩:=(fU g h h1).2.1 _ j
 obtain ⟨C,d,e⟩:=(fU g h a).2.1 _ c
 have:=mV m d (by dsimp only;rw [← i,← b];exact q)
 refine rB n ?_
 rw [lU]
 refine rB e ?_
 rw [lU]
 exact this
theorem yM:∀{rs:Ú Rw},(∀r∈rs,r.2.1.length<=12)->(psA rs).length<=12*rs.length:=λ{rs}=>by
 refine aZ (P:=λrs:Ú Rw=>(∀r∈rs,r.2.1.length<=12)->(psA rs).length<=12*rs.length) (λ_=>ι _) (λrs a ih h=>?_) rs
 have h1:=ih λr hr=>h r (ũ _ hr)
 have h2:=h a (Ψ _ (ϵ.mpr rfl))
 rw [eK,ŷ]
 refine Λ jf ?_
 show _<=12*(rs.length+1)
 lia
def rn(g:GO x w y [] k)(d:nds x.rd):(bnd x).length<=3:=by
 obtain ⟨a,b,c,e⟩:=g.lv
 have i:nds (bnd x):=ĸ (ĩ _ ı) d
 have:=d8 (m:=y.lv) i λq j=>by
  obtain ⟨r,h,rfl⟩:=ϑ.mp j
  exact (fU g d h).1.1
 rw [ν,e] at this
 exact this
theorem B0(g:GO x w y [] k)(hn:nds x.rd):∀(i:Nat) (r:Rw),(bnd x)[i]?=some r->r.2.2.length<890/\(psA ((bnd x).take i)).length+r.2.1.length<890/\∀j,j<r.2.1.length->wts (dS (psA ((bnd x).take i)) r.1 (r.2.1.take j)) r.1=false:=λi r hr=>by
 have hm:=Ÿ hr
 obtain ⟨_,_,h1,h2⟩:=fU g hn hm
 refine ⟨by lia,?_,λj _=>uh (qz λu hu v hv ne=>?_)⟩
 .have:=yM (rs:=(bnd x).take i) λr hr=>(fU g hn (List.mem_of_mem_take hr)).2.2.1
  have:=rn g hn
  rw [ű] at *
  lia
 .have src:∀u∈dS (psA ((bnd x).take i)) r.1 (r.2.1.take j),∃r∈bnd x,u.1=r.1/\u.2∈r.2.1:=λu hu=>by
   rcases lX hu with h | ⟨h1,h2⟩
   .obtain ⟨r',h1,h2⟩:=vi h
    exact ⟨r',List.mem_of_mem_take h1,h2⟩
   .exact ⟨r,hm,h1,List.mem_of_mem_take h2⟩
  exact uq g hn (src u hu) (src v hv) ne
theorem nz:∀{ls:Ú Lk} {ps:Ú Pr},cnu (dS ps p ls) q<=cnu ps q+if q=p then ls.length else 0
 | [],ps=>by show cnu ps q<=_;lia
 | l::ls,ps=>by
  refine Λ (nz (ls:=ls) (ps:=aQ ps p l)) ?_
  by_cases e:q=p
  .subst e
   have:=i9 (ps:=ps) (p:=q) (l:=l)
   simp
   lia
  .rw [lL e];simp [e]
theorem zZ:∀{rs:Ú Rw},nds rs->cnu (psA rs) q<=match al rs q with | some r=>r.1.length | none=>0:=λ{rs}=>by
 refine aZ (P:=λrs:Ú Rw=>nds rs->cnu (psA rs) q<=match al rs q with | some r=>r.1.length | none=>0) (λ_=>ι _) (λrs a ih h=>?_) rs
 have hn:nds rs:=ĸ (ĩ _ (List.sublist_append_left rs [a])) h
 have ea:al rs a.1=none:=al_none.mpr λz hz e=>by
  have h2:(rs.map (·.1)++[a.1]).Nodup:=by simpa [nds] using h
  exact (List.nodup_append.mp h2).2.2 z.1 (ł hz) a.1 (ϵ.mpr rfl) e
 have e2:rs++[a]=ap rs a.1 a.2:=(dU ea).symm
 have ih:=ih hn
 rw [eK]
 refine Λ nz ?_
 rw [e2,al_ap]
 by_cases e:q=a.1
 .rw [Ż e,Ż e]
  rw [e,ea] at ih
  have ih:cnu (psA rs) a.1<=0:=ih
  rw [e]
  show cnu (psA rs) a.1+a.2.1.length<=a.2.1.length
  lia
 .rw [Ž e,Ž e];exact ih
noncomputable def kU(y:Lw):Ú P:=y.lv.filter λp=>!(stO y p).isEmpty&&(al y.bd p).isNone
theorem F3(g:GO x w y [] k)(Z:nds x.rd)(C:w'.ps=psA (bnd x))(e2:∀q,sel w'.dr q=(al (bnd x) q).map λz=>apL [] z.2)(S:w'.an=[])(e4:w'.pe=[])(D:y'.lv=y.lv)(F:y'.st=y.st)(f3:y'.ak=[])(f4:y'.bd=y.bd):GO x w' y' (kU y) k:=by
 have d:∀q,stO y' q=stO y q:=λq=>by unfold stO;rw [F]
 have bL:∀r∈bnd x,Lv x y' (kU y) r.1:=λr o=>by
  obtain ⟨h1,I,_⟩:=(fU g Z o).1
  refine ⟨by rw [D];exact h1,I,λh=>?_⟩
  have h3:=cT Z (ŵ.mp o).1
  have:=(ŵ.mp h).2
  rw [Ā] at this
  have n:=g.rb r.1
  rw [h3] at n
  rw [Option.isNone_iff_eq_none.mp this.2] at n
  cases n
 have p:∀u∈psA (bnd x),∃r∈bnd x,u.1=r.1/\u.2∈r.2.1:=λu hu=>vi hu
 have U:az (psA (bnd x))=[]:=qz λu hu v hv ne=>uq g Z (p u hu) (p v hv) ne
 have nb:nds (bnd x):=ĸ (ĩ _ ı) Z
 refine ⟨by rw [D];exact g.lv,λq H=>?_,λq h=>by rw [D];rw [F] at h;exact g.kn q h,λq h=>by rw [F];exact g.ks q (D▸h),λq h1 I=>by rw [D];rw [F] at h1;exact g.kl q h1 I,λz m=>?_,λq h=>?_,λq h=>(by rw [S] at h;cases h),λq h=>(by rw [e4] at h;cases h),λq h=>(by rw [f3] at h;cases h),λq=>by rw [f4];exact g.rb q,λq h=>by rw [F];exact g.ws q h,λq h=>by rw [F];exact g.rs q h,λq h=>by rw [F];exact g.es q h,by rw [C,U];exact ŭ,g.cs,?_⟩
 .have L:Lv x y [] q:=⟨by rw [← D];exact H.1,H.2.1,ņ⟩
  have X:=g.po q L
  have G:sel w'.dr q=(al x.rd q).map λz=>apL [] z.2:=by rw [e2,xq,Ż H.2.1]
  have Y:cnu w'.ps q<=match al x.rd q with | some r=>r.1.length | none=>0:=by
   have:=zZ (q:=q) nb
   rw [xq,Ż H.2.1] at this
   rw [C];exact this
  have j:al y'.ak q=none:=by rw [f3];rfl
  have ln:=X.ln
  obtain ⟨c',R⟩:=X.run
  cases hb:al y.bd q with
  | some u =>
   obtain ⟨_,_,h3,r,n,h5,h6,h7,h8,h9,K⟩:=X.bn (by rw [hb];rfl)
   obtain ⟨a1,a2,a3⟩:=xl h5
   rw [n] at G Y
   have o:(q,r)∈bnd x:=ŵ.mpr ⟨aX n,by rw [H.2.1];rfl⟩
   have N:∀{z:Pr},z∈psA (bnd x)->z∈aE (psA (bnd x)):=λh=>(v9 h).resolve_right λz=>by rw [U] at z;cases z
   refine ⟨⟨c',by rw [d,G];exact R.draft (λi=>(a2 i).trans (h6 i)) a1 (Λ a3 K)⟩,λt O=>?_,by rw [j,e4];rfl,λa Q=>(by rw [j] at Q;cases Q),λ_ z m=>(by rw [C,U] at m;cases m),by rw [d,j];show (stO y q).length+0<=12;lia,by rw [d,j];exact Λ Y h9,by rw [S];exact ϖ _,λh=>(by rw [f4,hb] at h;cases h),λ_=>⟨j,by rw [S];rfl,by rw [d];exact h3,r,n,h5,λi=>by rw [G];exact (a2 i).symm,by rw [d];exact h7,λl hl=>?_,by rw [d];exact h9,by rw [d];exact K⟩⟩
   .rw [d] at O
    obtain ⟨l,k1,k2⟩:=h7 t O
    obtain ⟨l1,k3,k4⟩:=qq o k1
    rw [C]
    exact ⟨l1,N k3,tX k4 k2⟩
   .obtain ⟨l1,k3,k4⟩:=qq o hl
    rw [C]
    exact ⟨l1,N k3,k4⟩
  | none =>
   have h0:stO y q=[]:=by
    cases e:stO y q with
    | nil=>rfl
    | cons a b=>exact absurd (ŵ.mpr ⟨L.1,by rw [e,hb];rfl⟩) H.2.2
   obtain ⟨b1,b2,b3⟩:=X.bd hb
   rw [b1] at G Y
   refine ⟨⟨x.cs,by rw [d,h0,G];exact kz⟩,λt O=>(by rw [d,h0] at O;cases O),by rw [j,e4];rfl,λa Q=>(by rw [j] at Q;cases Q),λ_ z m=>(by rw [C,U] at m;cases m),by rw [d,j];show (stO y q).length+0<=12;lia,Λ Y (ϖ _),by rw [S];exact ϖ _,λ_=>⟨b1,λ_=>⟨by rw [S];rfl,G⟩,λh=>absurd (by rw [d];exact h0) h⟩,λh=>(by rw [f4,hb] at h;cases h)⟩
 .rw [C] at m
  obtain ⟨r,o,e,_⟩:=p z m
  rw [e];exact bL r o
 .rw [e2] at h
  cases e:al (bnd x) q with
  | none=>rw [e] at h;cases h
  | some r=>exact bL (q,r) (aX e)
 .have:∀q,act x y' q<=act x y q:=λq=>by
   unfold act
   rw [d,f3]
   split
   .rename_i h
    rw [Ż ⟨h.1,.inl (h.2.resolve_right λz=>by cases z)⟩];exact ι _
   .exact ϖ _
  obtain ⟨a,b,c,e⟩:=g.lv
  have I:=g.ec
  unfold jp at *
  rw [D]
  rw [e] at I ⊢
  simp only [List.map_cons,List.map_nil,List.sum_cons,List.sum_nil] at *
  have i1:=this (0,a)
  have i2:=this (1,b)
  have i3:=this (2,c)
  lia
noncomputable def nxt(x:Sx)(p:P):P:=if (al x.en p).isSome=true then (p.1,p.2+1) else p
theorem tM(g:GO x w y [] k)(I:y'.lv=y.lv.map (nxt x))(K:∀q,al y'.st q=if q∈y'.lv then some (stO y q) else al y.st q)(S:y'.ak=y.ak)(f4:y'.bd=y.bd):GO x w y' [] k/\∀p∈y'.lv,al x.en p=none:=by
 obtain ⟨a,b,c,Y⟩:=g.lv
 have sf:∀p∈y.lv,∀L∈y.lv,p.1=L.1->p=L:=λp hp L D e=>by
  rw [Y] at hp D
  simp only [List.mem_cons,List.mem_nil_iff,or_false] at hp D
  rcases hp with rfl | rfl | rfl<;>rcases D with rfl | rfl | rfl<;>first | rfl | cases e
 have cl:∀q,q∈y'.lv->(q∈y.lv/\al x.en q=none)\/(al y.st q=none/\∃p∈y.lv,(al x.en p).isSome=true/\q=(p.1,p.2+1)):=λq j=>by
  rw [I] at j
  obtain ⟨p,hp,e⟩:=ϑ.mp j
  unfold nxt at e
  by_cases h:(al x.en p).isSome=true
  .rw [Ż h] at e
   refine .inr ⟨?_,p,hp,h,e.symm⟩
   cases e2:al y.st q with
   | none=>rfl
   | some v =>
    obtain ⟨L,h1,d,U⟩:=g.kn q (by rw [e2];rfl)
    have:=sf p hp L h1 (by rw [d,← e])
    subst this
    rw [← e] at U
    have:p.2+1<=p.2:=U
    lia
  .rw [Ž h] at e
   subst e
   refine .inl ⟨hp,?_⟩
   cases e2:al x.en p with
   | none=>rfl
   | some v=>rw [e2] at h;exact absurd rfl h
 have r:∀q,al y.st q=none->al x.en q=none/\al x.rd q=none/\al y.bd q=none/\sel w.dr q=none/\sel w.an q=none/\al w.pe q=none/\al y.ak q=none/\(∀z∈w.ps,z.1≠q)/\stO y q=[]:=λq j=>by
  have O:¬Lv x y [] q:=λh=>by have:=g.ks q h.1;rw [j] at this;cases this
  have u:∀{α:Type} {o:Option α},(o.isSome=true->False)->o=none:=λ{α o} h=>by
   cases o with
   | none=>rfl
   | some v=>exact (h rfl).elim
  have s0:(al y.st q).isSome=true->False:=λh=>by rw [j] at h;cases h
  have r0:=u λh=>s0 (g.rs q h)
  refine ⟨u λh=>s0 (g.es q h),r0,u λh=>(by rw [g.rb,r0] at h;cases h),u λh=>O (g.ld q h),u λh=>O (g.la q h),u λh=>O (g.le q h),u λh=>O (g.lk q h),λz F e=>O (e▸g.lp z F),by unfold stO;rw [j];rfl⟩
 have H:∀q,stO y' q=stO y q:=λq=>by
  unfold stO
  rw [K]
  split
  .rfl
  .rfl
 have Q:∀q∈y'.lv,al x.en q=none:=λq j=>(cl q j).elim (·.2) λh=>(r q h.1).1
 have up:∀q,Lv x y [] q->Lv x y' [] q:=λq h=>by
  refine ⟨?_,h.2⟩
  rw [I]
  refine ϑ.mpr ⟨q,h.1,?_⟩
  unfold nxt
  rw [Ž (by rw [h.2.1];exact Ų)]
 have C:∀q,(al y.st q).isSome=true->(al y'.st q).isSome=true:=λq h=>by rw [K];split<;>first | rfl | exact h
 have a2:∀q,(al y.st q).isSome=true->∃p∈y'.lv,p.1=q.1/\q.2<=p.2:=λq h=>by
  obtain ⟨p,h1,d,U⟩:=g.kn q h
  refine ⟨nxt x p,by rw [I];exact ł h1,?_⟩
  unfold nxt
  split
  .exact ⟨d,by show q.2<=p.2+1;lia⟩
  .exact ⟨d,U⟩
 refine ⟨⟨?_,λq j=>?_,λq h=>?_,λq h=>by rw [K,Ż h];rfl,λq h1 d=>?_,λz F=>up _ (g.lp z F),λq h=>up q (g.ld q h),λq h=>up q (g.la q h),λq h=>up q (g.le q h),λq h=>up q (g.lk q (S▸h)),λq=>by rw [f4];exact g.rb q,λq h=>C q (g.ws q h),λq h=>C q (g.rs q h),λq h=>C q (g.es q h),g.wn,g.cs,?_⟩,Q⟩
 .have:∀i n,∃m,nxt x (i,n)=(i,m):=λi n=>by
   unfold nxt
   split
   .exact ⟨_,ϱ⟩
   .exact ⟨_,ϱ⟩
  obtain ⟨a',N⟩:=this 0 a
  obtain ⟨b',eb⟩:=this 1 b
  obtain ⟨Z,ec⟩:=this 2 c
  exact ⟨a',b',Z,by rw [I,Y,Ŵ,Ŵ,Ŵ,List.map_nil,N,eb,ec]⟩
 .rcases cl q j.1 with ⟨h1,d⟩ | ⟨h1,_⟩
  .refine (g.po q ⟨h1,d,ņ⟩).fr ⟨?_,ϱ,ϱ,ϱ,by rw [S],by rw [f4],ϱ,λl h=>h,λz _=>Iff.rfl,ϱ⟩ rfl λZ R=>⟨Z,R⟩
   rw [K,Ż j.1]
   obtain ⟨v,hv⟩:=Ů.mp (g.ks q h1)
   unfold stO;rw [hv];rfl
  .obtain ⟨_,z1,z2,z3,z4,z5,z6,z7,G⟩:=r q h1
   have N:al y'.ak q=none:=by rw [S];exact z6
   refine ⟨⟨x.cs,by rw [H,G,z3];exact kz⟩,λt ht=>(by rw [H,G] at ht;cases ht),by rw [N,z5],λa ha=>(by rw [N] at ha;cases ha),λ_ z F=>z7 z (kg F),by rw [H,G,N];decide,?_,by rw [z4];exact ϖ _,λ_=>⟨z1,λ_=>⟨z4,z3⟩,λh=>absurd (by rw [H];exact G) h⟩,λh=>(by rw [f4,z2] at h;cases h)⟩
   unfold cnu
   rw [List.filter_eq_nil_iff.mpr λz F e=>z7 z F (Ξ e)]
   exact ϖ _
 .by_cases e:q∈y'.lv
  .exact ⟨q,e,ϱ,Ŗ _⟩
  .rw [K,Ž e] at h;exact a2 q h
 .by_cases e:q∈y'.lv
  .exact e
  .rw [K,Ž e] at h1
   exact (up q ⟨g.kl q h1 d,d,ņ⟩).1
 .have X:∀p∈y.lv,act x y' (nxt x p)<=act x y p:=λp hp=>by
   by_cases h:(al x.en p).isSome=true
   .have hm:nxt x p∈y'.lv:=by rw [I];exact ł hp
    have:al y.st (nxt x p)=none:=by
     rcases cl _ hm with ⟨h1,d⟩ | ⟨h1,_⟩
     .exfalso
      have e:nxt x p=(p.1,p.2+1):=by unfold nxt;exact if_pos h
      have:=sf p hp _ h1 (by rw [e])
      rw [e] at this
      have:=congrArg Prod.snd this
      dsimp only at this
      lia
     .exact h1
    obtain ⟨_,_,_,_,_,_,z6,_,G⟩:=r _ this
    unfold act
    rw [Ž]
    .exact ϖ _
    .rintro ⟨_,h | h⟩
     .exact h (by rw [H];exact G)
     .rw [S,z6] at h;cases h
   .have e:nxt x p=p:=by unfold nxt;exact if_neg h
    rw [e]
    unfold act
    rw [H,S];exact ι _
  have d:=g.ec
  unfold jp at *
  rw [I]
  rw [Y] at X d ⊢
  simp only [List.map_cons,List.map_nil,List.sum_cons,List.sum_nil] at *
  have:=X (0,a) (by simp)
  have:=X (1,b) (by simp)
  have:=X (2,c) (by simp)
  lia
end
section
variable {n:Nat}{A A' A'':AH}{Q:AQ}{c c' k:Int}{x x':Sx}{p q:P}{w w':Wk}{y y':Lw}{rows:Ú AV}{sent:Ú Lt}{lt:AV}{cs:ò}{en:Ú (P×Str)}{s:Stp}
abbrev snA(t:Stp×Int):AV:=.tup [.str t.1.tx,.int t.2]
noncomputable def stV(t:P×Ú (Stp×Int)):AV:=.ref (36,[t.1.1,t.1.2])
structure LwA(A:AH)(y:Lw)(cs:ò)(en:Ú (P×Str)):Prop where
 pl:A (30,[])=some (.lst (cs.map .int))
 lv:A (31,[])=some (.lst (y.lv.map nmA))
 st:A (32,[])=some (dP stV y.st)
 ak:A (33,[])=some (dP peV y.ak)
 bd:A (34,[])=some (dP wkV y.bd)
 en:A (35,[])=some (.lst (en.map eA))
 ss:∀t∈y.st,A (36,[t.1.1,t.1.2])=some (.lst (t.2.map snA))/\t.2.length<900
 sf:∀q,al y.st q=none->A (36,[q.1,q.2])=none
 ns:okL y.st
 na:okL y.ak
 nb:okL y.bd
theorem LwA.off(h:LwA A y cs en)(e:Off 30 36 A A'):LwA A' y cs en :=
 have g:∀{k:Nat} {l:ò} {o:AO},(30<=k/\k<=36)->A (k,l)=some o->A' (k,l)=some o:=λhk q=>(e _ _ hk.1 hk.2).trans q
 ⟨g (by lia) h.pl,g (by lia) h.lv,g (by lia) h.st,g (by lia) h.ak,g (by lia) h.bd,g (by lia) h.en,λt ht=>⟨g (by lia) (h.ss t ht).1,(h.ss t ht).2⟩,λq hq=>(e _ _ (by lia) (by lia)).trans (h.sf q hq),h.ns,h.na,h.nb⟩
def LwA.one(h:LwA A y cs en)(hm:m≠36)(p1:(ac A (m,[]) o) (30,[])=some (.lst (cs'.map .int)))(p2:(ac A (m,[]) o) (31,[])=some (.lst (y'.lv.map nmA)))(p3:(ac A (m,[]) o) (32,[])=some (dP stV y'.st))(p4:(ac A (m,[]) o) (33,[])=some (dP peV y'.ak))(p5:(ac A (m,[]) o) (34,[])=some (dP wkV y'.bd))(p6:(ac A (m,[]) o) (35,[])=some (.lst (en'.map eA)))(es:y'.st=y.st)(a1:okL y'.ak)(a2:okL y'.bd):LwA (ac A (m,[]) o) y' cs' en' :=
 ⟨p1,p2,p3,p4,p5,p6,λt ht=>by rw [es] at ht;exact ⟨(uN λz=>hm (by cases z)).trans (h.ss t ht).1,(h.ss t ht).2⟩,λq hq=>(uN λz=>hm (by cases z)).trans (h.sf q (es▸hq)),by rw [es];exact h.ns,a1,a2⟩
def u0(h:m'≠m):ac A (m,l) o (m',l')=A (m',l'):=uN λz=>h (by cases z;rfl)
theorem LwA.setPl(h:LwA A y cs en):LwA (ac A (30,[]) (.lst (cs'.map .int))) y cs' en :=
 h.one (by lia) uS ((u0 (by lia)).trans h.lv) ((u0 (by lia)).trans h.st) ((u0 (by lia)).trans h.ak) ((u0 (by lia)).trans h.bd) ((u0 (by lia)).trans h.en) rfl h.na h.nb
theorem LwA.setAk(h:LwA A y cs en){ak:Ú (P×(Int×Int×Stp))}(ha:okL ak):LwA (ac A (33,[]) (dP peV ak)) {y with ak:=ak} cs en :=
 h.one (by lia) ((u0 (by lia)).trans h.pl) ((u0 (by lia)).trans h.lv) ((u0 (by lia)).trans h.st) uS ((u0 (by lia)).trans h.bd) ((u0 (by lia)).trans h.en) rfl ha h.nb
theorem LwA.setBd(h:LwA A y cs en){bd:Ú (P×Unit)}(ha:okL bd):LwA (ac A (34,[]) (dP wkV bd)) {y with bd:=bd} cs en :=
 h.one (by lia) ((u0 (by lia)).trans h.pl) ((u0 (by lia)).trans h.lv) ((u0 (by lia)).trans h.st) ((u0 (by lia)).trans h.ak) uS ((u0 (by lia)).trans h.en) rfl h.na ha
theorem LwA.setEn(h:LwA A y cs en):LwA (ac A (35,[]) (.lst (en'.map eA))) y cs en' :=
 h.one (by lia) ((u0 (by lia)).trans h.pl) ((u0 (by lia)).trans h.lv) ((u0 (by lia)).trans h.st) ((u0 (by lia)).trans h.ak) ((u0 (by lia)).trans h.bd) uS rfl h.na h.nb
theorem LwA.setLv(h:LwA A y cs en){lv:Ú P}:LwA (ac A (31,[]) (.lst (lv.map nmA))) {y with lv:=lv} cs en :=
 h.one (by lia) ((u0 (by lia)).trans h.pl) uS ((u0 (by lia)).trans h.st) ((u0 (by lia)).trans h.ak) ((u0 (by lia)).trans h.bd) ((u0 (by lia)).trans h.en) rfl h.na h.nb
theorem LwA.setSt(h:LwA A y cs en){st0 st:Ú (Stp×Int)}(e:al y.st p=some st0)(hz:st.length<900):LwA (ac A (36,[p.1,p.2]) (.lst (st.map snA))) {y with st:=ap y.st p st} cs en :=
 ⟨(u0 (by lia)).trans h.pl,(u0 (by lia)).trans h.lv,(u0 (by lia)).trans (by rw [h.st,gV (f:=stV) (y:=st0) (y':=st) rfl e]),(u0 (by lia)).trans h.ak,(u0 (by lia)).trans h.bd,(u0 (by lia)).trans h.en,λt ht=>by
  rcases gY h.ns.1 ht with rfl | ⟨ht,ne⟩
  .exact ⟨uS,hz⟩
  .refine ⟨(uN λz=>ne ?_).trans (h.ss t ht).1,(h.ss t ht).2⟩
   obtain ⟨⟨x1,x2⟩,x3⟩:=t
   obtain ⟨p1,p2⟩:=p
   cases z;rfl,λq hq=>by
  rw [al_ap] at hq
  by_cases e2:q=p
  .rw [Ż e2] at hq;cases hq
  .rw [Ž e2] at hq
   refine (uN λz=>e2 ?_).trans (h.sf q hq)
   obtain ⟨q1,q2⟩:=q
   obtain ⟨p1,p2⟩:=p
   cases z;rfl,⟨bp h.ns.1,by have:=congrArg List.length (gZ (y:=st) (show al y.st p≠none by rw [e];intro q;cases q));rw [ν,ν] at this;rw [this];exact h.ns.2⟩,h.na,h.nb⟩
def LwA.stAt(h:LwA A y cs en)(e:(al y.st p).isSome=true):ixV (.ref (32,[])) (nmA p) A=some (.ref (36,[p.1,p.2]))/\A (36,[p.1,p.2])=some (.lst ((stO y p).map snA))/\(stO y p).length<900:=by
 obtain ⟨v,a⟩:=Ů.mp e
 refine ⟨pAt h.st a,?_⟩
 have:=h.ss _ (aX a)
 unfold stO
 rw [a]
 exact this
noncomputable def mN(c:Int):Int:=if c%3=0 then c/3%(2*10 ^ 40-1)-10 ^ 40+1 else c/3%25-9
theorem zm(c:Int):i40 (mN c):=by
 unfold mN i40
 split
 .have h1:=ġ (c/3) (show (2*10 ^ 40-1:Int)≠0 by decide)
  have b:=ň (c/3) (show (0:Int)<2*10 ^ 40-1 by decide)
  generalize c/3%(2*10 ^ 40-1)=m at h1 b
  have e:(10:Int) ^ 40=10000000000000000000000000000000000000000:=by decide
  have a:(10:Nat) ^ 40=10000000000000000000000000000000000000000:=by decide
  rw [e] at b ⊢
  rw [a]
  lia
 .have a:(10:Nat) ^ 40=10000000000000000000000000000000000000000:=by decide
  rw [a]
  lia
def jG(q:Q (.int (mN c)) A):fnSp tb (n+1) 104 [.int c] A Q:=by
 unfold mN at q
 refine fz (okI rfl (if2 (c:=false ^^ decide (c%3=0)) (λe=>?_) (λe=>?_)))
 .rw [Ŝ,Ĵ] at e
  rw [Ż e] at q
  refine ⟨.inl ⟨ζ,ζ⟩,?_⟩
  exact q
 .rw [Ŝ,decide_eq_false_iff_not] at e
  rw [Ž e] at q
  exact q
noncomputable def lwd(c:Int):Wd:=if c%5=0 then .take else if c%5=1 then .mean else if c%5=2 then .sum else if c%5=3 then .give else .add
noncomputable def bo(c m:Int):Stp :=
 let a:=c/5%m
 ⟨lwd c,a,if lwd c=.sum then a+c/40%(m-a) else if lwd c=.add then mN (c/40) else 0⟩
theorem qE{c:Int}{m:Nat}(h0:0<m)(n:m<=8):(bo c m).Rg m:=by
 have h1:=ġ (c/5) (show (m:Int)≠0 by lia)
 have h:=ň (c/5) (show (0:Int)<m by lia)
 have d:lwd c=.sum->(bo c m).b<m/\(bo c m).a<=(bo c m).b:=λe=>by
  unfold bo
  dsimp only
  rw [Ż e]
  generalize c/5%(m:Int)=a at h1 h
  have d:=ġ (c/40) (show (m:Int)-a≠0 by lia)
  have i:=ň (c/40) (show (0:Int)<m-a by lia)
  lia
 refine ⟨⟨⟨h1,by show c/5%(m:Int)<8;lia⟩,?_,λe=>⟨(d e).2,by have:=(d e).1;lia⟩⟩,h,λe=>(d e).1⟩
 by_cases e:lwd c=.sum
 .have:=d e
  unfold i40
  have j:(10:Nat) ^ 40=10000000000000000000000000000000000000000:=by decide
  have l:0<=(bo c m).a:=h1
  lia
 .show i40 (if lwd c=.sum then _ else _)
  rw [Ž e]
  split
  .exact zm _
  .decide
def dJ(h:i40 i):i.natAbs.log2<1920:=by
 by_cases e:i.natAbs=0
 .rw [e];decide
 .exact (Nat.log2_lt e).mpr (Ş h ζ)
theorem xT(c:Int):ixA [.str (nm 213577972),.str (nm 232289005),.str (nm 1800947),.str (nm 213759207),.str (nm 1651297)] (c%5)=some (.str (lwd c).s):=by
 have h1:=ġ c (show (5:Int)≠0 by decide)
 have a:=ň c (show (0:Int)<5 by decide)
 unfold lwd
 have:c%5=0\/c%5=1\/c%5=2\/c%5=3\/c%5=4:=by lia
 rcases this with e | e | e | e | e<;>rw [e]<;>rfl
theorem yf{c:Int}{m:Nat}(h0:0<m)(u:m<=8)(q:Q (.str (bo c m).tx) A):fnSp tb (n+2) 105 [.int c,.int m] A Q:=by
 have l:=qE (c:=c) h0 u
 have d:i40 (bo c m).a:=by unfold i40;have:=l.ok.a;lia
 have v:(Str.ofString (toString (c/5%(m:Int)))).length<=41:=bY d
 have l2:=bY l.ok.b
 have ap:∀x y:Str,(x++y).length=x.length+y.length:=λx y=>Array.size_append
 have p:∀w:Wd,w.s.length<=4:=λw=>by cases w<;>decide +kernel
 have e:(nm 530976).length=3:=by decide +kernel
 have j:(nm 32).length=1:=by decide +kernel
 have sz:(1000:Nat)<=sizeLine:=by decide
 have r:=p (lwd c)
 have z:(bo c m).a=c/5%m:=rfl
 have h:=xT c
 have i:=l.ok.b
 unfold bo at q i l2
 unfold Stp.tx at q
 dsimp only at q i l2
 cases hw:lwd c<;>rw [hw] at h q i l2 r
 case take =>
  refine fz (okI rfl (ndI rfl (ndI (by show (0:Int)<m;lia) (okI h ?_))))
  refine ⟨dJ d,ndI (by rw [ap,e];lia) ?_⟩
  exact q
 case mean =>
  refine fz (okI rfl (ndI rfl (ndI (by show (0:Int)<m;lia) (okI h ?_))))
  refine ⟨dJ d,ndI (by rw [ap,e];lia) ?_⟩
  exact q
 case give =>
  refine fz (okI rfl (ndI rfl (ndI (by show (0:Int)<m;lia) (okI h ?_))))
  refine ⟨dJ d,ndI (by rw [ap,e];lia) ?_⟩
  exact q
 case sum =>
  refine fz (okI rfl (ndI rfl (ndI (by show (0:Int)<m;lia) (okI h ?_))))
  refine ⟨dJ d,ndI (by rw [ap,e];lia) ?_⟩
  have C:=ň (c/5) (show (0:Int)<m by lia)
  have o:(Str.ofString (toString (c/5%(m:Int)+c/40%((m:Int)-c/5%(m:Int))))).length<=41:=l2
  refine ndI (by rw [ap,ap,e,j];lia) (ndI (by dsimp only;lia) ⟨dJ i,ndI (by rw [ap,ap,ap,e,j];lia) ?_⟩)
  exact q
 case add =>
  refine fz (okI rfl (ndI rfl (ndI (by show (0:Int)<m;lia) (okI h ?_))))
  refine ⟨dJ d,ndI (by rw [ap,e];lia) ?_⟩
  have o:(Str.ofString (toString (mN (c/40)))).length<=41:=l2
  refine ndI (by rw [ap,ap,e,j];lia) (jG ⟨dJ i,ndI (by rw [ap,ap,ap,e,j];lia) ?_⟩)
  exact q
end
section
variable {n:Nat}{A A' A'':AH}{Q:AQ}{c c' k:Int}{x x':Sx}{p q:P}{w w':Wk}{y y':Lw}{rows:Ú AV}{sent:Ú Lt}{lt:AV}{cs:ò}{en:Ú (P×Str)}{s:Stp}
theorem pw(h:i40 i):PySem.intText? (iS i)=some i:=by
 have e:=cn i
 have b:(Str.ofString (toString i)).length<=41:=bY h
 have a:=cg i.natAbs
 unfold cH at e
 split at e
 .rw [PySem.intText_neg e a (dl _) (by lia),i6,show (-(i.natAbs:Int))=i by lia]
 .have c:(iS i).length<=41:=b
  rw [PySem.intText_digits (by rw [e];exact a) (by rw [e];exact dl _) (by lia),e,i6,show ((i.natAbs:Int))=i by lia]
theorem zW{a b:Int}(h0:0<=a)(e:a<=b)(h:b<cs.length):nv (cs.map AV.int) (some a) (some (b+1))=(List.range (b+1-a).toNat).map λi=>.int (gv cs (a+(i:Nat))):=by
 unfold nv
 have c:a=(a.toNat:Int):=(ŕ h0).symm
 have d:b+1=((b+1).toNat:Int):=(ŕ (by lia)).symm
 rw [ν]
 rw [show HT.sIx cs.length 0 (some a)=a.toNat by rw [c,HT.gM];lia,show HT.sIx cs.length cs.length (some (b+1))=(b+1).toNat by rw [d,HT.gM];lia]
 refine List.ext_getElem? λi=>?_
 rw [Ź]
 by_cases hi:i<(b+1-a).toNat
 .rw [List.getElem?_take_of_lt (by lia),List.getElem?_drop,Ź,List.getElem?_range hi,ξ (show a.toNat+i<cs.length by lia)]
  show some (AV.int _)=some (AV.int (gv cs (a+(i:Nat))))
  unfold gv
  rw [show (a+(i:Nat)).toNat=a.toNat+i by lia,Ŭ,ξ (show a.toNat+i<cs.length by lia)];rfl
 .rw [Ħ (by rw [ű];lia),Ħ (by rw [Ğ];lia)];rfl
theorem F0{i:Int}(h0:0<=i)(h1:i<cs.length):cs[i.toNat]?=some (gv cs i):=by
 unfold gv
 rw [Ŭ,ξ (show i.toNat<cs.length by lia)];rfl
def pf{m:Nm}{i:Int}(h:A m=some (.lst (cs.map .int)))(h0:0<=i)(h1:i<cs.length):ixV (.ref m) (.int i) A=some (.int (gv cs i)):=by
 have e:i=(i.toNat:Int):=(ŕ h0).symm
 have:=bG (i:=i) (y:=.int (gv cs i)) h (by (conv=>lhs;rw [e]);exact ba (F0 h0 h1))
 exact this
theorem qf{m:Nm}{i v:Int}(h:A m=some (.lst (cs.map .int)))(h0:0<=i)(h1:i<cs.length):gD (.ref m) (.int i) (.int v) A=some (ac A m (.lst ((cs.set i.toNat v).map .int))):=by
 have e:i=(i.toNat:Int):=(ŕ h0).symm
 conv=>lhs;rw [e]
 rw [oz h (by rw [ν];lia),List.map_set]
theorem sI{h:Int}(d:s.Rg cs.length)(c:A (30,[])=some (.lst (cs.map .int)))(q:Q (.int (s.pl cs h).2) (ac A (30,[]) (.lst ((s.pl cs h).1.map .int)))):fnSp tb (n+1) 106 [.ref (30,[]),.int h,.str s.tx] A Q:=by
 have u:=ut d.ok
 have e:i40 s.a:=by unfold i40;have:=d.ok.a;lia
 have r:=bY e
 have l2:=bY d.ok.b
 have h0:=d.ok.a.1
 have h1:=d.a
 refine fz (okI rfl (ndI rfl (ndI ⟨ϱ,by lia⟩ (Or.inl ?_))))
 rw [mi]
 have i:=d.ok.b
 have o:=d.b
 have j:=d.ok.sm
 unfold Stp.pl at q
 obtain ⟨p,a,b⟩:=s
 dsimp only at h0 h1 e i r l2 o j
 have l:=pw e
 cases p
 case take =>
  refine ndI (by show (iS a).length<=640;lia) (okI l (okI (pf c h0 h1) ?_))
  have:ac A (30,[]) (.lst (cs.map .int))=A:=us c
  exact this▸q
 case mean =>
  refine ndI (by show (iS a).length<=640;lia) (okI l (okI (pf c h0 h1) ?_))
  have:ac A (30,[]) (.lst (cs.map .int))=A:=us c
  exact this▸q
 case give =>
  refine ndI (by show (iS a).length<=640;lia) (okI l (okI (qf c h0 h1) ?_))
  exact q
 case add =>
  refine ndI (by show (iS a).length<=640;lia) (okI l (okI (pf c h0 h1) (ndI (by show (iS b).length<=640;lia) (okI (pw i) (okI (qf c h0 h1) ?_)))))
  exact q
 case sum =>
  have m:=(j rfl).1
  refine ndI (by show (iS a).length<=640;lia) (okI l (ndI (by show (iS b).length<=640;lia) (okI (pw i) (okI (am c) ?_))))
  have:ac A (30,[]) (.lst (cs.map .int))=A:=us c
  rw [zW h0 m (o rfl)]
  exact okI (v8 _ _) (this▸q)
end
section
variable {n:Nat}{A A' A'':AH}{Q:AQ}{c c' k:Int}{x x':Sx}{p q:P}{w w':Wk}{y y':Lw}{rows:Ú AV}{sent:Ú Lt}{lt:AV}{cs:ò}{en:Ú (P×Str)}{s:Stp}
noncomputable def sk(y:Lw)(q:P):Stp:=((al y.ak q).getD (0,0,⟨.take,0,0⟩)).2.2
theorem mW{fs:Ú P}{ii hh:P->Int}(hs:ShA A k rows (fs.map λq=>f9 q (ii q) (hh q)) lt)(O:StA A x)(hl:lt=.non\/lt=bg x)(h:LwA A y cs en)(hn:fs.Nodup)(ha:∀q∈fs,∃a,al y.ak q=some a/\a.1=ii q/\(al y.st q).isSome=true/\(stO y q).length<800)
  (q:∀A' y',LwA A' y' cs en->y'.lv=y.lv->y'.bd=y.bd->(∀q,al y'.st q=if q∈fs then some (stO y q++[(sk y q,hh q)]) else al y.st q)->(∀q,al y'.ak q=if q∈fs then none else al y.ak q)->Off 0 32 A A'->Off 37 100 A A'->(∀c,Fr A c->Fr A' c)->Q (.bl true) A'):fnSp tb (n+3) 107 [.ref (20,[k]),.ref (32,[]),.ref (33,[])] A Q:=by
 refine fz (okI rfl (okI (af hs.s) (ndI rfl (okI rfl (a9 hs O hl ?_)))))
 refine aV (λj σ A'=>∃y',LwA A' y' cs en/\y'.lv=y.lv/\y'.bd=y.bd/\(∀q,al y'.st q=if q∈fs.take j then some (stO y q++[(sk y q,hh q)]) else al y.st q)/\(∀q,al y'.ak q=if q∈fs.take j then none else al y.ak q)/\Off 0 32 A A'/\Off 37 100 A A'/\(∀c,Fr A c->Fr A' c)/\∃f g e,σ=[some (.ref (20,[k])),some (.ref (32,[])),some (.ref (33,[])),f,g,e])
  ⟨y,h,ϱ,ϱ,λq=>by simp,λq=>by simp,Off.rf,Off.rf,λ_ f=>f,none,none,none,ϱ⟩ (λj z σ A' K Z L hK=>?_) (fun σ A' L=>?_)
 .obtain ⟨d,g1,w,C,l,m,D,F,G,f,g,e,rfl⟩:=L
  rw [Ź,Ź] at Z
  obtain ⟨u,hu,rfl⟩:=ſ.mp Z
  obtain ⟨r,S,rfl⟩:=ſ.mp hu
  have hm:=Ÿ S
  obtain ⟨a,U,e2,e3,e4⟩:=ha r hm
  have i:=aU S hn
  have nt:=(i r).2
  have H:al d.ak r=some a:=by rw [m,Ž nt];exact U
  have I:al d.st r=some (stO y r):=by
   rw [l,Ž nt]
   obtain ⟨v,hv⟩:=Ů.mp e3
   unfold stO;rw [hv];rfl
  have Y:stO d r=stO y r:=by unfold stO;rw [I];rfl
  have ek:sk y r=a.2.2:=by unfold sk;rw [U];rfl
  obtain ⟨s1,X,s3⟩:=g1.stAt (p:=r) (by rw [I];rfl)
  refine ⟨trivial,okI (bM g1.ak r) (ifF (by rw [H];rfl) ?_)⟩
  refine ifF (c:=true ^^ decide (r.1=r.1)) (by simp) (okI (pAt g1.ak H) ?_)
  refine ifF (c:=true ^^ decide (ii r=a.1)) (by rw [e2];simp) ?_
  refine okI s1 (okI (fI X) (okI rfl (okI rfl (okI (x:=Rc.b .dict) (aY g1.ak) (okI rfl (okI rfl (okI (vM g1.ak H) ?_)))))))
  have h2:=g1.setAk (ak:=ad d.ak r) ⟨fM g1.na.1,ź bZ g1.na.2⟩
  have o:ac A' (33,[]) (dP peV (ad d.ak r)) (36,[r.1,r.2])=some (.lst ((stO d r).map snA)):=(u0 (by lia)).trans X
  refine okI ((dq (y:=snA (a.2.2,hh r)) o (by rw [ν];exact rZ (by lia))).trans (congrArg (λz=>some (ac (ac A' (33,[]) (dP peV (ad d.ak r))) (36,[r.1,r.2]) (.lst z))) (ů (f:=snA) (l₁:=stO d r) (l₂:=[(a.2.2,hh r)])).symm)) ?_
  have h3:=h2.setSt (p:=r) (st0:=stO y r) (st:=stO d r++[(a.2.2,hh r)]) I (by rw [Y,List.length_append];simp;lia)
  refine hK _ _ ⟨_,h3,w,C,λq=>?_,λq=>?_,(D.up (.inr (by lia))).up (.inr (by lia)),(F.up (.inl (by lia))).up (.inl (by lia)),λc f=>((G c f).put g1.ak).put o,_,_,_,ϱ⟩
  .show al (ap d.st r _) q=_
   rw [al_ap,Y,l q]
   by_cases z:q=r
   .rw [Ż z,Ż ((i q).1.mpr (.inr z)),z,ek]
   .rw [Ž z]
    by_cases z2:q∈fs.take j
    .rw [Ż z2,Ż ((i q).1.mpr (.inl z2))]
    .rw [Ž z2,Ž λN=>((i q).1.mp N).elim z2 z]
  .show al (ad d.ak r) q=_
   rw [al_ad,m q]
   by_cases z:q=r
   .rw [Ż z,Ż ((i q).1.mpr (.inr z))]
   .rw [Ž z]
    by_cases z2:q∈fs.take j
    .rw [Ż z2,Ż ((i q).1.mpr (.inl z2))]
    .rw [Ž z2,Ž λN=>((i q).1.mp N).elim z2 z]
 .obtain ⟨d,g1,w,C,l,m,D,F,G,f,g,e,rfl⟩:=L
  rw [ν,ν,ő] at l m
  exact ⟨trivial,q A' d g1 w C l m D F G⟩
end
section
variable {n k:Nat}{A A' A'':AH}{Q:AQ}{c c':Int}{x x':Sx}{p q:P}{w w':Wk}{y y':Lw}{rows:Ú AV}{sent:Ú Lt}{lt:AV}{cs:ò}{en:Ú (P×Str)}{s:Stp}{L:Ú P}
def dh{α:Type}{f:α->AV}{l:Ú α}{m:Nm}(h:A m=some (.lst (l.map f))):eqX (.ref m) (.frl []) A=some l.isEmpty:=by
 unfold eqX
 rw [am h]
 cases l<;>rfl
noncomputable def plA:Nat->AV->Bool
 | _,.int _=>true
 | _,.str _=>true
 | _,.bl _=>true
 | _,.non=>true
 | k+1,.tup xs=>xs.all (plA k)
 | _,_=>false
theorem dj{f:AV->AV->Option Bool}:∀{xs:Ú AV},(∀v∈xs,f v v=some true)->ce f xs xs=some true
 | [],_=>rfl
 | v::xs,h=>by
  unfold ce
  rw [h v Ω,dj λu hu=>h u (Θ _ hu)];rfl
def m8:∀(k:Nat) (v:AV),plA k v=true->eqN k v v=some true:=by
 intro k
 induction k with
 | zero =>
  intro v h
  cases v<;>first | (cases h;done) | (unfold eqN;simp)
 | succ k ih =>
  intro v h
  cases v<;>first | (cases h;done) | skip
  all_goals first | (unfold eqN;simp;done) | skip
  unfold eqN
  exact dj λu a=>ih u (ŗ.mp (show List.all _ _=true from h) u a)
structure Wo(A:AH)(c:Int)(x:Sx)(w:Wk)(y:Lw)(L:Ú P)(k:Nat):Prop where
 fr:Fr A c
 st:StA A x
 wk:WkA A w
 lw:LwA A y x.cs x.en
 go:GO x w y L k
 kk:k<50
 c3:3<=c
structure Bd(x:Sx)(w:Wk)(y:Lw):Prop where
 wk:x.wk.length<=53
 rd:x.rd.length<=53
 en:x.en.length<=50
 ps:w.ps.length<=36
 dr:w.dr.length<=3
 an:w.an.length<=3
 pe:w.pe.length<=3
 ak:y.ak.length<=3
 bd:y.bd.length<=53
theorem Wo.bds(d:Wo A c x w y L k):Bd x w y:=by
 have a:=d.kk
 have g:=d.go
 have h1:=g.lenS d.st.nw.1 g.ws
 have b:=g.lenS d.st.nr.1 g.rs
 have e:=g.lenS d.lw.nb.1 λq h=>g.rs q (by rw [← g.rb];exact h)
 have i:=g.ec
 exact ⟨by lia,by lia,by lia,g.lenP,g.len3 d.wk.nd.1 λq h=>g.ld q (eF▸h),g.len3 d.wk.na.1 λq h=>g.la q (eF▸h),g.len3 d.wk.np.1 g.le,g.len3 d.lw.na.1 g.lk,by lia⟩
theorem PO.small(h:PO x w y p):(aI w.an p).length<=12/\(aI w.dr p).length<=12:=by
 obtain ⟨c',R⟩:=h.run
 have h1:=h.ln
 have a:=h.la
 have b:=R.ln
 rw [aG,aG]
 lia
theorem PO.new(h:PO x w y p)(i:al y.bd p=none):al (aI w.an p) (stO y p).length=none:=by
 obtain ⟨j,a,b⟩:=h.bd i
 rw [aG]
 by_cases e:stO y p=[]
 .rw [(a e).1];rfl
 .obtain ⟨_,l,c,d⟩:=b e
  rw [c]
  show al l _=none
  rw [d,Ż (by lia),ń,Ħ (ι _)];rfl
def Wo.isB(d:Wo A c x w y L k)(hp:Lv x y L p):isB x p=(al y.bd p).isSome:=by
 rw [Ds d.st.nr.1,d.go.rb,hp.2.1];simp
def BR(h:∀z∈az ps,z.1≠p):wts ps p=false:=by
 unfold wts
 rw [Ġ]
 exact λz a=>by simpa using h z a
def hO(h:WkA A w)(a:w.g=g)(q:Q (.frl ((az w.ps).map ptA)) A):fnSp tb (n+6) 84 [.ref (10,[g])] A Q:=by
 subst a
 refine fz (okI rfl (okI (ae h.o rfl) (okI (af h.l.l) (ndI rfl (okI rfl (oo h.l ?_ q))))))
 unfold az
 rw [ν]
 exact ź (ŧ _ _) (by rw [ħ];exact h.l.z)
theorem sR(d:Wo A c x w y [] k)(hp:Lv x y [] p)(u:al y.bd p=none)(z:(al y.ak p).isSome=true)
  (q:∀A' c',Wo A' c' x w y [] k->Q (.bl true) A'):fnSp tb (n+6) 108 [.ref (10,[w.g]),.ref (1,[]),nmA p,.int cell,.ref (32,[]),.ref (33,[]),.int m] A Q:=by
 obtain ⟨a,i⟩:=Ů.mp z
 have C:=d.go.po p hp
 obtain ⟨h1,_⟩:=C.aw a i
 refine fz (okI rfl (b7 d.fr λH v F D G=>?_))
 have b:=d.lw.off (G.cut (by lia) (by lia))
 have h:=d.wk.off (D.cut (by lia) (by lia))
 have l:=d.st.off (D.cut (by lia) (by lia))
 refine okI (bM b.ak p) (ifT (by rw [i];rfl) ?_)
 refine okI (af h.o) (ndI rfl (okI rfl (okI (pAt b.ak i) (okI (pAt b.ak i) (okI (pAt b.ak i) ?_)))))
 refine rR h l F (by rw [d.isB hp,u];rfl) (by rw [h1];exact C.new u) (by rw [d.go.asked hp a i];rfl) λA2 j=>?_
 have e:=v.off (j.off (.inr (.inl (by lia))))
 have r:=l.off (j.off (.inl (by lia)))
 refine okI (af e.s) (ndI rfl (okI rfl (yD e ?_)))
 refine okI (af e.s) (ndI rfl (okI rfl (a9 e r (.inl rfl) ?_)))
 exact q A2 _ ⟨j.fr,r,h.off (j.off (.inl (by lia))),b.off (j.off (.inr (.inr (by lia)))),d.go,d.kk,by have:=d.c3;lia⟩
end
section
variable {n k:Nat}{A A' A'':AH}{Q:AQ}{c c':Int}{x x':Sx}{p q:P}{w w':Wk}{y y':Lw}{rows:Ú AV}{sent:Ú Lt}{lt:AV}{cs:ò}{en:Ú (P×Str)}{s:Stp}{L:Ú P}
def de{α:Type}{f:α->AV}{l:Ú α}{m:Nm}(h:A m=some (.lst (l.map f))):dA (.ref m) A=some (l.map f):=am h
def zv{α:Type}{f:α->AV}{l:Ú α}{a:α}(h:l[l.length-1]?=some a):ixA (l.map f) (-1)=some (f a):=by
 have b:0<l.length:=by
  cases l with
  | nil=>cases h
  | cons _ _=>exact Nat.succ_pos _
 show (if 0<(l.map f).length then (l.map f)[(l.map f).length-(0+1)]? else none)=_
 rw [ν,Ż b,Ź,h];rfl
def vT(e:x'.en=x.en):bg x'=bg x:=by
 show AV.tup _=AV.tup _
 rw [e]
def ma(h:WkA A w)(a:((az w.ps).map (·.1)).any (λz=>decide (z=p))=b){K:Ú AV->AH->Prop}(q:∀ys,cx (nmA p) ys=some b->K ys A)(hz:w.ps.length<800) :
  compL (gT [0,1]) nX (ev (Rb n) (.v 0)).e (λ_=>True) [none,none] K ((az w.ps).map ptA) [] A:=by
 refine aD (f:=ptA) (λ_=>true) (λz=>nmA z.1) trivial _ [] (λz hz K ys h1 _=>h1 rfl) ?_
 rw [ŋ,Ť.mpr λ_ _=>rfl]
 refine q _ ?_
 rw [← a]
 exact (congrArg (cx (nmA p)) (Ō (f:=λx:Pr=>x.1) (g:=nmA)).symm).trans (eT p _)
def md(ps:Ú Pr):(az ps).length<=ps.length:=by
 unfold az
 rw [ν]
 exact Λ (ŧ _ _) (by rw [ħ];exact ι _)
theorem vS{cell:Int}(d:Wo A c x w y [] k)(hp:Lv x y [] p)(G:al y.bd p=none)(m:al y.ak p=none)(hl:(stO y p).length<12)(hk:k<49)
  (q:∀A' c' x' w' y',Wo A' c' x' w' y' [] (k+1)->w'.g=w.g->y'.lv=y.lv->Q (.bl true) A'):fnSp tb (n+10) 108 [.ref (10,[w.g]),.ref (1,[]),nmA p,.int cell,.ref (32,[]),.ref (33,[]),.int x.cs.length] A Q:=by
 have L:=d.go.po p hp
 have B:=d.bds
 obtain ⟨z1,z2⟩:=L.small
 have N:=qE (c:=cell) d.go.cs.1 d.go.cs.2
 refine fz (okI rfl (b7 d.fr λU aw f1 o1 o2=>?_))
 have j:=d.lw.off (o2.cut (by lia) (by lia))
 have a6:=d.wk.off (o1.cut (by lia) (by lia))
 have a8:=d.st.off (o1.cut (by lia) (by lia))
 refine okI (bM j.ak p) (ifF (by rw [m];rfl) ?_)
 obtain ⟨s1,s2,s3⟩:=j.stAt (d.go.ks p hp.1)
 have D:bi (Rb (n+9)) [(.seti (.v 5) (.v 2) (.tup [(.blt .len (.op .ix (.v 4) (.v 2))),(.v 8),(.call 105 [(.v 3),(.v 6)])])),(.ex (Zm 0 226277367 [(.v 7),(.v 2),(.op .ix (.op .ix (.v 5) (.v 2)) (Zi 0)),(.v 8),(.op .ix (.op .ix (.v 5) (.v 2)) (Zi 2))])),(.ite (.op .in_ (.v 2) (.comp (Zm 0 456806792589559 []) 2 true [0,1] [] [] (.v 0))) [(.ret (.op .eq (Zm 7 15240108847187309675492076 []) (.lst [])))] []),(.ret (.bool true (.call 107 [(.v 7),(.v 4),(.v 5)]) (.op .notin (.v 2) (.v 5))))]
   (cC Q) [some (.ref (10,[w.g])),some (.ref (1,[])),some (nmA p),some (.int cell),some (.ref (32,[])),some (.ref (33,[])),some (.int x.cs.length),some (.ref (20,[c])),some (.int (lh 0 (stO y p)))] U:=by
  refine okI s1 (okI (de s2) (yf d.go.cs.1 d.go.cs.2 ?_))
  rw [ν]
  refine okI (ju (l:=y.ak) (y:=((stO y p).length,lh 0 (stO y p),bo cell x.cs.length)) j.ak j.na.1 (ź B.ak (by lia)) rfl) ?_
  have C:=j.setAk (ak:=ap y.ak p ((stO y p).length,lh 0 (stO y p),bo cell x.cs.length)) ⟨bp j.na.1,ź aL (by have:=B.ak;lia)⟩
  have o3:∀{a b:Nat},33<a\/b<33->Off a b U (ac U (33,[]) (dP peV (ap y.ak p ((stO y p).length,lh 0 (stO y p),bo cell x.cs.length)))):=λz=>Off.rf.up (by lia)
  have f2:Fr (ac U (33,[]) (dP peV (ap y.ak p ((stO y p).length,lh 0 (stO y p),bo cell x.cs.length)))) (c+1):=f1.put j.ak
  have H:=a6.off (o3 (by lia))
  have O:=a8.off (o3 (by lia))
  have S:=aw.off (o3 (by lia))
  generalize ac U (33,[]) (dP peV (ap y.ak p ((stO y p).length,lh 0 (stO y p),bo cell x.cs.length)))=A2 at C f2 H O S ⊢
  refine okI (af H.o) (ndI rfl (okI rfl (okI (pAt C.ak bx) (okI (pAt C.ak bx) ?_))))
  have c5:=B.ps
  refine ui (s:=bo cell x.cs.length) H O S f2 (by rw [d.isB hp,G];rfl) (L.new G) (by rw [← L.ak];exact m) (BR (L.an0 m)) (by lia) (by have:=B.pe;lia) N.ok ⟨N.a,N.b⟩ (by show (0:Nat)<899;lia) (by show (0:Nat)<899;lia) (by lia) (by lia) (by have:=B.an;lia) (by have:=B.dr;lia) (by have:=B.wk;lia) (λX A3 c3 cc ca cf g1 g2 Y F g5 g6 g7=>?_) (λX A3 c3 g1 g2 Y F g5 g6=>?_)
  ·-- the step is done
   have I:=C.off (g7.cut (by lia) (by lia))
   obtain ⟨_,a2,_⟩:=j7 X
   have ab:=L.an0 m
   have i:(aQ w.ps p (bo cell x.cs.length).lk).length<800:=ź jd (by lia)
   refine okI (af F.o) (ndI rfl (okI rfl (hO (n:=n+3) F rfl ?_)))
   refine ndI (by rw [ν];exact szl (ź (md _) (Ş i (by lia)))) ?_
   refine ma (n:=n+9) (p:=p) F (b:=false) ?_ ?_ i
   .rw [Ġ]
    intro z hz
    obtain ⟨u,Z,rfl⟩:=ϑ.mp hz
    have Z:u∈az (aQ w.ps p (bo cell x.cs.length).lk):=Z
    rw [a2] at Z
    simpa using ab u Z
   intro ys hy
   refine okI (o:=cx (nmA p) ys) hy (ifF rfl ?_)
   have K:=AY x w p
   refine mW (n:=n+6) (fs:=[p]) (ii:=λ_=>(stO y p).length) (hh:=λ_=>((bo cell x.cs.length).done (dw w x p) (lh 0 (stO y p))).1) (y:={y with ak:=ap y.ak p ((stO y p).length,lh 0 (stO y p),bo cell x.cs.length)}) g5 Y (g6.imp id λz=>z.trans (vT K.2.2.1).symm) I (by simp) (λq hq=>?_) λA4 y4 k1 k2 k3 k4 k5 k6 k7 k8=>?_
   .rw [ϵ.mp hq]
    exact ⟨_,bx,ϱ,d.go.ks p hp.1,by show (stO y p).length<800;lia⟩
   refine ifT rfl (okI (bM k1.ak p) ?_)
   rw [k5 p,Ż (ϵ.mpr rfl)]
   have ag:=Y.off (k6.cut (by lia) (by lia))
   have aq:=F.off (k6.cut (by lia) (by lia))
   have ar:GO (xwk x w p) {w with ps:=aQ w.ps p (bo cell x.cs.length).lk,dr:=ap w.dr p (cc,apL (aI w.dr p) ((bo cell x.cs.length).done (dw w x p) (lh 0 (stO y p))).2),an:=ap w.an p (ca,ap (aI w.an p) (stO y p).length ((bo cell x.cs.length).done (dw w x p) (lh 0 (stO y p))).1)} y4 [] (k+1):=by
    refine zK d.go hp m G hl N X (r:=(bo cell x.cs.length).done (dw w x p) (lh 0 (stO y p))) (by rw [qb,aG]) rfl (λq=>?_) (λq=>?_) (λq=>rfl) K.1 K.2.1 K.2.2.1 (λq h=>AZ h) k2 (λq=>?_) (λq=>?_) k3
    .show sel (ap w.dr p _) q=_
     rw [ik,aG]
    .show sel (ap w.an p _) q=_
     rw [ik,aG]
    .rw [k4 q]
     have:sk {y with ak:=ap y.ak p ((stO y p).length,lh 0 (stO y p),bo cell x.cs.length)} p=bo cell x.cs.length:=by unfold sk;rw [bx];rfl
     by_cases e:q=p
     .rw [e,Ż (ϵ.mpr rfl),Ż rfl,this];rfl
     .rw [Ž (λz=>e (ϵ.mp z)),Ž e]
    .rw [k5 q]
     by_cases e:q=p
     .rw [e,Ż (ϵ.mpr rfl)];exact m.symm
     .rw [Ž (λz=>e (ϵ.mp z))]
      exact xp e
   exact q A4 c3 _ _ y4 ⟨k8 _ g2,ag,aq,by rw [K.1,K.2.2.1];exact k1,ar,by lia,by have:=d.c3;lia⟩ rfl k2
  ·-- it waits
   have I:=C.off (g6.cut (by lia) (by lia))
   obtain ⟨a1,a2⟩:=j6 X
   have i:(aQ w.ps p (bo cell x.cs.length).lk).length<800:=ź jd (by lia)
   refine okI (af F.o) (ndI rfl (okI rfl (hO (n:=n+3) F rfl ?_)))
   refine ndI (by rw [ν];exact szl (ź (md _) (Ş i (by lia)))) ?_
   refine ma (n:=n+9) (p:=p) F (b:=true) ?_ ?_ i
   .refine Ţ.mpr ⟨p,ϑ.mpr ⟨(p,(bo cell x.cs.length).lk),?_,ϱ⟩,τ rfl⟩
    show _∈az (aQ w.ps p _)
    rw [a1]
    exact Ψ _ (ϵ.mpr rfl)
   intro ys hy
   refine okI (o:=cx (nmA p) ys) hy (ifT rfl ?_)
   refine okI (af g5.s) (ndI rfl (okI rfl (a9 g5 Y (.inl rfl) ?_)))
   refine q A3 c3 x _ _ ⟨g2,Y,F,I,?_,by lia,by have:=d.c3;lia⟩ rfl rfl
   exact zJ d.go hp m G hl N X rfl rfl rfl (λq=>al_ap) rfl rfl (λq=>al_ap) rfl
 refine okI s1 (okI (dh s2) ?_)
 cases e:(stO y p).isEmpty with
 | true =>
  refine ifF rfl ?_
  rw [List.isEmpty_iff.mp e] at D
  exact D
 | false =>
  have as:stO y p≠[]:=λz=>by rw [z] at e;cases e
  obtain ⟨t,ht⟩:∃t,(stO y p)[(stO y p).length-1]?=some t:=⟨_,ξ (by have:=List.length_pos_iff.mpr as;lia)⟩
  refine ifT rfl (okI s1 (okI (bG s2 (zv ht)) ?_))
  rw [zp ht] at D
  exact D
end
section
variable {n k:Nat}{A A' A'':AH}{Q:AQ}{c c':Int}{x x':Sx}{p q:P}{w w':Wk}{y y':Lw}{rows:Ú AV}{sent:Ú Lt}{lt:AV}{cs:ò}{en:Ú (P×Str)}{s:Stp}{L:Ú P}
def kZ{α:Type}{f:α->AV}{l:Ú α}{m:Nm}{i:Int}{a:α}(h:A m=some (.lst (l.map f)))(h0:0<=i)(b:l[i.toNat]?=some a):ixV (.ref m) (.int i) A=some (f a):=by
 have e:i=(i.toNat:Int):=(ŕ h0).symm
 refine bG h ?_
 conv=>lhs;rw [e]
 exact ba b
def zi:plA 6 (bg x)=true:=by
 show ((L2.bh L2.ltE x.en).map eA).all (plA 5)=true
 rw [List.all_map,ŗ]
 exact λe _=>rfl
def DI:plA 8 (ltN x (f9 p i h))=true:=by
 show (true&&(true&&(true&&(true&&(plA 6 (bg x)&&true)))&&true))=true
 rw [zi];rfl
theorem xt{cell:Int}(d:Wo A c x w y [] k)(hp:Lv x y [] p)(C:al y.bd p=none)
  (q:∀A' c',Wo A' c' x w y [] k->Q (.bl true) A'):fnSp tb (n+6) 109 [.ref (10,[w.g]),.ref (1,[]),nmA p,.int cell,.ref (32,[]),.ref (35,[])] A Q:=by
 have X:=d.go.po p hp
 have B:=d.bds
 obtain ⟨b,h,I⟩:=d.lw.stAt (d.go.ks p hp.1)
 refine fz (okI rfl (okI b (okI (dh h) ?_)))
 cases e:(stO y p).isEmpty with
 | true=>exact ifT rfl (q A c d)
 | false =>
  have i:stO y p≠[]:=λz=>by rw [z] at e;cases e
  have hl:0<(stO y p).length:=List.length_pos_iff.mpr i
  refine ifF rfl (okI b (okI (de h) ?_))
  rw [ν]
  have h0:=ġ cell (show ((stO y p).length:Int)≠0 by lia)
  have h1:=ň cell (show (0:Int)<(stO y p).length by lia)
  obtain ⟨t,D⟩:∃t,(stO y p)[(cell%(stO y p).length).toNat]?=some t:=⟨_,ξ (by lia)⟩
  refine ndI (by show (0:Int)<((stO y p).length:Int);lia) ?_
  refine b7 d.fr λA1 G Z K o2=>?_
  have j:=d.lw.off (o2.cut (by lia) (by lia))
  have m:=d.wk.off (K.cut (by lia) (by lia))
  have F:=d.st.off (K.cut (by lia) (by lia))
  obtain ⟨b,h,I⟩:=j.stAt (d.go.ks p hp.1)
  refine okI (af m.o) (ndI rfl (okI rfl (okI b (okI (kZ h h0 D) ?_))))
  obtain ⟨_,l,L,N⟩:=(X.bd C).2.2 i
  obtain ⟨O,S,U⟩:=ſ.mp L
  have Y:al O.2 (cell%(stO y p).length)=some t.2:=by rw [U,N,Ż h0,D];rfl
  refine ol m F G Z (by rw [d.isB hp,C];rfl) S Y (by show (0:Nat)<899;lia) λA2 f2 r H u o3=>?_
  have a:=j.off (o3.cut (by lia) (by lia))
  refine okI (af u.s) (ndI rfl (okI rfl (a9 u r (.inl rfl) ?_)))
  obtain ⟨b,h,I⟩:=a.stAt (d.go.ks p hp.1)
  refine okI b (okI (kZ h h0 D) (okI (am a.en) (.inr ⟨x.en,ϱ,by have:=B.en;lia,?_⟩)))
  refine okI (o:=eqX (.frl [ltN x (f9 p (cell%(stO y p).length) t.2)]) (.frl [ltN x (f9 p (cell%(stO y p).length) t.2)]) A2) (x:=true) ?_ (q A2 _ ⟨f2,r,H,a,d.go,d.kk,by have:=d.c3;lia⟩)
  exact dj λv hv=>by rw [ϵ.mp hv];exact m8 8 _ DI
def on{ws:Ú AV}{K:Ú AV->AH->Prop}(q:K (sent.map λz=>.str z.2.1) A):compL (gT [0,1]) nX (ev (Rb n) (Zx 1 0)).e (λ_=>True) [none,none] K (sent.map (ltN x)) [] A:=by
 refine aD (f:=ltN x) (λ_=>true) (λz=>.str z.2.1) trivial _ [] (λz a K b h1 _=>h1 rfl) ?_
 rw [ŋ,Ť.mpr λ_ _=>rfl]
 exact q
theorem jI(d:Wo A c x w y [] k)(hp:Lv x y [] p)
  (q:∀A' c' x' w' y',Wo A' c' x' w' y' [] k->w'.g=w.g->y'.lv=y.lv->Q (.bl true) A'):fnSp tb (n+8) 110 [.ref (10,[w.g]),.ref (1,[]),nmA p,.ref (32,[]),.ref (33,[]),.ref (34,[])] A Q:=by
 have X:=d.go.po p hp
 have B:=d.bds
 refine fz (okI rfl (b7 d.fr λZ H f1 o1 o2=>?_))
 have r:=d.lw.off (o2.cut (by lia) (by lia))
 have C:=d.wk.off (o1.cut (by lia) (by lia))
 have D:=d.st.off (o1.cut (by lia) (by lia))
 have K:=d.isB hp
 refine okI (af C.o) (ndI rfl (okI rfl ?_))
 cases hbd:al y.bd p with
 | some u =>
  rw [hbd] at K
  refine mx C D H f1 K (by show (0:Nat)<899;lia) λA2 f2 F I G o3=>?_
  have i:=r.off (o3.cut (by lia) (by lia))
  refine okI (af G.s) (ndI rfl (okI rfl (a9 G F (.inl rfl) ?_)))
  refine ndI (szl (m:=1) (by lia)) ?_
  refine on (n:=n+7) (ws:=[]) ?_
  refine Or.inl ?_
  refine okI (bM i.bd p) (ifT (by rw [hbd];rfl) (okI (ju (l:=y.bd) (y:=()) i.bd i.nb.1 (ź B.bd (by lia)) rfl) ?_))
  rw [gX (y:=()) hbd,us i.bd]
  exact q A2 _ x w y ⟨f2,F,I,i,d.go,d.kk,by have:=d.c3;lia⟩ rfl rfl
 | none =>
  rw [hbd] at K
  obtain ⟨b1,b2,b3⟩:=X.bd hbd
  have j:(sel w.an p=none\/(al w.pe p).isSome=true)->(stO y p=[]\/(al y.ak p).isSome=true)->fnSp tb (n+7) 76 [.ref (10,[w.g]),.ref (20,[c]),nmA p,.tup [.int 4]] Z (λx N=>bi (Rb (n+7)) [(.set 7 (.comp (Zm 6 15240108847187309675492076 []) 2 true [0,1] [] [] (Zx 1 0))),(.ite (.bool false (.op .in_ (.v 2) (.v 5)) (.bool true (.op .ne (.op .ix (.v 3) (.v 2)) (.lst [])) (.op .notin (.v 2) (.v 4)))) [(.seti (.v 5) (.v 2) (.c (.bl true))),(.ret (.op .eq (.v 7) (.lst [(Zs 1897209)])))] []),(.ret (.op .eq (.v 7) (.lst [])))] (cC Q) [some (.ref (10,[w.g])),some (.ref (1,[])),some (nmA p),some (.ref (32,[])),some (.ref (33,[])),some (.ref (34,[])),some (.ref (20,[c])),none] N):=λh1 h2=>by
   refine oE C D K (h1.imp (λz=>by unfold sel at z;exact Option.map_eq_none_iff.mp z) id) ?_
   refine okI (af H.s) (ndI rfl (okI rfl (a9 H D (.inl rfl) ?_)))
   refine ndI (szl (m:=0) (by lia)) ?_
   refine on (n:=n+7) (sent:=[]) (ws:=[]) ?_
   refine Or.inl ?_
   obtain ⟨O,S,s3⟩:=r.stAt (d.go.ks p hp.1)
   refine okI (bM r.bd p) (ifF (by rw [hbd];rfl) (okI O (okI (dh S) ?_)))
   have L:Q (.bl true) Z:=q Z _ x w y ⟨f1,D,C,r,d.go,d.kk,by have:=d.c3;lia⟩ rfl rfl
   refine if2 (λe=>?_) (λe=>L)
   refine okI (bM r.ak p) (ifF ?_ L)
   rcases h2 with z | z
   .rw [z] at e;cases e
   .rw [z];rfl
  by_cases hn:stO y p=[]
  .exact j (.inl (b2 hn).1) (.inl hn)
  .cases hak:al y.ak p with
   | some a=>exact j (.inr (by rw [d.go.asked hp a hak];rfl)) (.inr (by rw [hak];rfl))
   | none =>
    obtain ⟨k1,l,k2,k3⟩:=b3 hn
    obtain ⟨dd,U⟩:=Ů.mp k1
    obtain ⟨d0,d1,d2⟩:=ſ.mp U
    subst d2
    obtain ⟨z1,z2⟩:=X.small
    have z3:d0.2.length<=12:=by rw [aG,U] at z2;exact z2
    refine sA (n:=n) C D H f1 K (by rw [eF,k2];rfl) (by rw [← X.ak];exact hak) d1 (by lia) (by show (0:Nat)<899;lia) (by show (0:Nat)<899;lia) (ź B.rd (by lia)) λA2 aS f2 F I G o3=>?_
    have i:=r.off (o3.cut (by lia) (by lia))
    refine okI (af G.s) (ndI rfl (okI rfl (a9 G F (.inr rfl) ?_)))
    refine ndI (szl (m:=1) (by lia)) ?_
    refine on (n:=n+7) (ws:=[]) ?_
    refine Or.inl ?_
    obtain ⟨O,S,s3⟩:=i.stAt (d.go.ks p hp.1)
    refine okI (bM i.bd p) (ifF (by rw [hbd];rfl) (okI O (okI (dh S) (ifT ?_ ?_))))
    .cases h:stO y p with
     | nil=>exact absurd h hn
     | cons a b=>rfl
    refine okI (bM i.ak p) (ifT (by rw [hak];rfl) (okI (ju (l:=y.bd) (y:=()) i.bd i.nb.1 (ź B.bd (by lia)) rfl) ?_))
    have Y:=i.setBd (bd:=ap y.bd p ()) ⟨bp i.nb.1,ź aL (by have:=B.bd;lia)⟩
    have o4:∀{a b:Nat},34<a\/b<34->Off a b A2 (ac A2 (34,[]) (dP wkV (ap y.bd p ()))):=λz=>Off.rf.up (by lia)
    refine q _ _ _ _ _ ⟨f2.put i.bd,F.off (o4 (by lia)),I.off (o4 (by lia)),Y,?_,d.kk,by have:=d.c3;lia⟩ rfl rfl
    exact wj d.go hp hbd hak hn U rfl rfl (λq=>oA) rfl rfl (λq=>al_ap) rfl rfl rfl rfl rfl (λq=>al_ap)
end
section
variable {n k k':Nat}{A A' A'':AH}{Q:AQ}{c c':Int}{x x':Sx}{p q:P}{w w':Wk}{y y':Lw}{rows:Ú AV}{sent:Ú Lt}{lt:AV}{cs:ò}{en:Ú (P×Str)}{s:Stp}{L:Ú P}
def vk:∀{cs:ò} {h:Int},bA cs h (a++b)=(bA cs h a).bind λc=>bA c (lh h a) b:=by
 induction a with
 | nil=>intro cs h;rfl
 | cons t a ih =>
  intro cs h
  obtain ⟨s,u⟩:=t
  show (if (s.pl cs h).2=u then bA (s.pl cs h).1 u (a++b) else none)=(if (s.pl cs h).2=u then bA (s.pl cs h).1 u a else none).bind _
  split
  .exact ih
  .rfl
theorem mE:∀{a:Ú (Stp×Int)} {cs c':ò} {h:Int},bA cs h a=some c'->c'.length=cs.length
 | [],_,_,_,e=>by cases e;rfl
 | (s,u)::a,cs,c',h,e=>by
  change (if (s.pl cs h).2=u then bA (s.pl cs h).1 u a else none)=some c' at e
  split at e
  .exact (mE e).trans setAll_len
  .cases e
def yQ{st:Ú (Stp×Int)}{cs c' d:ò}{h:Int}{j:Nat}{t:Stp×Int}(e:bA cs h st=some c')(m:st[j]?=some t)(n:bA cs h (st.take j)=some d):(t.1.pl d (lh h (st.take j))).2=t.2/\bA cs h (st.take (j+1))=some (t.1.pl d (lh h (st.take j))).1/\lh h (st.take (j+1))=t.2:=by
 have i:st.take (j+1)=st.take j++[t]:=by rw [ŏ,m];rfl
 have c:=fK (t:=t) (st:=st.take j) (cs:=cs) (h:=h)
 have l:bA cs h (st.take (j+1))≠none:=λz=>by
  have:=vk (a:=st.take (j+1)) (b:=st.drop (j+1)) (cs:=cs) (h:=h)
  rw [List.take_append_drop,e,z] at this
  cases this
 rw [← i,n] at c
 have c:bA cs h (st.take (j+1))=if (t.1.pl d (lh h (st.take j))).2=t.2 then some (t.1.pl d (lh h (st.take j))).1 else none:=c
 split at c
 .rename_i h1;exact ⟨h1,c,by rw [i];exact kW⟩
 .exact absurd c l
def tN{m:Nm}(h:A m=some (.lst (cs.map .int))):eqX (.frl (cs.map .int)) (.ref m) A=some true:=by
 unfold eqX
 rw [am h]
 exact dj λv a=>by
  obtain ⟨i,_,rfl⟩:=ϑ.mp a
  exact m8 8 _ rfl
structure HU(x:Sx)(w:Wk)(y:Lw)(p:P)(x':Sx)(w':Wk)(y':Lw):Prop where
 g:w'.g=w.g
 lv:y'.lv=y.lv
 bd:y'.bd=y.bd
 en:∀q,al x'.en q=none↔q≠p/\al x.en q=none
 st:∀q,stO y q≠[]->stO y' q≠[]
theorem kX(d:Wo A c x w y L k)(hp:p∈y.lv)(F:al x.en p=none)(hL:(al y.bd p).isSome=true->p∉L)(hk:x.en.length+jp x y+1<=k'+act x y p)(cv:k<=k')(d1:k'<50)
  (q:∀A' c' x' w' y',Wo A' c' x' w' y' L k'->HU x w y p x' w' y'->Q (.bl true) A'):fnSp tb (n+10) 111 [.ref (10,[w.g]),.ref (1,[]),nmA p,.ref (32,[]),.ref (33,[]),.ref (34,[]),.ref (35,[]),.ref (30,[])] A Q:=by
 have B:=d.bds
 have c4:∀(o:Str) (x1:Sx) (D:AH) (c0 ks:Int),x1.en=ap x.en p o->x1.rd=x.rd->x1.wk=x.wk->x1.cs.length=x.cs.length->(∀q,Lv x y L q->q≠p->∀i:Int,0<=i->(∃t∈stO y q,t.1.lk.a<=i/\i<=t.1.lk.b)->gv x.cs i=gv x1.cs i) ->
   (o=gj/\x1.cs=x.cs\/o=dB/\bA x.cs 0 (stO y p)=some x1.cs/\∀t∈stO y p,t.1.Rg x.cs.length)->Fr D c0/\3<=c0->StA D x->WkA D w->LwA D {y with ak:=ad y.ak p} x.cs (ap x.en p o)->jj (n+8) (.tup [.str dH,nmA p,.str o,.tup []]) D x1->ShA D ks [] [] .non ->
   bi (Rb (n+9)) [(.ex (Zm 9 1964018 [(.tup [(Zs 1652581),(.v 2),(.v 8),(.tup [])])])),(.ex (Zm 0 27057010533 [(.v 9),(.v 2)])),(.ite (.op .eq (.v 8) (Zs 213628900)) [(.set 10 (Zi 0)),(.for_ true [11,12] (.op .ix (.v 3) (.v 2)) [(.set 10 (.call 106 [(.v 7),(.v 10),(.v 11)])),(.ite (.op .ne (.v 10) (.v 12)) [(.ret (.c (.bl false)))] [])])] []),(.ret (.bool true (.op .eq (Zm 1 930182424755072348899 []) (.v 7)) (.call 107 [(.v 9),(.v 3),(.v 4)])))]
    (cC Q) [some (.ref (10,[w.g])),some (.ref (1,[])),some (nmA p),some (.ref (32,[])),some (.ref (33,[])),some (.ref (34,[])),some (.ref (35,[])),some (.ref (30,[])),some (.str o),some (.ref (20,[ks])),none,none,none] D:=by
  intro o x1 D c0 ks Y cm aa ab ag ho ⟨f0,ek⟩ co cp cr Z an
  refine okI (af an.s) (ndI rfl (okI rfl (oC an co Z (by show (0:Nat)<899;lia) λA1 s1 c7 o1 o2 f1=>?_)))
  have a2:=cp.off (o1.cut (by lia) (by lia))
  have C:=cr.off (o2.cut (by lia) (by lia))
  have G:=zM (p:=p) d.go (x1:=x1) ab aa d.wk.nd.1 d.wk.na.1 d.st.nw.1 (by have:=d.kk;lia)
  refine okI (af a2.o) (ndI rfl (okI rfl (wE a2 s1 c7 (f1 _ f0) (by show (0:Nat)<800;lia) (by show (1:Nat)<800;lia) G (.inr rfl) λA2 c2 w2 x2 U cd g1 g2 g3 g4 g5 g6 g7 R=>?_)))
  have l:=C.off (g7.cut (by lia) (by lia))
  have a3:=R.cs
  have a4:∀(H:AH) (e1 e2 e3:Option AV),StA H x2->WkA H w2->LwA H {y with ak:=ad y.ak p} x1.cs (ap x.en p o)->ShA H ks U ([]++(frd w.ps p).map (ltq w x1.cs)) cd->Fr H c2->bi (Rb (n+9)) [(.ret (.bool true (.op .eq (Zm 1 930182424755072348899 []) (.v 7)) (.call 107 [(.v 9),(.v 3),(.v 4)])))] (cC Q) [some (.ref (10,[w.g])),some (.ref (1,[])),some (nmA p),some (.ref (32,[])),some (.ref (33,[])),some (.ref (34,[])),some (.ref (35,[])),some (.ref (30,[])),some (.str o),some (.ref (20,[ks])),e1,e2,e3] H:=by
   intro H e1 e2 e3 m ct aq X f3
   refine okI (af m.s) (ndI rfl (okI rfl (wQ m ?_)))
   rw [a3]
   refine okI (tN aq.pl) (ifT rfl ?_)
   refine mW (n:=n+6) (fs:=frd w.ps p) (ii:=λq=>(stq w q).1) (hh:=λq=>(dnq w x1.cs q).1) (y:={y with ak:=ad y.ak p}) X m g6 aq (fY d.go.wn) (λq hq=>?_) λA4 y4 k1 k2 k3 k4 k5 k6 k7 k8=>?_
   .obtain ⟨hl,a,ha,ea⟩:=cK d.go hq
    have S:=(frd_in.mp hq).2.1
    refine ⟨a,by show al (ad y.ak p) q=_;rw [rH S];exact ha,by rw [ea],d.go.ks q hl.1,?_⟩
    have:=(d.go.po q hl).ln
    show (stO y q).length<800
    lia
   have I:x2.en=ap x.en p o:=by rw [R.en,Y]
   have c5:GO x2 w2 y4 L k':=by
    refine Dw d.go hp F R ab cm aa (λq=>?_) (by rw [Y];exact aL) ag k2 (λq=>?_) (λq=>?_) k3 hk cv
    .rw [Y,al_ap]
     by_cases e:q=p
     .rw [Ż e];exact ⟨(λz=>nomatch z),λz=>absurd e z.1⟩
     .rw [Ž e];exact ⟨λz=>⟨e,z⟩,λz=>z.2⟩
    .rw [k4 q]
     by_cases e:q∈frd w.ps p
     .rw [Ż e,Ż e]
      obtain ⟨hl,a,ha,ea⟩:=cK d.go e
      have S:=(frd_in.mp e).2.1
      have:sk {y with ak:=ad y.ak p} q=(stq w q).2.2:=by
       unfold sk
       show ((al (ad y.ak p) q).getD _).2.2=_
       rw [rH S,ha,ea];rfl
      rw [this];rfl
     .rw [Ž e,Ž e]
    .rw [k5 q]
     show (if q∈frd w.ps p then none else al (ad y.ak p) q)=_
     rw [al_ad]
   refine q A4 c2 x2 w2 y4 ⟨k8 _ f3,m.off (k6.cut (by lia) (by lia)),ct.off (k6.cut (by lia) (by lia)),by rw [I,a3];exact k1,c5,d1,by lia⟩ ⟨?_,k2,k3,λq=>?_,λq h=>?_⟩
   .have:=R.g
    exact this
   .rw [I,al_ap]
    by_cases e:q=p
    .rw [Ż e];exact ⟨(λz=>nomatch z),λz=>absurd e z.1⟩
    .rw [Ž e];exact ⟨λz=>⟨e,z⟩,λz=>z.2⟩
   .have:=k4 q
    unfold stO
    rw [this]
    split
    .simp
    .exact h
  rcases ho with ⟨rfl,hc⟩ | ⟨rfl,hc,hrg⟩
  .rw [← hc] at l
   exact a4 A2 none none none g3 g4 l g5 g2
  .obtain ⟨s1,s2,s3⟩:=l.stAt (y:={y with ak:=ad y.ak p}) (d.go.ks p hp)
   refine okI s1 (okI (am s2) ?_)
   refine aV (λj σ A'=>∃cj,bA x.cs 0 ((stO y p).take j)=some cj/\A'=ac A2 (30,[]) (.lst (cj.map .int))/\∃f g,σ=[some (.ref (10,[w.g])),some (.ref (1,[])),some (nmA p),some (.ref (32,[])),some (.ref (33,[])),some (.ref (34,[])),some (.ref (35,[])),some (.ref (30,[])),some (.str dB),some (.ref (20,[ks])),some (.int (lh 0 ((stO y p).take j))),f,g])
    ⟨x.cs,ϱ,(us l.pl).symm,none,none,ϱ⟩ (λj z σ A' K hx hP hK=>?_) (fun σ A' hP=>?_)
   .obtain ⟨cj,h1,rfl,f,g,rfl⟩:=hP
    rw [Ź] at hx
    obtain ⟨t,ht,rfl⟩:=ſ.mp hx
    obtain ⟨h2,h3,h4⟩:=yQ hc ht h1
    have c6:=mE h1
    refine ⟨am ((u0 (by lia)).trans s2),?_⟩
    refine sI (s:=t.1) (cs:=cj) (by rw [c6];exact hrg t (Ÿ ht)) uS ?_
    rw [uu,h2]
    refine ifF (c:=true ^^ decide (t.2=t.2)) (by simp) (hK _ _ ⟨_,h3,ϱ,_,_,by rw [h4];rfl⟩)
   .obtain ⟨cj,h1,rfl,f,g,rfl⟩:=hP
    rw [ν] at h1
    have h1:bA x.cs 0 (stO y p)=some cj:=by rwa [show (stO {y with ak:=ad y.ak p} p).length=(stO y p).length from rfl,ő] at h1
    rw [hc] at h1
    cases h1
    refine ⟨am ((u0 (by lia)).trans s2),?_⟩
    have o3:∀{a b:Nat},30<a\/b<30->Off a b A2 (ac A2 (30,[]) (.lst (x1.cs.map .int))):=λz=>Off.rf.up (by lia)
    exact a4 _ _ _ _ (g3.off (o3 (by lia))) (g4.off (o3 (by lia))) l.setPl (g5.off (o3 (by lia))) (g2.put l.pl)
 have N:∀(o:Str) (x1:Sx),x1.en=ap x.en p o->x1.rd=x.rd->x1.wk=x.wk->x1.cs.length=x.cs.length->(∀q,Lv x y L q->q≠p->∀i:Int,0<=i->(∃t∈stO y q,t.1.lk.a<=i/\i<=t.1.lk.b)->gv x.cs i=gv x1.cs i) ->
   (o=gj/\x1.cs=x.cs\/o=dB/\bA x.cs 0 (stO y p)=some x1.cs/\∀t∈stO y p,t.1.Rg x.cs.length)->(∀D,StA D x->jj (n+8) (.tup [.str dH,nmA p,.str o,.tup []]) D x1) ->
   bi (Rb (n+9)) [(.ex (.meth (.v 6) (some .append) 3465715398753 [(.tup [(.v 2),(.v 8)])])),(.ex (.meth (.v 4) (some .pop) 1849328 [(.v 2),(.c .non)])),(.set 9 (.make 21 [(.v 1)])),(.ex (Zm 9 1964018 [(.tup [(Zs 1652581),(.v 2),(.v 8),(.tup [])])])),(.ex (Zm 0 27057010533 [(.v 9),(.v 2)])),(.ite (.op .eq (.v 8) (Zs 213628900)) [(.set 10 (Zi 0)),(.for_ true [11,12] (.op .ix (.v 3) (.v 2)) [(.set 10 (.call 106 [(.v 7),(.v 10),(.v 11)])),(.ite (.op .ne (.v 10) (.v 12)) [(.ret (.c (.bl false)))] [])])] []),(.ret (.bool true (.op .eq (Zm 1 930182424755072348899 []) (.v 7)) (.call 107 [(.v 9),(.v 3),(.v 4)])))]
    (cC Q) [some (.ref (10,[w.g])),some (.ref (1,[])),some (nmA p),some (.ref (32,[])),some (.ref (33,[])),some (.ref (34,[])),some (.ref (35,[])),some (.ref (30,[])),some (.str o),none,none,none,none] A:=by
  intro o x1 e1 e2 e3 e4 e5 e6 e7
  refine okI (fI d.lw.en) (okI rfl (okI rfl (okI ((dq (y:=eA (p,o)) d.lw.en (by rw [ν];exact rZ (ź B.en (by lia)))).trans (congrArg (λz=>some (ac A (35,[]) (.lst z))) (ů (f:=eA) (l₁:=x.en) (l₂:=[(p,o)])).symm)) ?_)))
  rw [← dU (y:=o) F]
  have C:=d.lw.setEn (en':=ap x.en p o)
  refine okI (aY C.ak) (okI rfl (okI rfl (okI (qw C.ak) ?_)))
  have l:=C.setAk (ak:=ad y.ak p) ⟨fM d.lw.na.1,ź bZ d.lw.na.2⟩
  have o1:∀{a b:Nat},35<a\/b<33->Off a b A (ac (ac A (35,[]) (.lst ((ap x.en p o).map eA))) (33,[]) (dP peV (ad y.ak p))):=λz=>(Off.rf.up (by lia)).up (by lia)
  have f2:Fr (ac (ac A (35,[]) (.lst ((ap x.en p o).map eA))) (33,[]) (dP peV (ad y.ak p))) c:=(d.fr.put d.lw.en).put C.ak
  refine b7 f2 λH X f3 o2 o3=>?_
  have m:=(d.st.off (o1 (by lia))).off (o2.cut (by lia) (by lia))
  exact c4 o x1 H (c+1) c e1 e2 e3 e4 e5 e6 ⟨f3,by have:=d.c3;lia⟩ m ((d.wk.off (o1 (by lia))).off (o2.cut (by lia) (by lia))) (l.off (o3.cut (by lia) (by lia))) (e7 H m) X
 have O:x.en.length<62:=ź B.en (by lia)
 refine fz (okI rfl (okI (bM d.lw.bd p) ?_))
 cases hbd:al y.bd p with
 | none=>exact N gj {x with en:=ap x.en p gj} rfl rfl rfl rfl (λq _ _ i _ _=>rfl) (.inl ⟨rfl,rfl⟩) λD h=>o9 h O F
 | some u =>
  have a8:Lv x y L p:=⟨hp,F,hL (by rw [hbd];rfl)⟩
  have P0:=d.go.po p a8
  obtain ⟨_,_,_,r,h4,h5,h6,_⟩:=P0.bn (by rw [hbd];rfl)
  obtain ⟨c1,R⟩:=P0.run
  have hs:=yB R h6 h5
  exact N dB {x with cs:=aM x.cs r.2,en:=ap x.en p dB} rfl rfl rfl setAll_len (λq hq hn=>wJ d.go a8 hq hn h5 h6) (.inr ⟨ϱ,by rw [R.pl,← hs],R.rg⟩) λD h=>o8 h O F h4 λz hz=>by
   have:=cT h5 hz
   rw [h6] at this
   exact (R.ky _ (aX this)).1
end
section
variable {n k k':Nat}{A A' A'':AH}{Q:AQ}{c c':Int}{x x':Sx}{p q:P}{w w':Wk}{y y':Lw}{rows:Ú AV}{sent:Ú Lt}{lt:AV}{cs:ò}{en:Ú (P×Str)}{s:Stp}{L:Ú P}
def Ef{α:Type}{l:Ú (P×α)}:(l.map (·.1)).any (λz=>decide (z=p))=(al l p).isSome:=by
 rw [Ģ,Ţ]
 constructor
 .rintro ⟨z,c,e⟩
  obtain ⟨u,a,rfl⟩:=ϑ.mp c
  rw [← Ξ e]
  exact du a
 .intro h
  obtain ⟨v,b⟩:=Ů.mp h
  exact ⟨p,ϑ.mpr ⟨(p,v),aX b,ϱ⟩,τ rfl⟩
noncomputable def mix(f:P->P)(j:Nat)(l:Ú P):Ú P:=(l.take j).map f++l.drop j
theorem Df{f:P->P}{j:Nat}{l:Ú P}(h:l[j]?=some p):(mix f j l)[j]?=some p/\(mix f j l).set j (f p)=mix f (j+1) l/\(mix f (j+1) l)[j]?=some (f p)/\(mix f j l).length=l.length:=by
 obtain ⟨h1,d⟩:=ž.mp h
 have b:l.drop j=p::l.drop (j+1):=by rw [Ő h1,d]
 have a:((l.take j).map f).length=j:=by rw [ν,ű];lia
 have c:mix f (j+1) l=(l.take j).map f++f p::l.drop (j+1):=by
  unfold mix
  rw [ŏ,h,ů,List.append_assoc];rfl
 refine ⟨?_,?_,?_,?_⟩
 .unfold mix
  rw [b,ť (by lia),a,ā];rfl
 .rw [c]
  unfold mix
  rw [b,List.set_append_right _ _ (by lia),a,ā];rfl
 .rw [c,ť (by lia),a,ā];rfl
 .unfold mix
  rw [ŷ,a,List.length_drop];lia
theorem jR(h:LwA A y cs en)(hf:Fr A c)(hx:x.en=en)(he:en.length<800)(hl:y.lv.length<800)(hs:y.st.length+y.lv.length<800)(hc:∀p∈y.lv,p.1<c)
  (q:∀A' y',LwA A' y' cs en->Fr A' c->Off 0 29 A A'->Off 37 100 A A'->y'.lv=y.lv.map (nxt x)->(∀q,al y'.st q=if q∈y'.lv then some (stO y q) else al y.st q)->y'.ak=y.ak->y'.bd=y.bd->Q .non A'):fnSp tb (n+1) 113 [.ref (31,[]),.ref (32,[]),.ref (35,[])] A Q:=by
 refine fz (okI rfl (okI (am h.en) (ndI (by rw [ν];exact szl (by lia)) ?_)))
 refine aD (f:=eA) (λ_=>true) (λe=>nmA e.1) (am h.en) en [] (λe he K ys h1 _=>h1 rfl) (.inl ?_)
 rw [ŋ,Ť.mpr λ_ _=>rfl]
 refine okI (de h.lv) ?_
 rw [ν]
 refine ⟨⟨by lia,by lia⟩,?_⟩
 rw [show ((y.lv.length:Int)).toNat=y.lv.length from rfl,cZ]
 refine aV (λj σ A'=>∃y',LwA A' y' cs en/\Fr A' c/\Off 0 29 A A'/\Off 37 100 A A'/\y'.lv=mix (nxt x) j y.lv/\(∀q,al y'.st q=if q∈(y.lv.take j).map (nxt x) then some (stO y q) else al y.st q)/\y'.st.length<=y.st.length+j/\y'.ak=y.ak/\y'.bd=y.bd/\∃f,σ=[some (.ref (31,[])),some (.ref (32,[])),some (.ref (35,[])),some (.fzl (en.map λe=>nmA e.1)),f])
  ⟨y,h,hf,Off.rf,Off.rf,ϱ,λq=>by simp,Nat.le_refl _,ϱ,ϱ,none,ϱ⟩ (λj z σ A' K L hP hK=>?_) (fun σ A' hP=>?_)
 .obtain ⟨a,g1,O,S,U,X,d,g7,Y,Z,f,rfl⟩:=hP
  rw [Ź] at L
  obtain ⟨j',hj,rfl⟩:=ſ.mp L
  obtain ⟨h1,h2⟩:=ž.mp hj
  rw [Ĩ] at h2
  subst h2
  have jl:j<y.lv.length:=by simpa using h1
  obtain ⟨r,hr⟩:∃r,y.lv[j]?=some r:=⟨_,ξ jl⟩
  have hm:=Ÿ hr
  obtain ⟨F,m2,m3,m4⟩:=Df (f:=nxt x) hr
  rw [← X] at F m2 m4
  refine ⟨trivial,okI (bG g1.lv (ba F)) ?_⟩
  have G:cx (nmA r) (en.map λe=>nmA e.1)=some (al en r).isSome:=by
   rw [← Ef]
   exact (congrArg (cx (nmA r)) (Ō (f:=λe:P×Str=>e.1) (g:=nmA)).symm).trans (eT r _)
  refine okI (o:=cx (nmA r) (en.map λe=>nmA e.1)) G ?_
  have b:∀A2,LwA A2 {a with lv:=mix (nxt x) (j+1) y.lv} cs en->Fr A2 c->Off 0 29 A A2->Off 37 100 A A2 ->
    bi (Rb n) [(.seti (.v 1) (.op .ix (.v 0) (.v 4)) (.meth (.v 1) (some .get) 1913575 [(.op .ix (.v 0) (.v 4)),(.lst [])]))] (AEnds.lp (cC Q) K) [some (.ref (31,[])),some (.ref (32,[])),some (.ref (35,[])),some (.fzl (en.map λe=>nmA e.1)),some (.int (j:Nat))] A2:=by
   intro A2 l2 f2 o1 o2
   obtain ⟨d1,d2⟩:=qy l2.st (nxt x r)
   refine okI (aY l2.st) (okI rfl (okI rfl (okI (bG l2.lv (ba m3)) ?_)))
   have H:∀D,(∀q,al D q=if q=nxt x r then some (stO y q) else al a.st q)->∀q,al D q=if q∈(y.lv.take (j+1)).map (nxt x) then some (stO y q) else al y.st q:=λD e q=>by
    have m:q∈(y.lv.take (j+1)).map (nxt x)↔q∈(y.lv.take j).map (nxt x)\/q=nxt x r:=by
     rw [ŏ,hr,ů,Ű]
     simp
    rw [e q,d q]
    by_cases e1:q=nxt x r
    .rw [Ż e1,Ż (m.mpr (.inr e1))]
    .rw [Ž e1]
     by_cases e2:q∈(y.lv.take j).map (nxt x)
     .rw [Ż e2,Ż (m.mpr (.inl e2))]
     .rw [Ž e2,Ž λz=>(m.mp z).elim e2 e1]
   cases e:al a.st (nxt x r) with
   | some v =>
    have ev:v=stO y (nxt x r):=by
     rw [d] at e
     split at e
     .cases e;rfl
     .unfold stO;rw [e];rfl
    have e':al ({a with lv:=mix (nxt x) (j+1) y.lv}:Lw).st (nxt x r)=some v:=e
    refine .inl ?_
    refine okI d1 (okI d2 ?_)
    rw [e']
    refine okI (bG l2.lv (ba m3)) (okI (ju (l:=a.st) (y:=v) l2.st l2.ns.1 (by lia) rfl) ?_)
    rw [gX e,us l2.st]
    refine hK _ _ ⟨_,l2,f2,o1,o2,ϱ,?_,by show a.st.length<=_;lia,Y,Z,_,ϱ⟩
    refine H a.st λq=>?_
    by_cases e1:q=nxt x r
    .rw [Ż e1,e1,e,ev]
    .rw [Ž e1]
   | none =>
    have e':al ({a with lv:=mix (nxt x) (j+1) y.lv}:Lw).st (nxt x r)=none:=e
    have a8:stO y (nxt x r)=[]:=by
     rw [d] at e
     split at e
     .cases e
     .unfold stO;rw [e];rfl
    have hn:=l2.sf (nxt x r) e
    have bb:(nxt x r).1<c:=by
     have:=hc r hm
     unfold nxt
     split<;>exact this
    refine .inr ⟨(36,[(nxt x r).1,(nxt x r).2]),hn,?_⟩
    have u:(ac A2 (36,[(nxt x r).1,(nxt x r).2]) (.lst [])) (32,[])=_:=(u0 (by lia)).trans l2.st
    have I:(ac A2 (36,[(nxt x r).1,(nxt x r).2]) (.lst [])) (31,[])=_:=(u0 (by lia)).trans l2.lv
    obtain ⟨d1,d2⟩:=qy u (nxt x r)
    refine okI d1 (okI d2 ?_)
    rw [e']
    refine okI (bG I (ba m3)) (okI (ju (l:=a.st) (y:=[]) u l2.ns.1 (by lia) rfl) ?_)
    have f3:Fr (ac A2 (36,[(nxt x r).1,(nxt x r).2]) (.lst [])) c:=⟨(uN λz=>by cases z).trans f2.1,λk i l hi=>(uN λz=>by cases z;lia).trans (f2.2 k i l hi)⟩
    have l4:LwA (ac (ac A2 (36,[(nxt x r).1,(nxt x r).2]) (.lst [])) (32,[]) (dP stV (ap a.st (nxt x r) []))) {a with lv:=mix (nxt x) (j+1) y.lv,st:=ap a.st (nxt x r) []} cs en :=
     ⟨(u0 (by lia)).trans ((u0 (by lia)).trans l2.pl),(u0 (by lia)).trans I,uS,(u0 (by lia)).trans ((u0 (by lia)).trans l2.ak),(u0 (by lia)).trans ((u0 (by lia)).trans l2.bd),(u0 (by lia)).trans ((u0 (by lia)).trans l2.en),λt N=>by
      rcases gY l2.ns.1 N with rfl | ⟨N,ne⟩
      .exact ⟨(u0 (by lia)).trans uS,by show (0:Nat)<900;lia⟩
      .refine ⟨(u0 (by lia)).trans ((uN λz=>?_).trans (l2.ss t N).1),(l2.ss t N).2⟩
       have:=(l2.ss t N).1
       rw [z,hn] at this
       exact (nomatch this),λq w=>by
      have w:al (ap a.st (nxt x r) []) q=none:=w
      rw [al_ap] at w
      by_cases e2:q=nxt x r
      .rw [Ż e2] at w;cases w
      .rw [Ž e2] at w
       refine (u0 (by lia)).trans ((uN λz=>e2 ?_).trans (l2.sf q w))
       obtain ⟨q1,q2⟩:=q
       generalize nxt x r=p' at z
       obtain ⟨p1,p2⟩:=p'
       cases z;rfl,⟨bp l2.ns.1,ź aL (by lia)⟩,l2.na,l2.nb⟩
    refine hK _ _ ⟨_,l4,f3.put u,(o1.up (.inr (by lia))).up (.inr (by lia)),(o2.up (.inl (by lia))).up (.inl (by lia)),ϱ,?_,Λ aL (by lia),Y,Z,_,ϱ⟩
    refine H _ λq=>?_
    rw [al_ap]
    by_cases e1:q=nxt x r
    .rw [Ż e1,Ż e1,e1,a8]
    .rw [Ž e1,Ž e1]
  refine if2 (c:=false ^^ (al en r).isSome) (λe=>?_) (λe=>?_)<;>rw [Ŝ] at e
  .have C:nxt x r=(r.1,r.2+1):=by unfold nxt;rw [hx];exact if_pos e
   refine okI (bG g1.lv (ba F)) (okI (bG g1.lv (ba F)) ?_)
   have aa:AV.tup [.int r.1,.int (r.2+1)]=nmA (nxt x r):=by rw [C]
   refine okI ((oz (i:=j) (y:=.tup [.int r.1,.int (r.2+1)]) g1.lv (by rw [ν,m4];exact jl)).trans ?_) (b (ac A' (31,[]) (.lst ((mix (nxt x) (j+1) y.lv).map nmA))) g1.setLv (O.put g1.lv) (S.up (.inr (by lia))) (U.up (.inl (by lia))))
   rw [← m2,List.map_set,aa]
  .have C:nxt x r=r:=by unfold nxt;rw [hx];exact if_neg (by rw [e];exact Bool.false_ne_true)
   have em:a.lv=mix (nxt x) (j+1) y.lv:=by
    rw [← m2,C]
    obtain ⟨u1,u2⟩:=ž.mp F
    rw [← u2]
    exact (List.set_getElem_self u1).symm
   refine b A' ?_ O S U
   rw [← em];exact g1
 .obtain ⟨a,g1,O,S,U,X,d,g7,Y,Z,f,rfl⟩:=hP
  rw [ν,Ğ] at X d
  rw [ő] at d
  have e:a.lv=y.lv.map (nxt x):=by rw [X];unfold mix;rw [List.take_length,List.drop_length,List.append_nil]
  exact ⟨trivial,q A' a g1 O S U e (λq=>by rw [e];exact d q) Y Z⟩
end
section
variable {n k k':Nat}{A A' A'':AH}{Q:AQ}{c c':Int}{x x':Sx}{p q:P}{w w':Wk}{y y':Lw}{rows:Ú AV}{sent:Ú Lt}{lt:AV}{cs:ò}{en:Ú (P×Str)}{s:Stp}{L:Ú P}
def tL(g:GO x w y L k)(h:∀p∈L,al x.en p≠none):GO x w y [] k:=by
 have e:∀q,Lv x y [] q↔Lv x y L q:=λq=>⟨λ⟨h1,a,_⟩=>⟨h1,a,λz=>h q z a⟩,λ⟨h1,a,_⟩=>⟨h1,a,ņ⟩⟩
 exact ⟨g.lv,λp hp=>g.po p ((e p).mp hp),g.kn,g.ks,g.kl,λz b=>(e _).mpr (g.lp z b),λq h=>(e q).mpr (g.ld q h),λq h=>(e q).mpr (g.la q h),λq h=>(e q).mpr (g.le q h),λq h=>(e q).mpr (g.lk q h),g.rb,g.ws,g.rs,g.es,g.wn,g.cs,g.ec⟩
def Bn(g:GO x w y L k):y.lv.Nodup:=by
 obtain ⟨a,b,c,e⟩:=g.lv
 rw [e]
 simp
theorem EM(d:Wo A c x w y [] k)(S:∀p∈y.lv,al x.en p=none)
  (q:∀A' c' x' w' y',Wo A' c' x' w' y' [] k->y'.lv=y.lv->Q (.ref (10,[w'.g])) A'):fnSp tb (n+11) 112 [.ref (1,[]),.ref (31,[]),.ref (32,[]),.ref (33,[]),.ref (34,[]),.ref (35,[]),.ref (30,[])] A Q:=by
 have hn:=d.st.nr.1
 have h3:=rn d.go hn
 refine fz (okI rfl (qJ (n:=n+2) d.st d.fr (B0 d.go hn) (by lia) λG c1 w1 g1 g2 g3 g4 g5 g6 g7 g8 g9 aq cc=>?_))
 have v:=d.lw.off (g5.cut (by lia) (by lia))
 refine okI (aY v.ak) (okI rfl (okI rfl (okI (x:=ac G (33,[]) (dP peV [])) ?_ ?_)))
 .show (match G (33,[]) with | some (.dT ks ys)=>some (ac G (33,[]) (.dT [] [])) | _=>none)=_
  rw [v.ak];rfl
 have a8:=v.setAk (ak:=[]) ⟨ŭ,by show (0:Nat)<900;lia⟩
 have o1:∀{a b:Nat},33<a\/b<33->Off a b G (ac G (33,[]) (dP peV [])):=λz=>Off.rf.up (by lia)
 have aa:GO x w1 {y with ak:=[]} (kU y) k:=F3 d.go hn g9 aq g7 g8 rfl rfl rfl rfl
 have d2:Wo (ac G (33,[]) (dP peV [])) c1 x w1 {y with ak:=[]} (kU y) k:=⟨g2.put v.ak,g3.off (o1 (by lia)),g4.off (o1 (by lia)),a8,aa,d.kk,by have:=d.c3;lia⟩
 generalize ac G (33,[]) (dP peV [])=A2 at d2
 refine okI (am d2.lw.lv) ?_
 refine aV (λj σ A'=>∃c' x' w' y',Wo A' c' x' w' y' (kU y) k/\y'.lv=y.lv/\y'.bd=y.bd/\w'.g=c/\(∀q,stO y q≠[]->stO y' q≠[])/\(∀(i:Nat) p,i<j->y.lv[i]?=some p->p∈kU y->al x'.en p≠none)/\(∀(i:Nat) p,j<=i->y.lv[i]?=some p->al x'.en p=none)/\∃f,σ=[some (.ref (1,[])),some (.ref (31,[])),some (.ref (32,[])),some (.ref (33,[])),some (.ref (34,[])),some (.ref (35,[])),some (.ref (30,[])),some (.ref (10,[c])),f])
  ⟨c1,x,w1,_,d2,ϱ,ϱ,g6,λq h=>h,λi p h=>absurd h (Nat.not_lt_zero _),λi p _ h=>S p (Ÿ h),none,ϱ⟩ (λj z σ A' K hx hP hK=>?_) (fun σ A' hP=>?_)
 .obtain ⟨U,I,X,r,l,D,Y,H,Z,k6,k7,f,rfl⟩:=hP
  rw [Ź] at hx
  obtain ⟨p,hp,rfl⟩:=ſ.mp hx
  have hp:y.lv[j]?=some p:=hp
  have hm:p∈r.lv:=by rw [D];exact Ÿ hp
  have L:=k7 j p (ι _) hp
  have F:listOf (.ref (31,[])) A'=some (y.lv.map nmA):=by rw [← D];exact am l.lw.lv
  obtain ⟨s1,s2,s3⟩:=l.lw.stAt (l.go.ks p hm)
  have jn:∀(i:Nat) q,y.lv[i]?=some q->q=p->i=j:=λi q o e=>by
   obtain ⟨h1,h2⟩:=ž.mp o
   obtain ⟨h3,h4⟩:=ž.mp hp
   exact (Ě (h₀:=h1) (h₁:=h3) (Bn d.go)).mp (by rw [h2,h4,e])
  have C:(p∉kU y)->K [some (.ref (1,[])),some (.ref (31,[])),some (.ref (32,[])),some (.ref (33,[])),some (.ref (34,[])),some (.ref (35,[])),some (.ref (30,[])),some (.ref (10,[c])),some (nmA p)] A':=λhL=>hK _ _ ⟨U,I,X,r,l,D,Y,H,Z,λi q o m hl=>by
   rcases Nat.lt_or_eq_of_le (Ĉ o) with h | rfl
   .exact k6 i q h m hl
   .rw [hp] at m;cases m;exact absurd hl hL,λi q o m=>k7 i q (by lia) m,_,ϱ⟩
  have N:p∈kU y↔stO y p≠[]/\al y.bd p=none:=by
   unfold kU
   rw [ŵ]
   constructor
   .rintro ⟨_,h⟩
    rw [Ā] at h
    exact ⟨λz=>by rw [z] at h;exact (nomatch h.1),Option.isNone_iff_eq_none.mp h.2⟩
   .rintro ⟨h1,h2⟩
    refine ⟨Ÿ hp,?_⟩
    rw [h2]
    cases h:stO y p with
    | nil=>exact absurd h h1
    | cons a b=>rfl
  refine ⟨F,okI s1 (okI (dh s2) ?_)⟩
  cases e:(stO r p).isEmpty with
  | true =>
   refine ifF rfl (C λz=>?_)
   exact Z p (N.mp z).1 (List.isEmpty_iff.mp e)
  | false =>
   have ag:stO r p≠[]:=λz=>by rw [z] at e;cases e
   refine ifT rfl (okI (bM l.lw.bd p) ?_)
   cases hbd:al r.bd p with
   | some u =>
    refine ifF rfl (C λz=>?_)
    have:=(N.mp z).2
    rw [← Y,hbd] at this
    cases this
   | none =>
    refine ifT rfl ?_
    have O:act I r p=1:=by unfold act;exact if_pos ⟨L,.inl ag⟩
    have bl:=l.go.ec
    rw [← H]
    refine kX (n:=n) (k':=k) l hm L (λh=>by rw [hbd] at h;cases h) (by rw [O];lia) (ι _) l.kk λA4 c4 x4 w4 y4 d4 E=>?_
    refine ifF rfl (hK _ _ ⟨c4,x4,w4,y4,d4,E.lv.trans D,E.bd.trans Y,E.g.trans H,λq h=>E.st q (Z q h),λi q o m hl=>?_,λi q o m=>?_,_,by rw [H];rfl⟩)
    .intro h4
     obtain ⟨h5,h6⟩:=(E.en q).mp h4
     rcases Nat.lt_or_eq_of_le (Ĉ o) with h | rfl
     .exact k6 i q h m hl h6
     .rw [hp] at m;cases m;exact h5 rfl
    .refine (E.en q).mpr ⟨λe2=>?_,k7 i q (by lia) m⟩
     have:=jn i q m e2
     lia
 .obtain ⟨U,I,X,r,l,D,Y,H,Z,k6,k7,f,rfl⟩:=hP
  have F:listOf (.ref (31,[])) A'=some (y.lv.map nmA):=by rw [← D];exact am l.lw.lv
  refine ⟨F,?_⟩
  have dn:Wo A' U I X r [] k:=⟨l.fr,l.st,l.wk,l.lw,tL l.go λp hp=>by
   obtain ⟨h1,_⟩:=ŵ.mp hp
   obtain ⟨i,o,e⟩:=Ŧ.mp h1
   exact k6 i p (by rw [ν];exact o) (by rw [ξ o,e]) hp,l.kk,l.c3⟩
  have:=q A' U I X r dn D
  rw [H] at this
  exact this
theorem Wo.up(d:Wo A c x w y L k)(h:k<k')(h':k'<50):Wo A c x w y L k':=by
 have g:=d.go
 exact ⟨d.fr,d.st,d.wk,d.lw,⟨g.lv,g.po,g.kn,g.ks,g.kl,g.lp,g.ld,g.la,g.le,g.lk,g.rb,g.ws,g.rs,g.es,g.wn,g.cs,by have:=g.ec;lia⟩,h',d.c3⟩
theorem qA(d:Wo A c x w y [] k)(hp:Lv x y [] p)(b:al y.bd p=none)(h:(stO y p).length<12)(i:k<49)
  (q:∀A' c' x' w' y',Wo A' c' x' w' y' [] (k+1)->w'.g=w.g->y'.lv=y.lv->Q (.bl true) A'):fnSp tb (n+10) 108 [.ref (10,[w.g]),.ref (1,[]),nmA p,.int cell,.ref (32,[]),.ref (33,[]),.int x.cs.length] A Q:=by
 cases hak:al y.ak p with
 | none=>exact vS d hp b hak h i q
 | some a=>exact sR (n:=n+4) d hp b (by rw [hak];rfl) λA' c' e=>q A' c' x w y (e.up (by lia) (by lia)) rfl rfl
theorem zT(d:Wo A c x w y [] k)(hp:Lv x y [] p)(z:k<49)
  (q:∀A' c' x' w' y',Wo A' c' x' w' y' [] (k+1)->w'.g=w.g->y'.lv=y.lv->Q (.bl true) A'):fnSp tb (n+11) 114 [.ref (10,[w.g]),.ref (1,[]),nmA p,.int cell,.ref (32,[]),.ref (33,[]),.ref (34,[]),.ref (35,[]),.ref (30,[])] A Q:=by
 have D:=d.go.po p hp
 have a:fnSp tb (n+10) 110 [.ref (10,[w.g]),.ref (1,[]),nmA p,.ref (32,[]),.ref (33,[]),.ref (34,[])] A Q:=jI (n:=n+2) d hp λA' c' x' w' y' h o r=>q A' c' x' w' y' (h.up (by lia) (by lia)) o r
 have b:fnSp tb (n+10) 111 [.ref (10,[w.g]),.ref (1,[]),nmA p,.ref (32,[]),.ref (33,[]),.ref (34,[]),.ref (35,[]),.ref (30,[])] A Q:=kX (n:=n) (k':=k+1) d hp.1 hp.2.1 (λ_=>ņ) (by have:=d.go.ec;lia) (by lia) (by lia) λA' c' x' w' y' h E=>q A' c' x' w' y' h E.g E.lv
 obtain ⟨l,m,C⟩:=d.lw.stAt (d.go.ks p hp.1)
 have j:bi (Rb (n+10)) [(.ite (.bool false (.op .eq (.v 9) (Zi 9)) (.bool true (.op .gt (.v 9) (Zi 10)) (.op .in_ (.v 2) (.v 6)))) [(.ret (.call 111 [(.v 0),(.v 1),(.v 2),(.v 4),(.v 5),(.v 6),(.v 7),(.v 8)]))] []),(.ret (.call 110 [(.v 0),(.v 1),(.v 2),(.v 4),(.v 5),(.v 6)]))] (cC Q) [some (.ref (10,[w.g])),some (.ref (1,[])),some (nmA p),some (.int cell),some (.ref (32,[])),some (.ref (33,[])),some (.ref (34,[])),some (.ref (35,[])),some (.ref (30,[])),some (.int (cell%16))] A:=by
  refine if2 (c:=false ^^ decide (cell%16=9)) (λ_=>b) (λ_=>?_)
  refine if2 (c:=decide ((10:Int)<cell%16)) (λ_=>?_) (λ_=>a)
  exact okI (bM d.lw.bd p) (if2 (λ_=>b) (λ_=>a))
 have i:bi (Rb (n+10)) [(.ite (.bool true (.op .eq (.v 9) (Zi 8)) (.op .notin (.v 2) (.v 6))) [(.ret (.call 109 [(.v 0),(.v 1),(.v 2),(.op .fdiv (.v 3) (Zi 48)),(.v 4),(.v 7)]))] []),(.ite (.bool false (.op .eq (.v 9) (Zi 9)) (.bool true (.op .gt (.v 9) (Zi 10)) (.op .in_ (.v 2) (.v 6)))) [(.ret (.call 111 [(.v 0),(.v 1),(.v 2),(.v 4),(.v 5),(.v 6),(.v 7),(.v 8)]))] []),(.ret (.call 110 [(.v 0),(.v 1),(.v 2),(.v 4),(.v 5),(.v 6)]))] (cC Q) [some (.ref (10,[w.g])),some (.ref (1,[])),some (nmA p),some (.int cell),some (.ref (32,[])),some (.ref (33,[])),some (.ref (34,[])),some (.ref (35,[])),some (.ref (30,[])),some (.int (cell%16))] A:=by
  refine if2 (c:=false ^^ decide (cell%16=8)) (λ_=>?_) (λ_=>j)
  refine okI (bM d.lw.bd p) ?_
  cases hbd:al y.bd p with
  | some u=>exact ifF rfl j
  | none=>exact ifT rfl (xt (n:=n+4) d hp hbd λA' c' h=>q A' c' x w y (h.up (by lia) (by lia)) rfl rfl)
 refine fz (okI rfl (if2 (c:=decide (cell%16<8)) (λ_=>?_) (λ_=>i)))
 refine okI (bM d.lw.bd p) ?_
 cases hbd:al y.bd p with
 | some u=>exact ifF rfl i
 | none =>
  refine ifT rfl (okI l (okI (de m) ?_))
  rw [ν]
  refine if2 (c:=decide (((stO y p).length:Int)<12)) (λe=>?_) (λ_=>i)
  have e:=Ξ e
  refine okI (de d.lw.pl) ?_
  rw [ν]
  exact qA d hp hbd (by lia) z q
theorem sC(d:Wo A c x w y [] k)(hp:Lv x y [] p)(l:k<49)
  (q:∀A' c' x' w' y',Wo A' c' x' w' y' [] (k+1)->w'.g=w.g->y'.lv=y.lv->Q (.bl true) A'):fnSp tb (n+11) 115 [.ref (10,[w.g]),.ref (1,[]),nmA p,.ref (32,[]),.ref (33,[]),.ref (34,[]),.int x.cs.length] A Q:=by
 have o:=d.go.po p hp
 obtain ⟨a,b,m⟩:=d.lw.stAt (d.go.ks p hp.1)
 refine fz (okI rfl (okI (bM d.lw.bd p) ?_))
 cases hbd:al y.bd p with
 | some u=>exact ifT rfl (q A c x w y (d.up (by lia) (by lia)) rfl rfl)
 | none =>
  refine ifF rfl (okI a (okI (dh b) ?_))
  cases e:(stO y p).isEmpty with
  | true =>
   refine ifT rfl ⟨.inl ⟨ζ,ζ⟩,?_⟩
   exact qA d hp hbd (by rw [List.isEmpty_iff.mp e];show (0:Nat)<12;lia) l q
  | false=>exact ifF rfl (jI (n:=n+2) d hp λA' c' x' w' y' h i j=>q A' c' x' w' y' (h.up (by lia) (by lia)) i j)
end
section
variable {n k k':Nat}{A A' A'':AH}{Q:AQ}{c c':Int}{x x':Sx}{p q:P}{w w':Wk}{y y':Lw}{rows:Ú AV}{sent:Ú Lt}{lt:AV}{cs:ò}{en:Ú (P×Str)}{s:Stp}{L:Ú P}
structure In0(A:AH)(c:Int)(x:Sx)(w:Wk)(y:Lw):Prop where
 fr:Fr A c
 st:StA A x
 wk:WkA A w
 lw:LwA A y x.cs x.en
 c3:3<=c
 xw:x.wk=[]/\x.rd=[]/\x.en=[]
 ws:w.ps=[]/\w.dr=[]/\w.an=[]/\w.pe=[]
 ys:y.st=[]/\y.ak=[]/\y.bd=[]
 lv:∃a b c:Int,y.lv=[(0,a),(1,b),(2,c)]
 cs:0<x.cs.length/\x.cs.length<=8
def zL(i:In0 A c x w y)(K:y'.lv=y.lv)(o:∀q,al y'.st q=if q∈y'.lv then some [] else none)(v:y'.ak=[])(L:y'.bd=[]):GO x w y' [] 0:=by
 obtain ⟨N,p,C⟩:=i.xw
 obtain ⟨n,D,r,F⟩:=i.ws
 have l:∀q,stO y' q=[]:=λq=>by
  unfold stO
  rw [o]
  split<;>rfl
 have j:∀{α:Type} {q:P},¬(al ([]:Ú (P×α)) q).isSome=true:=λh=>by cases h
 have d:∀{q:P},¬(sel [] q).isSome=true:=λh=>by cases h
 refine ⟨by rw [K];exact i.lv,λq O=>?_,λq h=>?_,λq h=>by rw [o,Ż h];rfl,λq h _=>?_,λz m=>(by rw [n] at m;cases m),λq h=>(by rw [D] at h;exact absurd h d),λq h=>(by rw [r] at h;exact absurd h d),λq h=>(by rw [F] at h;exact absurd h j),λq h=>(by rw [v] at h;exact absurd h j),λq=>by rw [L,p];rfl,λq h=>(by rw [N] at h;exact absurd h j),λq h=>(by rw [p] at h;exact absurd h j),λq h=>(by rw [C] at h;exact absurd h j),by rw [n];exact ŭ,i.cs,?_⟩
 .have u:al y'.ak q=none:=by rw [v];rfl
  have G:sel w.dr q=none:=by rw [D];rfl
  refine ⟨⟨x.cs,by rw [l,G];exact kz⟩,λt H=>(by rw [l] at H;cases H),by rw [u,F];rfl,λa I=>(by rw [u] at I;cases I),λ_ z m=>(by rw [n] at m;cases m),by rw [l,u];decide,?_,by rw [r];exact ϖ _,λ_=>⟨by rw [p];rfl,λ_=>⟨by rw [r];rfl,G⟩,λh=>absurd (l q) h⟩,λh=>(by rw [L] at h;exact absurd h j)⟩
  rw [n]
  exact ϖ _
 .by_cases e:q∈y'.lv
  .exact ⟨q,e,ϱ,Ŗ _⟩
  .rw [o,Ž e] at h;cases h
 .by_cases e:q∈y'.lv
  .exact e
  .rw [o,Ž e] at h;cases h
 .have:∀q,act x y' q=0:=λq=>by
   unfold act
   rw [l,v]
   refine Ž λz=>?_
   rcases z.2 with z | z
   .exact z rfl
   .cases z
  obtain ⟨a,b,c,e⟩:=i.lv
  unfold jp
  rw [K,e,C]
  simp only [List.map_cons,List.map_nil,List.sum_cons,List.sum_nil,this]
  decide
def Wz(A:AH)(c:Int)(x:Sx)(w:Wk)(y:Lw)(k:Nat):Prop:=Wo A c x w y [] k\/In0 A c x w y
theorem iY(h:Wz A c x w y k)(O:k<50)(q:∀A' y',Wo A' c x w y' [] k->(∀p∈y'.lv,al x.en p=none)->Q .non A'):fnSp tb (n+1) 113 [.ref (31,[]),.ref (32,[]),.ref (35,[])] A Q:=by
 have G:∀{y:Lw},(∃a b c:Int,y.lv=[(0,a),(1,b),(2,c)])->3<=c->y.lv.length=3/\∀p∈y.lv,p.1<c:=λ⟨a,b,d,e⟩ Z=>by
  rw [e]
  refine ⟨ϱ,λp hp=>?_⟩
  simp only [List.mem_cons,List.mem_nil_iff,or_false] at hp
  rcases hp with rfl | rfl | rfl<;>(dsimp only;lia)
 rcases h with d | i
 .obtain ⟨h1,o⟩:=G d.go.lv d.c3
  have X:=d.go.lenS d.lw.ns.1 λq h=>h
  have Y:=d.bds.en
  refine jR d.lw d.fr rfl (by lia) (by lia) (by lia) o λA' y' l f m N u v C D=>?_
  obtain ⟨g,j⟩:=tM d.go u v C D
  exact q A' y' ⟨f,d.st.off (m.cut (by lia) (by lia)),d.wk.off (m.cut (by lia) (by lia)),l,g,d.kk,d.c3⟩ j
 .obtain ⟨h1,o⟩:=G i.lv i.c3
  obtain ⟨S,U,r⟩:=i.xw
  obtain ⟨F,H,I⟩:=i.ys
  refine jR i.lw i.fr rfl (by rw [r];show (0:Nat)<800;lia) (by lia) (by rw [F,h1];show (3:Nat)<800;lia) o λA' y' l f m N u v C D=>?_
  have en:∀p,nxt x p=p:=λp=>by unfold nxt;rw [r];exact if_neg λz=>by cases z
  have K:y'.lv=y.lv:=by rw [u,funext en,List.map_id']
  have g:GO x w y' [] 0:=zL i K (λq=>by rw [v];unfold stO;rw [F];rfl) (by rw [C,H]) (by rw [D,I])
  have d0:Wo A' c x w y' [] 0:=⟨f,i.st.off (m.cut (by lia) (by lia)),i.wk.off (m.cut (by lia) (by lia)),l,g,by lia,i.c3⟩
  have L:Wo A' c x w y' [] k:=by
   rcases Nat.eq_zero_or_pos k with e | e
   .rw [e];exact d0
   .exact d0.up e O
  exact q A' y' L λp _=>by rw [r];rfl
abbrev snF:ñ:=[31098352355,3981119714018,3463312095223,509274079392498,242825061,31096254711,31110822767]
abbrev snR(n:Nat):Ú AV:=(List.range n).map λi=>.ref (i+2,[])
structure SN(A:AH)(L:Ú AO)(B:AH):Prop where
 s:B (1,[])=some (.ins 22 (snF.take L.length) (snR L.length))
 o:∀i o,L[i]?=some o->B (i+2,[])=some o
 e:∀m:Nm,m≠(1,[])->(∀i,i<L.length->m≠(i+2,[]))->B m=A m
theorem SN.step{L:Ú AO}{B:AH}{f:Nat}{o:AO}(s:SN A L B)(h0:∀k:Nat,1<=k->k<=8->A (k,[])=none)(c:Nat.ble (L.length+1) 7=true:=by rfl)(e:(tb.fl 22 f&&decide ((snF.take L.length).length<900))=true:=by rfl)(j:eJ (snF.take L.length) f=snF.take (L.length+1):=by rfl)(l:iw (snF.take L.length) (snR L.length) f (.ref (L.length+2,[]))=snR (L.length+1):=by rfl) :
  B (L.length+2,[])=none/\∃B',jr tb.fl (.ref (1,[])) f (.ref (L.length+2,[])) (ac B (L.length+2,[]) o)=some B'/\SN A (L++[o]) B':=by
 have c:=Nat.le_of_ble_eq_true c
 have h1:∀{i:Nat},i<L.length->L.length+2≠i+2:=λh=>by lia
 refine ⟨(s.e _ (by intro z;cases z) λi a z=>h1 a (by cases z;rfl)).trans (h0 _ (by lia) (by lia)),_,bH ((u0 (by lia)).trans s.s) e j l,by rw [ŷ];exact uS,λi n a=>(u0 (by lia)).trans ?_,λm d b=>(uN d).trans ?_⟩
 .by_cases z:i<L.length
  .rw [Ĥ z] at a
   exact (u0 (by lia)).trans (s.o _ _ a)
  .rw [ť (by lia)] at a
   have:i=L.length:=by
    have:=(ž.mp a).1
    rw [List.length_singleton] at this;lia
   subst this
   rw [ā] at a
   cases a
   exact uS
 .rw [ŷ] at b
  exact (uN (b _ (ī _))).trans (s.e m d λi a=>b i (Nat.lt_succ_of_lt a))
theorem se{K:Nm->AH->Prop}{d:ñ->Ú AV->Prop}(h0:∀k:Nat,1<=k->k<=8->A (k,[])=none)(hz:A (0,[])=some (.tb 117 ⟨384,59,384,94⟩ (nm 103278387406386645208409760902337871093659078042610437123892623319)))(j:cs.length<900)
  (q:∀A',StA A' ⟨cs,[],[],[]⟩->Off 9 100 A A'->(∀m:Nm,(∀k:Nat,1<=k->k<=8->m≠(k,[]))->A' m=A m)->K (1,[]) A'):∃m,A m=none/\fnSp tb (n+1) 91 [.ref m,.fzl (cs.map .int)] (ac A m (.ins 22 [] [])) λv A2=>v=.non/\(K m A2\/∃fs ys,A2 m=some (.ins 22 fs ys)/\(∀m',m'≠m->A2 m'=A m')/\bP ys=true/\d fs ys):=by
 refine ⟨(1,[]),h0 1 (by lia) (by lia),fz (okI rfl ?_)⟩
 have s:SN A [] (ac A (1,[]) (.ins 22 [] [])):=⟨uS,λi o h=>(by cases h),λm h _=>uN h⟩
 generalize ac A (1,[]) (.ins 22 [] [])=B at s ⊢
 obtain ⟨h1,B,a,s⟩:=s.step (f:=31098352355) (o:=.lst (cs.map .int)) h0
 refine .inr ⟨(2,[]),h1,okI a ?_⟩
 obtain ⟨h1,B,a,s⟩:=s.step (f:=3981119714018) (o:=.lst []) h0
 refine .inr ⟨(3,[]),h1,okI a ?_⟩
 obtain ⟨h1,B,a,s⟩:=s.step (f:=3463312095223) (o:=.dT [] []) h0
 refine .inr ⟨(4,[]),h1,okI a ?_⟩
 obtain ⟨h1,B,a,s⟩:=s.step (f:=509274079392498) (o:=.dT [] []) h0
 refine .inr ⟨(5,[]),h1,okI a ?_⟩
 obtain ⟨h1,B,a,s⟩:=s.step (f:=242825061) (o:=.dT [] []) h0
 refine .inr ⟨(6,[]),h1,okI a ?_⟩
 obtain ⟨h1,B,a,s⟩:=s.step (f:=31096254711) (o:=.dT [] []) h0
 refine .inr ⟨(7,[]),h1,okI a ?_⟩
 obtain ⟨h1,B,a,s⟩:=s.step (f:=31110822767) (o:=.dT [] []) h0
 refine .inr ⟨(8,[]),h1,okI a ?_⟩
 have e:∀m:Nm,(∀k:Nat,1<=k->k<=8->m≠(k,[]))->B m=A m:=λm b=>s.e m (b 1 (by lia) (by lia)) λi c=>b _ (by lia) (Nat.add_le_add_right (Ĉ c) 2)
 exact ⟨ϱ,.inl (q B ⟨(e _ λk h1 a z=>by cases z;lia).trans hz,s.s,s.o 0 _ rfl,s.o 2 _ rfl,s.o 3 _ rfl,s.o 4 _ rfl,⟨ŭ,show (0:Nat)<900 by lia⟩,⟨ŭ,show (0:Nat)<900 by lia⟩,⟨ŭ,show (0:Nat)<63 by lia⟩,j⟩ (λk l h1 a=>e _ λk' p r z=>by cases z;lia) e)⟩
end
section
variable {n k k':Nat}{A A' A'':AH}{Q:AQ}{c c':Int}{x x':Sx}{p q:P}{w w':Wk}{y y':Lw}{rows:Ú AV}{sent:Ú Lt}{lt:AV}{cs:ò}{en:Ú (P×Str)}{s:Stp}{L:Ú P}
theorem Gc(zs:ò):∃N:Int,∀(n:Nat) (A:AH) (Q:AQ),Q (.int N) A->fnSp tb (n+1) 103 [.fzl (zs.map .int),.int 0] A Q:=by
 cases zs with
 | nil=>exact ⟨0,λn A Q q=>fz q⟩
 | cons a zs=>exact ⟨a,λn A Q q=>fz (okI rfl (ifT (τ (by rw [ν,Ũ];lia)) q))⟩
noncomputable def tY(N:Int):Nat:=if N%8=0 then 1 else if N%8=1 then 2 else if N%8=2 then 1 else if N%8=3 then 3 else if N%8=4 then 2 else if N%8=5 then 5 else if N%8=6 then 4 else 8
theorem DO(N:Int):ixA [.int 1,.int 2,.int 1,.int 3,.int 2,.int 5,.int 4,.int 8] (N%8)=some (.int (tY N)):=by
 have h1:=ġ N (show (8:Int)≠0 by decide)
 have a:=ň N (show (0:Int)<8 by decide)
 unfold tY
 have:N%8=0\/N%8=1\/N%8=2\/N%8=3\/N%8=4\/N%8=5\/N%8=6\/N%8=7:=by lia
 rcases this with e | e | e | e | e | e | e | e<;>rw [e]<;>rfl
theorem DN(N:Int):0<tY N/\tY N<=8:=by
 unfold tY
 repeat' split
 all_goals lia
def Fr.nil(h:Fr A c)(hk:k≠24):Fr (ac A (k,[]) o) c:=⟨(uN λz=>hk (by cases z;rfl)).trans h.1,λk' i l hi=>(uN λz=>by cases z).trans (h.2 k' i l hi)⟩
theorem zX(zs:ò):∃ws:ò,nv (zs.map AV.int) (some 1) (some 41)=ws.map .int/\ws.length<=40:=by
 refine ⟨(zs.drop (HT.sIx zs.length 0 (some 1))).take (HT.sIx zs.length zs.length (some 41)-HT.sIx zs.length 0 (some 1)),?_,?_⟩
 .unfold nv
  rw [ν,← List.map_drop,← List.map_take]
 .have h1:=HT.gM zs.length 0 1
  have a:=HT.gM zs.length zs.length 41
  rw [ű,show HT.sIx zs.length zs.length (some 41)=min 41 zs.length from a,show HT.sIx zs.length 0 (some 1)=min 1 zs.length from h1]
  lia
theorem zt(h:Wz A c x w y k)(hk:k<=40) :
  bi (Rb (n+11)) [(.ex (.call 113 [(.v 7),(.v 8),(.v 11)])),(.for_ false [13] (.v 7) [(.ite (.not (.call 111 [(.v 6),(.v 5),(.v 13),(.v 8),(.v 9),(.v 10),(.v 11),(.v 2)])) [(.ret (.c (.bl false)))] [])]),(.ret (.bool true (.op .eq (Zm 6 211497704 []) (.lst [])) (.op .eq (Zm 6 456806792589559 []) (.lst []))))]
   (cC λv _=>v=.bl true) [sv,some (.int N),some (.ref (30,[])),some (.int rest),kv,some (.ref (1,[])),some (.ref (10,[w.g])),some (.ref (31,[])),some (.ref (32,[])),some (.ref (33,[])),some (.ref (34,[])),some (.ref (35,[])),cv,pv] A:=by
 refine iY (n:=n+10) h (by lia) λA1 F G D=>?_
 refine okI (am G.lw.lv) ?_
 obtain ⟨la,lb,lc,el⟩:=G.go.lv
 have Q:=Bn G.go
 refine aV (λj σ A'=>∃c' x' w' y' b,Wo A' c' x' w' y' [] (k+j)/\y'.lv=F.lv/\w'.g=w.g/\(∀(i:Nat) p,i<j->F.lv[i]?=some p->al x'.en p≠none)/\(∀(i:Nat) p,j<=i->F.lv[i]?=some p->al x'.en p=none)/\σ=[sv,some (.int N),some (.ref (30,[])),some (.int rest),kv,some (.ref (1,[])),some (.ref (10,[w.g])),some (.ref (31,[])),some (.ref (32,[])),some (.ref (33,[])),some (.ref (34,[])),some (.ref (35,[])),cv,b])
  ⟨c,x,w,F,pv,G,ϱ,ϱ,λi p h=>absurd h (Nat.not_lt_zero _),λi p _ h=>D p (Ÿ h),ϱ⟩ (λj z σ A' K Z U hK=>?_) (fun σ A' U=>?_)
 .obtain ⟨c2,x2,X,Y,b,a,m,u,H,I,rfl⟩:=U
  rw [Ź] at Z
  obtain ⟨p,hp,rfl⟩:=ſ.mp Z
  have hm:p∈Y.lv:=by rw [m];exact Ÿ hp
  have S:=I j p (ι _) hp
  have jl:j<3:=by have:=(ž.mp hp).1;rw [el] at this;exact this
  refine ⟨by rw [← m];exact am a.lw.lv,?_⟩
  rw [← u]
  refine kX (n:=n+1) (k':=k+(j+1)) a hm S (λ_=>ņ) (by have:=a.go.ec;lia) (by lia) (by lia) λA3 c3 x3 w3 y3 d3 E=>?_
  refine ifF rfl (hK _ _ ⟨c3,x3,w3,y3,_,d3,E.lv.trans m,E.g.trans u,λi q C r=>?_,λi q C r=>?_,by rw [u];rfl⟩)
  .intro O
   obtain ⟨h5,h6⟩:=(E.en q).mp O
   rcases Nat.lt_or_eq_of_le (Ĉ C) with h | rfl
   .exact H i q h r h6
   .rw [hp] at r;cases r;exact h5 rfl
  .refine (E.en q).mpr ⟨λe2=>?_,I i q (by lia) r⟩
   obtain ⟨h1,L⟩:=ž.mp r
   obtain ⟨h3,O⟩:=ž.mp hp
   have:=(Ě (h₀:=h1) (h₁:=h3) Q).mp (by rw [L,O,e2])
   lia
 .obtain ⟨c2,x2,X,Y,b,a,m,u,H,I,rfl⟩:=U
  have d:X.ps=[]:=List.eq_nil_iff_forall_not_mem.mpr λz hz=>by
   obtain ⟨h1,L,_⟩:=a.go.lp z hz
   rw [m] at h1
   obtain ⟨i,C,e⟩:=Ŧ.mp h1
   exact H i z.1 (by rw [ν];exact C) (by rw [ξ C,e]) L
  refine ⟨by rw [← m];exact am a.lw.lv,?_⟩
  rw [← u]
  refine okI (af a.wk.o) (ndI rfl (okI rfl (fz (okI rfl (okI (ae a.wk.o rfl) (okI (af a.wk.l.l) (ndI rfl (okI rfl (qM (n:=n+5) a.wk.l (by rw [d];show (0:Nat)<1000;lia) ?_)))))))))
  rw [d]
  refine okI (af a.wk.o) (ndI rfl (okI rfl (hO (n:=n+5) a.wk rfl ?_)))
  rw [d]
  exact rfl
end
section
variable {n k k':Nat}{A A' A'':AH}{Q:AQ}{c c':Int}{x x':Sx}{p q:P}{w w':Wk}{y y':Lw}{cs:ò}
theorem zk{N rest:Int}{kv cv pv:Option AV}{zs:ò}(h:Wz A c x w y 0) :
  bi (Rb (n+12)) [(.for_ false [12] (.sl (.v 0) [(Zi 1)] [(Zi 41)]) [(.ex (.call 113 [(.v 7),(.v 8),(.v 11)])),(.set 13 (.op .ix (.v 7) (.op .mod (.op .fdiv (.v 12) (Zi 16)) (Zi 3)))),(.ite (.op .gt (.op .mod (.v 12) (Zi 16)) (Zi 13)) [(.set 6 (.call 112 [(.v 5),(.v 7),(.v 8),(.v 9),(.v 10),(.v 11),(.v 2)])),(.ite (.op .is_ (.v 6) (.c .non)) [(.ret (.c (.bl false)))] [])] [(.ite (.bool true (.op .eq (.op .mod (.op .mod (.op .fdiv (.v 1) (Zi 8)) (Zi 19)) (Zi 2)) (Zi 1)) (.op .eq (.v 13) (Zx 7 0))) [(.ite (.not (.call 115 [(.v 6),(.v 5),(.v 13),(.v 8),(.v 9),(.v 10),(.blt .len (.v 2))])) [(.ret (.c (.bl false)))] [])] [(.ite (.not (.call 114 [(.v 6),(.v 5),(.v 13),(.v 12),(.v 8),(.v 9),(.v 10),(.v 11),(.v 2)])) [(.ret (.c (.bl false)))] [])])])]),(.ex (.call 113 [(.v 7),(.v 8),(.v 11)])),(.for_ false [13] (.v 7) [(.ite (.not (.call 111 [(.v 6),(.v 5),(.v 13),(.v 8),(.v 9),(.v 10),(.v 11),(.v 2)])) [(.ret (.c (.bl false)))] [])]),(.ret (.bool true (.op .eq (Zm 6 211497704 []) (.lst [])) (.op .eq (Zm 6 456806792589559 []) (.lst []))))]
   (cC λv _=>v=.bl true) [some (.fzl (zs.map .int)),some (.int N),some (.ref (30,[])),some (.int rest),kv,some (.ref (1,[])),some (.ref (10,[w.g])),some (.ref (31,[])),some (.ref (32,[])),some (.ref (33,[])),some (.ref (34,[])),some (.ref (35,[])),cv,pv] A:=by
 obtain ⟨ws,ew,O⟩:=zX zs
 conv=>whnf
 rw [ew]
 refine aV (λj σ A'=>∃c' x' w' y' cv' pv',Wz A' c' x' w' y' j/\σ=[some (.fzl (zs.map .int)),some (.int N),some (.ref (30,[])),some (.int rest),kv,some (.ref (1,[])),some (.ref (10,[w'.g])),some (.ref (31,[])),some (.ref (32,[])),some (.ref (33,[])),some (.ref (34,[])),some (.ref (35,[])),cv',pv'])
  ⟨c,x,w,y,cv,pv,h,ϱ⟩ (λj z σ A' K Y I L=>?_) (fun σ A' I=>?_)
 .obtain ⟨c1,S,r,y1,F,G,h1,rfl⟩:=I
  rw [Ź] at Y
  obtain ⟨cell,hc,rfl⟩:=ſ.mp Y
  have jl:j<40:=Ŷ (ž.mp hc).1 O
  refine ⟨trivial,iY (n:=n+11) h1 (by lia) λA2 u d e=>?_⟩
  have h2:=ġ (cell/16) (show (3:Int)≠0 by decide)
  have h3:=ň (cell/16) (show (0:Int)<3 by decide)
  obtain ⟨la,lb,lc,el⟩:=d.go.lv
  have l3:u.lv.length=3:=by rw [el];rfl
  obtain ⟨p,hp⟩:∃p,u.lv[(cell/16%3).toNat]?=some p:=⟨_,ξ (by lia)⟩
  obtain ⟨p0,H⟩:∃p,u.lv[0]?=some p:=⟨_,ξ (by lia)⟩
  have U:=Ÿ hp
  have X:Lv S u [] p:=⟨U,e p U,ņ⟩
  refine okI (kZ d.lw.lv h2 hp) ?_
  have a:fnSp tb (n+12) 114 [.ref (10,[r.g]),.ref (1,[]),nmA p,.int cell,.ref (32,[]),.ref (33,[]),.ref (34,[]),.ref (35,[]),.ref (30,[])] A2 λv C=>EE (λ_ A Q=>match v with | .bl b=>Q b A | _=>False) [] C λb Z=>ifB b (bi (Rb (n+12)) [(.ret (.c (.bl false)))] (AEnds.lp (cC λv _=>v=.bl true) K) [some (.fzl (zs.map .int)),some (.int N),some (.ref (30,[])),some (.int rest),kv,some (.ref (1,[])),some (.ref (10,[r.g])),some (.ref (31,[])),some (.ref (32,[])),some (.ref (33,[])),some (.ref (34,[])),some (.ref (35,[])),some (.int cell),some (nmA p)] Z) (K [some (.fzl (zs.map .int)),some (.int N),some (.ref (30,[])),some (.int rest),kv,some (.ref (1,[])),some (.ref (10,[r.g])),some (.ref (31,[])),some (.ref (32,[])),some (.ref (33,[])),some (.ref (34,[])),some (.ref (35,[])),some (.int cell),some (nmA p)] Z) :=
   zT (n:=n+1) d X (by lia) λC i l m o q D e2=>L _ _ ⟨i,l,m,o,_,_,.inl q,by rw [D]⟩
  refine if2 (c:=decide ((13:Int)<cell%16)) (λ_=>?_) (λ_=>?_)
  .refine EM (n:=n+1) d e λC i l m o q D=>?_
   exact L _ _ ⟨i,l,m,o,_,_,.inl (q.up (by lia) (by lia)),ϱ⟩
  .refine if2 (c:=false ^^ decide (N/8%19%2=1)) (λ_=>?_) (λ_=>a)
   refine okI (bG d.lw.lv (ba (j:=0) H)) (if2 (c:=false ^^ eqQ p p0) (λ_=>?_) (λ_=>a))
   refine okI (de d.lw.pl) ?_
   rw [ν]
   exact sC (n:=n+1) d X (by lia) λC i l m o q D e2=>L _ _ ⟨i,l,m,o,_,_,.inl q,by rw [D];rfl⟩
 .obtain ⟨c1,S,r,y1,F,G,h1,rfl⟩:=I
  rw [ν] at h1
  exact ⟨trivial,zt (n:=n+1) h1 O⟩
theorem Di{zs:ò}(hz:A (0,[])=some (.tb 117 ⟨384,59,384,94⟩ (nm 103278387406386645208409760902337871093659078042610437123892623319)))(h0:∀m:Nm,m≠(0,[])->A m=none):fnSp tb (n+13) 116 [.fzl (zs.map .int)] A λv _=>v=.bl true:=by
 obtain ⟨N,hN⟩:=Gc zs
 have a0:∀{k:Nat} {l:ò},(k≠0)->A (k,l)=none:=λh=>h0 _ λz=>h (by cases z;rfl)
 refine fz (okI rfl (hN (n+11) A _ ?_))
 refine .inr ⟨(30,[]),a0 (by lia),?_⟩
 refine okI (DO N) ?_
 obtain ⟨n1,n2⟩:=DN N
 refine ⟨⟨by lia,by lia⟩,?_⟩
 rw [ń,cZ]
 refine aV (λj σ A'=>∃(cs:ò) (rest:Int) (kv:Option AV),cs.length=j/\A' (30,[])=some (.lst (cs.map .int))/\(∀m:Nm,m≠(30,[])->A' m=A m)/\σ=[some (.fzl (zs.map .int)),some (.int N),some (.ref (30,[])),some (.int rest),kv,none,none,none,none,none,none,none,none,none])
  ⟨[],N/152,none,ϱ,uS,λm h=>uN h,ϱ⟩ (λj z σ A' K hx X hK=>?_) (fun σ A' X=>?_)
 .obtain ⟨cs,rest,kv,rfl,x,C,rfl⟩:=X
  rw [Ź] at hx
  obtain ⟨j',hj,rfl⟩:=ſ.mp hx
  have jl:cs.length<tY N:=by have:=(List.getElem?_eq_some_iff.mp hj).1;simpa using this
  refine ⟨trivial,okI (fI x) (okI rfl (okI rfl ?_))⟩
  refine ⟨.inl ⟨ζ,ζ⟩,?_⟩
  refine jG (okI ((dq (y:=.int _) x (by rw [ν];exact rZ (by lia))).trans (congrArg (λz=>some (ac A' (30,[]) (.lst z))) (ů (f:=AV.int) (l₁:=cs) (l₂:=[_])).symm)) ?_)
  have s4:=uS (A:=A') (m:=(30,[])) (o:=.lst ((cs++[mN (rest%(6*10 ^ 40))]).map .int))
  have s5:∀m:Nm,m≠(30,[])->ac A' (30,[]) (.lst ((cs++[mN (rest%(6*10 ^ 40))]).map .int)) m=A m:=λm h=>(uN h).trans (C m h)
  refine ⟨.inl ⟨ζ,ζ⟩,?_⟩
  exact hK _ _ ⟨_,_,_,by rw [ŷ];rfl,s4,s5,ϱ⟩
 .obtain ⟨cs,rest,kv,hl,x,C,rfl⟩:=X
  rw [ν,Ğ] at hl
  refine ⟨trivial,okI (am x) (.inl ?_)⟩
  have a1:∀{k:Nat} {l:ò},k≠0->k≠30->A' (k,l)=none:=λh1 d=>(C _ λz=>d (by cases z;rfl)).trans (a0 h1)
  refine se (n:=n+11) (cs:=cs) (λk h1 d=>a1 (by lia) (by lia)) ((C _ λz=>by cases z).trans hz) (by lia) λA2 Y o2 e2=>?_
  have a2:∀{k:Nat} {l:ò},k≠0->k≠30->(9<=k\/l≠[])->A2 (k,l)=none:=λh1 d O=>(e2 _ λk' k1 k2 z=>by cases z;exact O.elim (λh=>by lia) λh=>h rfl).trans (a1 h1 d)
  have f2:Fr A2 3:=⟨a2 (by lia) (by lia) (.inl (by lia)),λk i l hi=>(e2 _ λk' k1 k2 z=>by cases z).trans ((C _ λz=>by cases z).trans (h0 _ λz=>by cases z))⟩
  have s6:A2 (30,[])=some (.lst (cs.map .int)):=(o2 _ _ (by lia) (by lia)).trans x
  refine qJ (n:=n+4) Y f2 (λi r h=>by cases h) (by show (0:Nat)<800;lia) λe c3 w3 g1 g2 g3 g4 g5 g6 g7 g8 g9 cr Q=>?_
  have u:∀{k:Nat} {l:ò},31<=k->k<=36->e (k,l)=none:=λh1 d=>(g5 _ _ (by lia) (by lia)).trans (a2 (by lia) (by lia) (.inl (by lia)))
  have s7:e (30,[])=some (.lst (cs.map .int)):=(g5 _ _ (by lia) (by lia)).trans s6
  refine ⟨⟨ζ,ζ⟩,ndI ζ ?_⟩
  refine aD (f:=λi:Nat=>AV.int (0+(i:Nat))) (λ_=>true) (λi:Nat=>nmA (0+(i:Nat),N/8%19+(0+(i:Nat))%2)) trivial (List.range 3) [] (λi hi K ys h1 _=>h1 rfl) ?_
  rw [ŋ,Ť.mpr λ_ _=>rfl]
  have el:((List.range 3).map λi:Nat=>nmA (0+(i:Nat),N/8%19+(0+(i:Nat))%2))=((List.range 3).map λi:Nat=>((0+(i:Nat),N/8%19+(0+(i:Nat))%2):P)).map nmA:=by rw [Ō];rfl
  rw [el]
  have D:∃a b c:Int,((List.range 3).map λi:Nat=>((0+(i:Nat),N/8%19+(0+(i:Nat))%2):P))=[(0,a),(1,b),(2,c)]:=⟨_,_,_,ϱ⟩
  generalize ((List.range 3).map λi:Nat=>((0+(i:Nat),N/8%19+(0+(i:Nat))%2):P))=lv at D ⊢
  refine .inr ⟨(31,[]),u (by lia) (by lia),?_⟩
  have F:∀m:Nm,m≠(31,[])->ac e (31,[]) (.lst (lv.map nmA)) m=e m:=λm h=>uN h
  have b2:ac e (31,[]) (.lst (lv.map nmA)) (31,[])=some (.lst (lv.map nmA)):=uS
  have f3:=g2.nil (k:=31) (o:=.lst (lv.map nmA)) (by lia)
  generalize ac e (31,[]) (.lst (lv.map nmA))=B1 at F b2 f3 ⊢
  refine .inr ⟨(32,[]),(F _ λz=>by cases z).trans (u (by lia) (by lia)),?_⟩
  have G:∀m:Nm,m≠(32,[])->ac B1 (32,[]) (.dT [] []) m=B1 m:=λm h=>uN h
  have d2:ac B1 (32,[]) (.dT [] []) (32,[])=some (.dT [] []):=uS
  have f4:=f3.nil (k:=32) (o:=.dT [] []) (by lia)
  generalize ac B1 (32,[]) (.dT [] [])=B2 at G d2 f4 ⊢
  refine .inr ⟨(33,[]),(G _ λz=>by cases z).trans ((F _ λz=>by cases z).trans (u (by lia) (by lia))),?_⟩
  have H:∀m:Nm,m≠(33,[])->ac B2 (33,[]) (.dT [] []) m=B2 m:=λm h=>uN h
  have i2:ac B2 (33,[]) (.dT [] []) (33,[])=some (.dT [] []):=uS
  have f5:=f4.nil (k:=33) (o:=.dT [] []) (by lia)
  generalize ac B2 (33,[]) (.dT [] [])=B3 at H i2 f5 ⊢
  refine .inr ⟨(34,[]),(H _ λz=>by cases z).trans ((G _ λz=>by cases z).trans ((F _ λz=>by cases z).trans (u (by lia) (by lia)))),?_⟩
  have I:∀m:Nm,m≠(34,[])->ac B3 (34,[]) (.dT [] []) m=B3 m:=λm h=>uN h
  have j2:ac B3 (34,[]) (.dT [] []) (34,[])=some (.dT [] []):=uS
  have f6:=f5.nil (k:=34) (o:=.dT [] []) (by lia)
  generalize ac B3 (34,[]) (.dT [] [])=B4 at I j2 f6 ⊢
  have p:∀m:Nm,m≠(31,[])->m≠(32,[])->m≠(33,[])->m≠(34,[])->B4 m=e m:=λm h1 d O Z=>(I m Z).trans ((H m O).trans ((G m d).trans (F m h1)))
  refine .inr ⟨(35,[]),(p _ (by intro z;cases z) (by intro z;cases z) (by intro z;cases z) (by intro z;cases z)).trans (u (by lia) (by lia)),?_⟩
  have w:∀m:Nm,m≠(35,[])->ac B4 (35,[]) (.lst []) m=B4 m:=λm h=>uN h
  have l2:ac B4 (35,[]) (.lst []) (35,[])=some (.lst []):=uS
  have f7:=f6.nil (k:=35) (o:=.lst []) (by lia)
  generalize ac B4 (35,[]) (.lst [])=B5 at w l2 f7 ⊢
  have L:∀m:Nm,m≠(31,[])->m≠(32,[])->m≠(33,[])->m≠(34,[])->m≠(35,[])->B5 m=e m:=λm h1 d O Z h5=>(w m h5).trans (p m h1 d O Z)
  have off:∀{a b:Nat},b<31\/35<a->Off a b e B5:=λz k l h1 d=>L _ (λz=>by cases z;lia) (λz=>by cases z;lia) (λz=>by cases z;lia) (λz=>by cases z;lia) (λz=>by cases z;lia)
  have bn:bnd ⟨cs,[],[],[]⟩=[]:=rfl
  rw [bn] at g9 Q
  have S:w3.dr=[]:=List.length_eq_zero_iff.mp (Nat.le_zero.mp Q)
  have U:In0 B5 c3 ⟨cs,[],[],[]⟩ w3 ⟨lv,[],[],[]⟩:=by
   refine ⟨f7,g3.off (off (by lia)),g4.off (off (by lia)),⟨?_,?_,?_,?_,?_,l2,λt ht=>(nomatch ht),λq _=>(off (a:=36) (b:=36) (by lia) _ _ (by lia) (by lia)).trans (u (by lia) (by lia)),⟨ŭ,show (0:Nat)<900 by lia⟩,⟨ŭ,show (0:Nat)<900 by lia⟩,⟨ŭ,show (0:Nat)<900 by lia⟩⟩,g1,⟨ϱ,ϱ,ϱ⟩,⟨g9,S,g7,g8⟩,⟨ϱ,ϱ,ϱ⟩,D,by show 0<cs.length/\cs.length<=8;lia⟩
   .exact (off (a:=30) (b:=30) (by lia) _ _ (by lia) (by lia)).trans s7
   .exact (w _ (by intro z;cases z)).trans ((I _ (by intro z;cases z)).trans ((H _ (by intro z;cases z)).trans ((G _ (by intro z;cases z)).trans b2)))
   .exact (w _ (by intro z;cases z)).trans ((I _ (by intro z;cases z)).trans ((H _ (by intro z;cases z)).trans d2))
   .exact (w _ (by intro z;cases z)).trans ((I _ (by intro z;cases z)).trans i2)
   .exact (w _ (by intro z;cases z)).trans j2
  have:=zk (n:=n) (N:=N) (rest:=rest) (kv:=kv) (cv:=none) (pv:=none) (zs:=zs) (.inr U)
  rw [g6] at this
  exact this
end
end M
namespace L2
open PySem PySem.Spec PyProof.Rows PySem.W
def tq{P:ä}{w:â}{K:Þ}{mg mb:û}{CX:CXT}{k:Nat}{fa a cc i:ã}{sp:Ý->Sp}{c:å}{vs:õ}{ns:ò}
  (Z:K.In c.heap)(ar:c.heap.Ns mainGlobals mg)(j:c.heap.Ns builtinsNs mb)(as:∀x:Str,x≠"__name__"->mb x=bootBuiltins x)(a0:c.heap.NoLimit)(hg:c.gens=#[])
  (O:c.heap.get? a=some {cls:=.type "list",data:=.seq vs.toArray})(hi:IntsAre vs ns)(hl:ns.length<=sizeLine)(hr:Room k callerA)
  (hC:codeHdIn K cc i=true)(L:c.heap.get? i=some (tabObj #[]))(hK:noTabs K=true)(hB:BB mg c.heap)
  (F:∀l:Ý,K.In l->BB mg l->∃fd ps,dW P w K mg l CX k fa fd ps (sp l)/\Binds K fd ps [])
  (aw:∀(l:Ý) (H:Hp),M.FzL K H a (ns.map V.int)->H i=some (.tbl #[])->sp l [.ref a] H (λv _=>v=.bl true) λ_ _ _=>False)
  (ax:∀H e s',CX [] H c (λ_ _ _=>False) e s'->False) :
  codeAny (model P w) callerA (.call (.ref fa) ⟨[.ref a],[]⟩) (λr s'=>r=.ok (.ret (.bool true))/\OldK c.heap s'.heap/\s'.os=c.os/\AllBare s'.gens) c:=by
 have rv:=jD hi
 have S:=hi.length
 have C:a≠i:=λz=>by
  rw [z,L] at O
  cases O
 have kP:K.lookup i=none:=by
  cases q:K.lookup i with
  | none=>rfl
  | some o =>
   have h2:=ŗ.mp hK (i,o) (mem_of_lookupK q)
   have e:=Z _ _ q
   rw [L] at e
   cases e
   exact absurd (show false=true from h2) Ų
 have U:c.heap.TableAt cc i #[]:=(codeHd_of_K Z hC).tab L
 have I:∀H:Hp,M.FzL K H a (ns.map V.int)->H i=some (.tbl #[])->HOk P w H c.heap->(∀b,H b≠none->b=a\/b=i)->(H a≠none->K.lookup a=none)->(∀u,H a=some u->∃o xs,u=.frz o (.lst xs)) ->
   codeAny (model P w) callerA (.call (.ref fa) ⟨[.ref a],[]⟩) (λr s'=>r=.ok (.ret (.bool true))/\OldK c.heap s'.heap/\s'.os=c.os/\AllBare s'.gens) c:=by
  intro H hS hP Y hA ag ak
  have cF:∀{b:ã} {o:Obj},c.heap.get? b=some o->H b=none->(iT c.heap H).get? b=some o:=λe n=>wb e n
  have a8:∀{b:ã} {o:Obj},c.heap.get? b=some o->(o.cls≠.type "list")->o.cls≠.none->H b=none:=λ{b o} e d1 d2=>by
   cases q:H b with
   | none=>rfl
   | some u =>
    rcases hA b (by rw [q];simp) with e' | e'
    .subst e'
     rw [O] at e
     cases e
     exact absurd rfl d1
    .subst e'
     rw [L] at e
     cases e
     exact absurd rfl d2
  have aa:∀{b:ã} {o:Obj} {es:Array DictEntry} {ep:Nat},c.heap.get? b=some o->o.data=.dict es ep->H b=none:=λ{b o es ep} e d=>by
   cases q:H b with
   | none=>rfl
   | some u =>
    rcases hA b (by rw [q];simp) with e' | e'
    .subst e'
     rw [O] at e
     cases e
     cases (show Data.seq vs.toArray _=Data.dict es ep from d)
    .subst e'
     rw [L] at e
     cases e
     cases (show Data.fields #[]=Data.dict es ep from d)
  have N:∀{b:ã} {m:û},c.heap.Ns b m->(iT c.heap H).Ns b m:=λ{b m} ⟨o,es,ep,e,d,r⟩=>⟨o,es,ep,cF e (aa e d),d,r⟩
  have X:K.In (iT c.heap H):=λb o e=>cF (Z b o e) (by
   cases q:H b with
   | none=>rfl
   | some u =>
    rcases hA b (by rw [q];simp) with e' | e'
    .subst e'
     rw [ag (by rw [q];simp)] at e
     cases e
    .subst e'
     rw [kP] at e
     cases e)
  have hM:Mod K mg (iT c.heap H):=⟨X,N ar,⟨mb,N j,as⟩,let ⟨mc,h1,h2⟩:=a0;⟨mc,N h1,h2⟩⟩
  have ab:BB mg (iT c.heap H):=by
   obtain ⟨bm,ob,b1,b2,b3,b4,b5,b6⟩:=hB
   exact ⟨bm,ob,b1,b2,cF b3 (a8 b3 (by rw [b4];decide) (by rw [b4];nofun)),b4,b5,b6⟩
  have e0:Env0 P w K mg (iT c.heap H) callerA [] c H:=⟨ϱ,hM,λb o e=>ze e,Nat.le_of_eq (tJ _ _),trivial,λb j=>absurd (show b∈([]:ô) from j) (by simp),Y,.of_eq hg⟩
  obtain ⟨fd,ps,F1,F2⟩:=F _ X ab
  have hs:=aw (iT c.heap H) H hS hP
  refine Ą (F1.run callerA [] c H ⟨[.ref a],[]⟩ [.ref a] [.ref a] _ _ hr e0 (F2 c [.ref a] Z (F1.len _ _ _ _ hs)) (.cons rfl .nil) hs) λr s' h=>?_
  cases r with
  | error e=>exact (ax H e s' h).elim
  | ok fl =>
   cases fl with
   | next=>exact False.elim h
   | brk=>exact False.elim h
   | cont=>exact False.elim h
   | ret u =>
    obtain ⟨v,H',os,Q,un,D,r',q⟩:=h
    have q':v=.bl true:=q
    subst q'
    obtain rfl:u=Value.bool true:=r'
    have p:∀b o,c.heap.get? b=some o->b≠i->s'.heap.get? b=some o:=λb o e nP=>by
     cases q:H b with
     | none=>exact un.keep b o e q (by intro z;exact absurd (show b∈([]:ô) from z) (by simp)) (by simp)
     | some u =>
      rcases hA b (by rw [q];simp) with e' | e'
      .subst e'
       obtain ⟨ob,xs,rfl⟩:=ak u q
       have z2:=un.frzs b ob _ q
       obtain ⟨e1,_⟩:=Y b _ q
       obtain ⟨e2,_⟩:=D b _ z2
       rw [e] at e1
       cases e1
       exact e2
      .exact absurd e' nP
    obtain ⟨G,eP⟩:=un.tbls i #[] hP
    have tP:s'.heap.get? i=some {cls:=.none,data:=.fields (#[]++G)}:=D i _ eP
    refine ⟨ϱ,⟨λb o e=>?_,λb o e=>?_⟩,os,Q⟩
    .by_cases z:b=i
     .subst z
      rw [L] at e
      cases e
      exact .inr (.inl ⟨U.isCodeTable,ϱ,#[],G,ϱ,tP⟩)
     .exact .inl (p b o e z)
    .by_cases z:b=i
     .subst z
      exact ⟨_,tP⟩
     .exact ⟨o,p b o e z⟩
 cases hk:K.lookup a with
 | some o =>
  have e:=Z a o hk
  rw [O] at e
  cases e
  refine I (λb=>if b=i then some (.tbl #[]) else none) (.inr ⟨_,vs.toArray,_,hk,ϱ,ϱ,ϱ,by rw [List.size_toArray,S];exact hl,by simpa using rv⟩) (if_pos rfl) (λb u z=>?_) (λb z=>?_) (λz=>absurd (if_neg C) z) λu z=>?_
  .by_cases j:b=i
   .have y:=(Ż j).symm.trans z
    cases y
    subst j
    exact L
   .have y:=(Ž j).symm.trans z
    cases y
  .by_cases j:b=i
   .exact .inr j
   .exact absurd (Ž j) z
  .have y:=(Ž C).symm.trans z
   cases y
 | none =>
  refine I (λb=>if b=i then some (.tbl #[]) else if b=a then some (.frz {cls:=.type "list",data:=.seq vs.toArray} (.lst (ns.map V.int))) else none) (.inl (⟨{cls:=.type "list",data:=.seq vs.toArray},(Ž C).trans (Ż rfl)⟩)) (Ż rfl) (λb u z=>?_) (λb z=>?_) (λ_=>hk) λu z=>?_
  .by_cases j:b=i
   .have y:=(Ż j).symm.trans z
    cases y
    subst j
    exact L
   .have z1:=(Ž j).symm.trans z
    by_cases j:b=a
    .have y:=(Ż j).symm.trans z1
     cases y
     subst j
     exact ⟨O,by rw [ν];exact hl,vs,_,rv,O⟩
    .have y:=(Ž j).symm.trans z1
     cases y
  .by_cases j:b=i
   .exact .inr j
   .by_cases hb':b=a
    .exact .inl hb'
    .exact absurd ((Ž j).trans (Ž hb')) z
  .have z1:=((Ž C).trans (Ż rfl)).symm.trans z
   cases z1
   exact ⟨_,_,ϱ⟩
def ul{l:OpenLaw}{n k:Nat}{q:ä}{loose:ó}{XP:(û)->Ý->Prop}{YP:â->Ý->Prop}{d:DefRec}{K:Params->Þ}{sp:â->ã->Ý->Sp}
  (hn:l.most=some n)(x:n<=sizeLine)(y:d.params.defaults=[])(hr:Room k callerA)(hY:∀(w:â) (h:Ý),YP w h->(K w.params).In h)
  (F:∀(w:â) (mg:û) (r:ã) (h:Ý),YP w h->(K w.params).In h->h.Ns mainGlobals mg->mg d.name=some (.ref r) ->
   ∃(cc i:ã),codeHdIn (K w.params) cc i=true/\h.get? i=some (tabObj #[])/\noTabs (K w.params)=true /\
    ∀c:Ý,(K w.params).In c->BB mg c->∃fd ps,dW l.prog w (K w.params) mg c CX0 k r fd ps (sp w i c)/\Binds (K w.params) fd ps [])
  (C:∀(w:â) (i:ã) (c:Ý) (H:Hp) (a:ã) (ns:ò),ns.length<=n->M.FzL (K w.params) H a (ns.map V.int)->H i=some (.tbl #[])->sp w i c [.ref a] H (λv _=>v=.bl true) λ_ _ _=>False) :
  WalkO q loose XP YP l.row.toRowW d [] (λf vs=>PySem.call f vs):=by
 refine Att.nK hn y λw s₀ s₁ mg mb r o pm cd Q a vs ns G Y ho hd S u p m j U=>?_
 have D:=hY w _ Y
 obtain ⟨cc,i,I,L,N,O⟩:=F w mg r _ Y D G.T.g u
 exact tq D G.T.g G.T.b G.T.builtins G.T.nolimit U p m (Λ j x) hr I L N G.T.bmain O (λc H X Z=>C w i c H a ns j X Z) λH e s' z=>z
end L2
namespace M.Z57
open PySem PySem.Spec PySem.W
open PyProof.Rows hiding St
open L2
theorem gk{T:Tab}{ρ:Rho}{H:Hp}:∀ns:ò,RVs T ρ H (ns.map .int) (ns.map V.int)
 | []=>rfl
 | n::ns=>⟨_,_,rfl,⟨rfl,rfl⟩,gk ns⟩
def BU{l:OpenLaw}{q:ä}{loose:ó}{XP:(û)->Ý->Prop}{YP:â->Ý->Prop}{d:DefRec}(r:l.most=some 63)(y:d.params.defaults=[])(O:d.name="law")
  (S:∀(w:â) (h:Ý),YP w h->(Q.Kf w.params).In h)(U:∀(w:â) (h:Ý),YP w h->h.get? 771=some (tabObj #[])):WalkO q loose XP YP l.row.toRowW d [] (λf vs=>PySem.call f vs):=by
 refine ul (n:=63) (k:=26) (K:=Q.Kf) (sp:=λw p c=>lF {tab w.params c with ta:=λ_=>p} (fnSp tb 13 116)) r ζ y ⟨ϱ,ζ,ζ⟩ S (λw X Z h Y C G j=>?_) λw p c H a ns hl F D=>?_
 .refine ⟨775,771,FN _,U w h Y,Hr _,λc I L=>?_⟩
  have z:=FM w.params
  simp only [List.cons.injEq,and_true] at z
  have e:=mg_of C G z.2.2.2.2
  rw [O,e] at j
  cases j
  exact (Ed (P:=l.prog) (w:=w) (EQ C G c) 13 c L 116 _ rfl rfl).2
 .refine .mk (λm=>if m=(0,[]) then some p else none) [.fzl (ns.map .int)] (λm=>if m=(0,[]) then some (.tb 117 ⟨384,59,384,94⟩ (nm 103278387406386645208409760902337871093659078042610437123892623319)) else none) (λv _=>v=.bl true) ⟨λm n b h1 u=>?_,λn b h1=>?_,λn o h1=>?_,λn h1=>?_⟩ ?_ (Di (n:=0) (Ż rfl) λm i=>Ž i) ?_
  .by_cases i:m=(0,[])
   .by_cases r:n=(0,[])
    .rw [i,r]
    .rw [Ž r] at u;cases u
   .rw [Ž i] at h1;cases h1
  .by_cases i:n=(0,[])
   .rw [Ż i] at h1;cases h1;rw [D];trivial
   .rw [Ž i] at h1;cases h1
  .by_cases i:n=(0,[])
   .rw [Ż i] at h1;cases h1
    exact ⟨p,Ż i,ϱ,.inl D⟩
   .rw [Ž i] at h1;cases h1
  .by_cases i:n=(0,[])
   .rw [Ż i] at h1;cases h1
   .exact Ž i
  .obtain ⟨vs,h1,u⟩:∃vs,vs=ns.map V.int/\True:=⟨_,ϱ,trivial⟩
   exact ⟨.ref a,[],ϱ,⟨ϱ,a,_,ϱ,F,gk ns⟩,ϱ⟩
  .intro ρ' x v A' H' _ _ N _ q
   have q:x=.bl true:=q
   subst q
   exact N
end M.Z57
open PySem PySem.W PyProof.Rows
set_option maxRecDepth 100000 in
set_option maxHeartbeats 0 in
theorem PySem.Challenge.cw_pactroom_k57_whole_one_house_holds : PySem.Challenge.rw_pactroom_k57_whole_one_house.Holds := by
 w_on;o_law
 refine holds_open (q:=Q.qv) (loose:=Q.lo) (Xt:=Q.Xt) (XP:=XL Q.qv Q.lvv) (Yf:=Hook.obs (kmHook Q.Kf Q.Ka Q.ke [771])) (Ya:=Hook.val (kmHook Q.Kf Q.Ka Q.ke [771])) (YP:=Hook.says (kmHook Q.Kf Q.Ka Q.ke [771])) (N:=17802) Q.left (Hook.of (kmHook Q.Kf Q.Ka Q.ke [771])) (Hook.keeps (kmHook Q.Kf Q.Ka Q.ke [771])) (λs e=>xl_of s (Bool.and_eq_true_iff.mp e).1) XL.keeps (by rfl) (by rfl) (by rfl) (λs e=>recFacts_of (Bool.and_eq_true_iff.mp e).2) (by rfl) (by first | assumption | decide +kernel) (by decide +kernel) ⟨rfl,rfl,rfl,rfl,rfl,by decide +kernel⟩ ?hw ?hc
 (case hw=>w_witness2)
 exact M.Z57.BU (l:=PySem.Challenge.rw_pactroom_k57_whole_one_house) rfl rfl rfl (λw h Y=>PySem.W.km_in_of Y) λw h Y=>PySem.W.km_tabs_of Y _ (by k_mem)
