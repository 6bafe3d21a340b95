import PyProof.Rows.All
import Wide.All
import OpenK.AllK
import Wide.FinOn
import Lean
import PyProof.EqAt
import PyProof.EqKinds
import PyProof.TupleCall
import KE.KNestM
import KE.KLam
import KE.KMinKey
import KE.KRevSl
import KE.KRevIter
import KE.KDictList
import KE.KDictOf
import PyProof.DictUpdate
import PyProof.AttrMissHeap
import PyProof.DictRoadsH
import PyProof.MeetsDict
import KE.KSortKey
import KE.KDictSum
import PySem.Challenge.RW_pactroom_k55_who_waited_goes_on
set_option Elab.async false
set_option linter.all false
set_option genSizeOf false
set_option maxHeartbeats 4000000
set_option maxRecDepth 100000
abbrev ν:=@List.length_map
abbrev ϕ:=@List.mem_cons
abbrev ϵ:=@List.mem_singleton
abbrev ϑ:=@List.mem_map
abbrev ϖ:=@Nat.zero_le
abbrev ϰ:=@True.intro
abbrev Ő:=@PySem.F.slot_dict_itemiterator_next
abbrev ş:=@PySem.F.slot_dict_keyiterator_next
abbrev ĸ:=@PySem.wpAny_typeNameOfWhole_itemiter
abbrev Ĵ:=@PySem.wpAny_typeNameOfWhole_keyiter
abbrev İ:=@List.countP_eq_length_filter
abbrev Ŗ:=@List.getD_eq_getElem?_getD
abbrev ń:=@List.getElem?_append_right
abbrev ż:=@List.getElem?_eq_some_iff
abbrev ŀ:=@PySem.F.plain_extend_loop
abbrev Ŀ:=@List.mem_of_find?_eq_some
abbrev Ī:=@List.getElem?_eq_none_iff
abbrev ĩ:=@PySem.wpAny_typeNameOf_itemiter
abbrev Ĩ:=@List.getElem?_zip_eq_some
abbrev ŏ:=@PySem.F.slot_list_append
abbrev Ŏ:=@PySem.F.type_list_append
abbrev ģ:=@List.find?_range_eq_none
abbrev Ģ:=@PySem.wpAny_typeNameOf_keyiter
abbrev š:=@PySem.F.plainAttrs_dict
abbrev Ň:=@PySem.F.plainAttrs_list
abbrev ĳ:=@PyProof.Rows.boot_tuple
abbrev Ĝ:=@PySem.wpAny_getItem_str_slice
abbrev Ě:=@PySem.wpAny_callSpecial?_slot
abbrev ę:=@PySem.F.slot_dict_items
abbrev Ę:=@List.filter_cons_of_neg
abbrev ų:=@Option.map_eq_some_iff
abbrev Ū:=@PySem.Calls.callWith_builtin
abbrev ŧ:=@PySem.Heap.get?_update_other
abbrev Ń:=@PySem.F.plainAttrs_str
abbrev Ų:=@List.length_filter_le
abbrev ő:=@PyProof.Rows.boot_int
abbrev ľ:=@PySem.Heap.get?_update_self
abbrev Ľ:=@Array.getElem?_toList
abbrev ļ:=@PySem.wpAny_notOrdered_dict
abbrev Ĭ:=@Bool.beq_eq_decide_eq
abbrev ī:=@PyProof.Rows.boot_str
abbrev Ď:=@PySem.W.methodCall_KW
abbrev č:=@PySem.F.slot_dict_get
abbrev Č:=@List.perm_append_comm
abbrev ċ:=@List.Perm.append_left
abbrev ź:=@List.mem_append_left
abbrev Ŵ:=@List.mem_of_getElem?
abbrev ť:=@List.getElem?_of_mem
abbrev Ŋ:=@PySem.Calls.evalArgs_plain
abbrev ĵ:=@PySem.Around.under_plainId
abbrev ů:=@PySem.mem_of_lookup
abbrev ś:=@beq_eq_false_iff_ne
abbrev Ś:=@PySem.Heap.SameBut.update
abbrev ġ:=@List.filterMap_cons
abbrev Ġ:=@List.replicate_succ
abbrev ğ:=@List.map_congr_left
abbrev Ğ:=@Array.length_toList
abbrev ĝ:=@List.filter_sublist
abbrev Ž:=@List.length_append
abbrev Ÿ:=@Bool.false_ne_true
abbrev ŷ:=@Nat.lt_of_lt_of_le
abbrev Ű:=@List.filter_append
abbrev ũ:=@List.find?_eq_none
abbrev Ť:=@PySem.Calls.spliced_cons
abbrev Š:=@Nat.lt_of_le_of_lt
abbrev Ō:=@PySem.tupleKind_room_in1
abbrev ŋ:=@Int.emod_lt_of_pos
abbrev Ļ:=@PySem.wpAny_Call_Name_kw
abbrev ė:=@List.mem_filterMap
abbrev ĕ:=@PySem.W.callWith_K
abbrev Ĕ:=@PySem.SeqAt.EqAt.int_int
abbrev ē:=@of_decide_eq_false
abbrev Ż:=@List.getElem?_map
abbrev ŵ:=@List.size_toArray
abbrev Ŧ:=@List.nodup_append
abbrev ř:=@Int.toNat_natCast
abbrev Ř:=@PySem.wpAny_dictEntries
abbrev Ŕ:=@PySem.wpAny_truthy_bool
abbrev œ:=@List.append_assoc
abbrev Ņ:=@PySem.Calls.spliced_nil
abbrev Ħ:=@PySem.wpAny_Call_method
abbrev ĥ:=@List.getElem?_inj
abbrev ŭ:=@List.length_cons
abbrev Ŭ:=@List.take_length
abbrev ň:=@PySem.wpAny_call_entry
abbrev ĺ:=@List.length_take
abbrev Ĺ:=@decide_eq_decide
abbrev Į:=@Nat.lt_succ_self
abbrev ĭ:=@Array.toList_inj
abbrev ě:=@List.all_eq_true
abbrev ć:=@Nat.succ_le_succ
abbrev ſ:=@List.map_append
abbrev Ŷ:=@List.mem_append
abbrev ţ:=@List.append_nil
abbrev Ş:=@List.mem_filter
abbrev ŝ:=@Nat.not_lt_zero
abbrev ŕ:=@PySem.W.kia_one
abbrev ō:=@PySem.PassesOwn.never
abbrev ł:=@Bool.eq_iff_iff
abbrev Ĳ:=@List.filter_nil
abbrev ı:=@Int.emod_nonneg
abbrev ħ:=@PySem.wpAny_passesOwn
abbrev Ē:=@PySem.wpAny_execs_nil
abbrev đ:=@List.nodup_cons
abbrev Đ:=@PySem.codeAny_builtin
abbrev ď:=@PySem.wpAny_dictEpoch
abbrev Ů:=@PySem.boot_len
abbrev Ţ:=@List.take_succ
abbrev ŗ:=@List.mem_range
abbrev Ċ:=@PySem.Heap.size_push
abbrev ĉ:=@List.nodup_nil
abbrev ű:=@List.map_cons
abbrev Ŝ:=@PySem.wpAny_holding
abbrev ņ:=@Nat.lt_irrefl
abbrev Ĥ:=@PySem.Paired.length
abbrev ķ:=@List.map_map
abbrev į:=@Nat.ne_of_gt
abbrev Ė:=@PySem.codeAny_mono
abbrev Ĉ:=@Nat.le_of_lt
abbrev Ł:=@Nat.le_succ
abbrev Ķ:=@PySem.sizeLine_eq
abbrev ū:=@PySem.wpAny_mono
abbrev Ũ:=@PySem.W.mg_none_of
abbrev ą:=@beq_iff_eq
abbrev Ą:=@PySem.wpAny_rule
abbrev Ć:=@Prod.ext
abbrev ž:=@if_neg
abbrev Ź:=@if_pos
abbrev Œ:=@PySem.W.mg_of
abbrev à:=@List
abbrev á:=PySem.Expr
abbrev â:=PySem.Stmt
abbrev ã:=PySem.Heap
abbrev ä:=PySem.W.Frag
abbrev å:=PySem.Value
abbrev æ:=PySem.Around
abbrev ç:=PySem.FuncData
abbrev è:=PySem.World
abbrev é:=PySem.Addr
abbrev ê:=PySem.Program
abbrev ë:=PySem.Shared
abbrev ì:=Array PySem.Value
abbrev î:=Option PySem.Value
abbrev õ:=List PySem.Expr
abbrev ö:=List PySem.Env
abbrev ø:=List Nat
abbrev ù:=List Int
abbrev ú:=List PySem.Str
abbrev û:=List PySem.Addr
abbrev ü:=List PySem.Value
abbrev ý:=List (PySem.Str×PySem.Addr)
abbrev ā:=PySem.Str->Option PySem.Value
abbrev Ă:=PySem.Value->PySem.Shared->Prop
abbrev ă:=List (PySem.Addr×PySem.Obj)
def ϱ.{u}{α:Sort u}{a:α}:a=a:=rfl
def θ{p:Prop}(h:p:=by decide +kernel):p:=h
def ζ{p:Prop}(h:p:=by decide):p:=h
def ω{p:Prop}(h:p:=by omega):p:=h
def χ{a b:Nat}(h:a.ble b=true:=by rfl):a<=b:=Nat.le_of_ble_eq_true h
abbrev ε:=@PySem.wpAny_bind
abbrev π:=@PySem.wpAny_pure
abbrev ρ:=@PySem.Heap.get?_push_of_some
abbrev ξ:=@List.getElem?_eq_getElem
abbrev τ:=@decide_eq_true
abbrev υ:=@Nat.le_succ_of_le
abbrev ι:=@Nat.le_refl
abbrev η:=@PySem.Heap.lt_size
abbrev ψ:=@PySem.Heap.get?_push_size
abbrev Γ:=@decide_eq_false
abbrev Δ:=@Option.some.inj
abbrev Θ:=@List.mem_cons_of_mem
abbrev Λ:=@Nat.le_trans
abbrev Ξ:=@of_decide_eq_true
abbrev Φ:=@Nat.ne_of_lt
abbrev Ψ:=@List.mem_append_right
abbrev Ω:=@List.mem_cons_self
open PySem.W (Frag)
namespace L2
open PySem PySem.Spec PyProof.Rows
abbrev Key:=Sum Int Str
def oy:Key->å->Bool
 | .inl k,v=>Value.isInt k v
 | .inr x,v=>Value.isStrOf x v
def EO(w:è):Key->Int
 | .inl k=>hashInt k
 | .inr x=>hashStr w x
theorem bL:∀{k:Key} {v:å},oy k v=true->(∃i t,k=Sum.inl i/\v=Value.int i t)\/(∃x t,k=Sum.inr x/\v=Value.str x t)
 | .inl i,v,h=>by
  obtain ⟨t,e⟩:=Value.isInt_shape (k:=i) (v:=v) h
  exact .inl ⟨i,t,ϱ,e⟩
 | .inr x,v,h=>by
  obtain ⟨t,e⟩:=Value.isStrOf_shape (x:=x) (v:=v) h
  exact .inr ⟨x,t,ϱ,e⟩
def wy(i:Int)(t:Tok):oy (.inl i) (.int i t)=true:=by simp [oy,Value.isInt]
def wx(x:Str)(t:Tok):oy (.inr x) (.str x t)=true:=by simp [oy,Value.isStrOf]
def C4(a b:Int):decide ((Sum.inl a:Key)=Sum.inl b)=(a==b):=by
 by_cases e:a=b
 .subst e;simp
 .have h:¬(Sum.inl a:Key)=Sum.inl b:=λq=>e (Sum.inl.inj q)
  rw [Γ h]
  exact (ś.mpr e).symm
def C0(a b:Str):decide ((Sum.inr a:Key)=Sum.inr b)=decide (a=b):=by
 by_cases e:a=b
 .subst e;simp
 .have h:¬(Sum.inr a:Key)=Sum.inr b:=λq=>e (Sum.inr.inj q)
  rw [Γ h,Γ e]
def C3(a:Int)(b:Str):decide ((Sum.inl a:Key)=Sum.inr b)=false:=Γ (λq=>nomatch q)
def C1(a:Str)(b:Int):decide ((Sum.inr a:Key)=Sum.inl b)=false:=Γ (λq=>nomatch q)
def aM(prog:ê)(w:è):PySem.KeyKind prog w Key where
 is:=oy
 hash:=EO w
 inj:=λv a b ha hb=>by
  rcases bL ha with ⟨i,t,rfl,rfl⟩ | ⟨x,t,rfl,rfl⟩
  .rcases bL hb with ⟨j,u,rfl,e⟩ | ⟨y,u,rfl,e⟩
   .injection e with e1 _;rw [e1]
   .exact nomatch e
  .rcases bL hb with ⟨j,u,rfl,e⟩ | ⟨y,u,rfl,e⟩
   .exact nomatch e
   .injection e with e1 _;rw [e1]
 byValue:=λk v h=>by
  rcases bL h with ⟨i,t,rfl,rfl⟩ | ⟨x,t,rfl,rfl⟩<;>rfl
 pyHash:=λhv h=>by
  rcases bL hv with ⟨i,t,rfl,rfl⟩ | ⟨x,t,rfl,rfl⟩
  .exact wpAny_pyHash_int h
  .exact wpAny_pyHash_str h
 eqBool:=λhu hv h=>by
  rcases bL hu with ⟨i,t,rfl,rfl⟩ | ⟨x,t,rfl,rfl⟩
  .rcases bL hv with ⟨j,u,rfl,rfl⟩ | ⟨y,u,rfl,rfl⟩
   .rw [C4] at h;exact wpAny_eqBool_int h
   .rw [C3] at h;exact SeqAt.EqAt.int_str i t y u _ _ _ _ h
  .rcases bL hv with ⟨j,u,rfl,rfl⟩ | ⟨y,u,rfl,rfl⟩
   .rw [C1] at h;exact SeqAt.EqAt.str_int x t j u _ _ _ _ h
   .rw [C0] at h;exact wpAny_eqBool_str h
 «strs» := fun k x t v h => by
  rcases bL h with ⟨i,u,rfl,e⟩ | ⟨y,u,rfl,e⟩
  .exact nomatch e
  .injection e with e1 _
   subst e1
   cases v<;>rfl
def ss(prog:ê)(w:è)(i:Int)(t:Tok):(aM prog w).is (.inl i) (.int i t)=true:=wy i t
def so(prog:ê)(w:è)(x:Str)(t:Tok):(aM prog w).is (.inr x) (.str x t)=true:=wx x t
inductive V where
 | non | bl (b:Bool) | int (i:Int) | str (x:Str) | byt (b:Array UInt8) | flt (b:UInt64) | ref (a:é) | ty (n:String)
 deriving DecidableEq
def RelV:V->å->Prop
 | .non,u=>u=Value.none
 | .bl b,u=>u=Value.bool b
 | .int i,u=>∃t,u=Value.int i t
 | .str x,u=>∃t,u=Value.str x t
 | .byt b,u=>∃t,u=Value.bytes b t
 | .flt b,u=>∃t,u=Value.float b t
 | .ref a,u=>u=Value.ref a
 | .ty n,u=>u=Value.type n
abbrev Vals:à V->ü->Prop:=Paired RelV
def Vals.length{xs:à V}{us:ü}(r:Vals xs us):xs.length=us.length:=Ĥ r
theorem Vals.get:∀{xs:à V} {us:ü} {i:Nat} {x:V},Vals xs us->xs[i]?=some x->∃u,us[i]?=some u/\RelV x u
 | _,_,_,_,.nil,e=>by simp at e
 | _,_,0,_,.cons r _,e=>by simp at e;subst e;exact ⟨_,rfl,r⟩
 | _,_,i+1,x,.cons _ t,e=>by
  obtain ⟨u,h1,h2⟩:=Vals.get (i:=i) (x:=x) t (by simpa using e)
  exact ⟨u,by simpa using h1,h2⟩
theorem Vals.set{x:V}{u:å}(r:RelV x u):∀{xs:à V} {us:ü} (i:Nat),Vals xs us->Vals (xs.set i x) (us.set i u)
 | _,_,_,.nil=>.nil
 | _,_,0,.cons _ t=>.cons r t
 | _,_,i+1,.cons q t=>.cons q (Vals.set r i t)
theorem Vals.append:∀{xs ys:à V} {us ws:ü},Vals xs us->Vals ys ws->Vals (xs++ys) (us++ws)
 | _,_,_,_,.nil,s=>s
 | _,_,_,_,.cons r t,s=>.cons r (Vals.append t s)
theorem Vals.take:∀{xs:à V} {us:ü} (n:Nat),Vals xs us->Vals (xs.take n) (us.take n)
 | _,_,0,_=>.nil
 | _,_,_+1,.nil=>.nil
 | _,_,n+1,.cons r t=>.cons r (Vals.take n t)
theorem Vals.drop:∀{xs:à V} {us:ü} (n:Nat),Vals xs us->Vals (xs.drop n) (us.drop n)
 | _,_,0,r=>r
 | _,_,_+1,.nil=>.nil
 | _,_,n+1,.cons _ t=>Vals.drop n t
def RelO:Option V->î->Prop
 | some v,some u=>RelV v u
 | none,none=>True
 | _,_=>False
def KV{κ:Type}:à (κ×V)->à (κ×å)->Prop:=Paired λ(p:κ×V) (q:κ×å)=>p.1=q.1/\RelV p.2 q.2
def kV:Key->V
 | .inl i=>.int i
 | .inr x=>.str x
inductive HO where
 | lst (xs:à V)
 | tup (xs:à V)
 | dK (kvs:List (Key×V)) | dT (kvs:List (List Key×V))
 | set (S:Int->Bool) (n:Nat)
 | ins (C dx:é) (fs:List (Str×V))
 | own (x:é)
 | xd (fs:List (Str×V))
 | met (f x:é)
 | rng (lo hi:Int)
 | frz (o:Obj) (u:HO)
 | tbl (ps:ì)
 | ext (φ:ã->Prop)
abbrev Hp:=é->Option HO
def upd(H:Hp)(a:é)(o:HO):Hp:=λb=>if b=a then some o else H b
def ae{H:Hp}{a:é}{o:HO}:upd H a o a=some o:=by unfold upd;rw [if_pos rfl]
def am{H:Hp}{a b:é}{o:HO}(h:b≠a):upd H a o b=H b:=by unfold upd;rw [if_neg h]
def qo{H:Hp}{a:é}{o u:HO}:upd (upd H a o) a u=upd H a u:=by
 funext b;unfold upd;split<;>rfl
def jH{H:Hp}{a b:é}{o u:HO}(h:H a=some o)(h':H b=some u)(d:o≠u):a≠b:=by
 intro e;subst e;rw [h] at h';exact d (Δ h')
def aq{H:Hp}{a b:é}{o:HO}(h:H a=some o)(h':H b=none):a≠b:=by
 intro e;subst e;rw [h] at h';cases h'
section
variable (P:ê)(w:è)
def ObjOk(H:Hp)(h:ã)(a:é):HO->Prop
 | .lst xs=>xs.length<=sizeLine/\∃(its:ü) (n:Nat),Vals xs its/\h.get? a=some {cls:=.type "list",data:=.seq its.toArray n}
 | .tup xs=>xs.length<=sizeLine/\∃its:ü,Vals xs its/\IsTup h a its.toArray
 | .dK kvs=>kvs.length<=sizeLine/\(a==sysModules)=false/\∃vs,KV kvs vs/\h.DictOf (aM P w) a vs
 | .dT kvs=>kvs.length<=sizeLine/\(a==sysModules)=false/\∃xs:à (à Key×Addr×å),
   Paired (λ(p:à Key×V) (q:à Key×Addr×å)=>p.1=q.1/\H q.2.1=some (.tup (p.1.map kV))/\RelV p.2 q.2.2) kvs xs /\
   ∃o es ep,h.get? a=some o/\o.ExactDict/\o.data=.dict es ep/\es.toList=xs.map (entryOfKey (tupleKind (aM P w)))/\(xs.map (·.1)).Nodup
 | .set S n=>h.SetOf (intKind P w) a S n
 | .ins C dx fs=>H dx=some (.own a)/\fs.length<=1000/\dx≠a/\h.get? a=some (PySem.W.instObj C dx) /\
   ∃mA,h.Ns1 dx mA/\(∀f,RelO (fs.lookup f) (mA f))/\PySem.Within mA (fs.map (·.1))
 | .own _=>∃o,h.get? a=some o
 | .xd fs=>∃mA,h.Ns1 a mA/\∀f,RelO (fs.lookup f) (mA f)
 | .rng lo hi=>∃t u v,h.get? a=some {cls:=.type "range",data:=.fields #[.int lo t,.int hi u,.int 1 v]}
 | .frz o u=>h.get? a=some o/\ObjOk H h a u
 | .tbl ps=>h.get? a=some {cls:=.none,data:=.fields ps}
 | .met f x=>h.get? a=some (PySem.W.methodObj (.ref f) (.ref x))
 | .ext φ=>φ h/\(∃o,h.get? a=some o)/\∀h1 h2:ã,φ h1->(∀o,h1.get? a=some o->h2.get? a=some o)->φ h2
def HOk(H:Hp)(h:ã):Prop:=∀a o,H a=some o->ObjOk P w H h a o
end
section
variable {P:ê}{w:è}{H H':Hp}{h h':ã}{a:é}{o:HO}
def ObjOk.lt(x:ObjOk P w H h a o):a<h.objs.size:=by
 cases o with
 | lst xs=>obtain ⟨_,_,_,_,e⟩:=x;exact η e
 | tup xs=>obtain ⟨_,_,_,p⟩:=x;exact p.lt
 | dK kvs=>obtain ⟨_,_,_,_,o,_,_,e,_⟩:=x;exact η e
 | dT kvs=>obtain ⟨_,_,_,_,o,_,_,e,_⟩:=x;exact η e
 | set S n=>obtain ⟨o,_,_,_,e,_⟩:=x;exact η e
 | ins C dx fs=>obtain ⟨_,_,_,e,_⟩:=x;exact η e
 | own y=>obtain ⟨_,e⟩:=x;exact η e
 | xd fs=>obtain ⟨_,⟨_,_,_,e,_⟩,_⟩:=x;exact η e
 | rng lo hi=>obtain ⟨_,_,_,e⟩:=x;exact η e
 | frz ob u=>obtain ⟨e,_⟩:=x;exact η e
 | tbl ps=>exact η (show h.get? a=some _ from x)
 | met f y=>exact η (show h.get? a=some _ from x)
 | ext φ=>obtain ⟨_,⟨_,e⟩,_⟩:=x;exact η e
theorem Paired.mapP{α β:Type}{F G:α->β->Prop}:∀{l₁:à α} {l₂:à β},Paired F l₁ l₂->(∀a b,F a b->G a b)->Paired G l₁ l₂
 | _,_,.nil,_=>.nil
 | _,_,.cons r t,f=>.cons (f _ _ r) (Paired.mapP t f)
def ObjOk.stay(x:ObjOk P w H h a o)(k:∀b u,(b=a\/H b=some (.own a))->h.get? b=some u->h'.get? b=some u)
  (J:∀b,H b=some (.own a)->H' b=some (.own a))(K:∀b xs,H b=some (.tup xs)->H' b=some (.tup xs)):ObjOk P w H' h' a o:=by
 induction o with
 | lst xs=>obtain ⟨z,j,n,r,e⟩:=x;exact ⟨z,j,n,r,k _ _ (.inl rfl) e⟩
 | tup xs=>obtain ⟨z,j,r,g,e,c⟩:=x;exact ⟨z,j,r,g,k _ _ (.inl rfl) e,c⟩
 | dK kvs=>obtain ⟨z,y,vs,r,g,es,i,e,c⟩:=x;exact ⟨z,y,vs,r,g,es,i,k _ _ (.inl rfl) e,c⟩
 | dT kvs =>
  obtain ⟨z,y,xs,r,g,es,i,e,c⟩:=x
  exact ⟨z,y,xs,Paired.mapP r λp q z=>⟨z.1,K _ _ z.2.1,z.2.2⟩,g,es,i,k _ _ (.inl rfl) e,c⟩
 | set S n=>obtain ⟨g,es,i,t,e,c⟩:=x;exact ⟨g,es,i,t,k _ _ (.inl rfl) e,c⟩
 | ins C dx fs =>
  obtain ⟨d,z,G,e,l,⟨D,es,i,I,c⟩,r⟩:=x
  exact ⟨J _ d,z,G,k _ _ (.inl rfl) e,l,⟨D,es,i,k _ _ (.inr d) I,c⟩,r⟩
 | own y=>obtain ⟨g,e⟩:=x;exact ⟨g,k _ _ (.inl rfl) e⟩
 | xd fs=>obtain ⟨l,⟨D,es,i,e,c⟩,r⟩:=x;exact ⟨l,⟨D,es,i,k _ _ (.inl rfl) e,c⟩,r⟩
 | rng lo hi=>obtain ⟨t,u,v,e⟩:=x;exact ⟨t,u,v,k _ _ (.inl rfl) e⟩
 | frz g u ih=>obtain ⟨e,q⟩:=x;exact ⟨k _ _ (.inl rfl) e,ih q⟩
 | tbl ps =>
  have e:h.get? a=some {cls:=.none,data:=.fields ps}:=x
  show h'.get? a=some {cls:=.none,data:=.fields ps}
  exact k a _ (.inl rfl) e
 | met f y =>
  have e:h.get? a=some (PySem.W.methodObj (.ref f) (.ref y)):=x
  show h'.get? a=some (PySem.W.methodObj (.ref f) (.ref y))
  exact k a _ (.inl rfl) e
 | ext φ=>obtain ⟨p,⟨o,e⟩,F⟩:=x;exact ⟨F _ _ p λo q=>k _ _ (.inl rfl) q,⟨o,k _ _ (.inl rfl) e⟩,F⟩
def HOk.lt(x:HOk P w H h)(e:H a=some o):a<h.objs.size:=(x a o e).lt
def HOk.fresh(x:HOk P w H h)(e:h.objs.size<=a):H a=none:=by
 cases q:H a with
 | none=>rfl
 | some u=>exact absurd (ŷ (x.lt q) e) (ņ _)
def HOk.kept(x:HOk P w H h)(k:∀b u,h.get? b=some u->h'.get? b=some u):HOk P w H h':=λa o e =>
 (x a o e).stay (λb u _ q=>k b u q) (λ_ q=>q) λ_ _ q=>q
def HOk.laid(x:HOk P w H h)(k:∀b u,h.get? b=some u->h'.get? b=some u)(hp:h.objs.size<=a)(new:ObjOk P w (upd H a o) h' a o):HOk P w (upd H a o) h':=λb u e=>by
 have hn:=x.fresh hp
 by_cases hb:b=a
 .subst hb;rw [ae] at e;cases e;exact new
 .rw [am hb] at e
  exact (x b u e).stay (λc v _ q=>k c v q) (λc q=>by rw [am (aq q hn)];exact q) λc xs q=>by rw [am (aq q hn)];exact q
end
def Rd(H:Hp)(a:é)(u:HO):Prop:=H a=some u\/∃o,H a=some (.frz o u)
def Rd.ok{P:ê}{w:è}{H:Hp}{h:ã}{a:é}{u:HO}(r:Rd H a u)(x:HOk P w H h):ObjOk P w H h a u:=by
 rcases r with r | ⟨o,r⟩
 .exact x a u r
 .obtain ⟨_,q⟩:=x a _ r
  exact q
def Mut:Option HO->Prop
 | some (.lst _)=>True
 | some (.dK _)=>True
 | some (.dT _)=>True
 | some (.set _ _)=>True
 | some (.ins _ _ _)=>True
 | some (.ext _)=>True
 | _=>False
section
variable {P:ê}{w:è}{H:Hp}{h h':ã}{x e:é}{o':HO}
def HOk.write(ok:HOk P w H h)(d:Mut (H x))(g:e=x\/H e=some (.own x))(k:∀b u,b≠e->h.get? b=some u->h'.get? b=some u)(f:∃u,h'.get? e=some u)
  (new:ObjOk P w (upd H x o') h' x o'):HOk P w (upd H x o') h':=λb u q=>by
 have nown:∀c y,H c=some (.own y)->c≠x:=λc y r z=>by subst z;rw [r] at d;exact d
 have ntup:∀c xs,H c=some (.tup xs)->c≠x:=λc xs r z=>by subst z;rw [r] at d;exact d
 by_cases hb:b=x
 .subst hb;rw [ae] at q;cases q;exact new
 .rw [am hb] at q
  by_cases hbe:b=e
  .have q':H b=some (.own x):=by
    rcases g with z | z
    .exact absurd (hbe.trans z) hb
    .rw [hbe];exact z
   rw [q] at q';cases q'
   obtain ⟨v,i⟩:=f
   exact ⟨v,by rw [hbe];exact i⟩
  .refine (ok b u q).stay (λc v hc r=>k c v ?_ r) (λc r=>by rw [am (nown c b r)];exact r) λc xs r=>by rw [am (ntup c xs r)];exact r
   rcases hc with rfl | hc
   .exact hbe
   .rintro rfl
    rcases g with z | z
    .exact nown c b hc z
    .rw [hc] at z;cases z;exact hb rfl
end
structure Un(fs ex:û)(H H':Hp)(h h':ã):Prop where
 keep:∀b o,h.get? b=some o->H b=none->b∉fs->b∉ex->h'.get? b=some o
 slot:∀b o,h.get? b=some o->H b=none->b∈fs->b∉ex->∃sl,h'.get? b=some {o with slots:=sl}
 free:∀b o,h.get? b=some o->H b=none->b∉ex->H' b=none
 there:∀b o,h.get? b=some o->b∉ex->∃o',h'.get? b=some o'
 tups:∀b xs,H b=some (.tup xs)->H' b=some (.tup xs)
 frzs:∀b o u,H b=some (.frz o u)->H' b=some (.frz o u)
 tbls:∀b ps,H b=some (.tbl ps)->∃more,H' b=some (.tbl (ps++more))
section
variable {fs fs' ex ex':û}{H H1 H2:Hp}{h h1 h2 h':ã}{a x e:é}{o:HO}
def Un.any(u:Un fs ex H H1 h h1){b:é}{d:Obj}(q:h.get? b=some d)(n:H b=none)(e:b∉ex):∃sl,h1.get? b=some {d with slots:=sl}:=by
 by_cases hb:b∈fs
 .exact u.slot b d q n hb e
 .exact ⟨d.slots,u.keep b d q n hb e⟩
def Un.kept(k:∀b u,h.get? b=some u->h'.get? b=some u):Un fs ex H H h h' :=
 ⟨λb ob q _ _ _=>k b ob q,λb ob q _ _ _=>⟨ob.slots,k b ob q⟩,λ_ _ _ n _=>n,λb ob q _=>⟨ob,k b ob q⟩,λ_ _ q=>q,λ_ _ _ q=>q,λ_ ps q=>⟨#[],by rw [q];simp⟩⟩
def Un.refl:Un fs ex H H h h:=Un.kept λ_ _ q=>q
def Un.laid(k:∀b u,h.get? b=some u->h'.get? b=some u)(hp:h.objs.size<=a)(hn:H a=none):Un fs ex H (upd H a o) h h' where
 keep:=λb u q _ _ _=>k b u q
 slot:=λb u q _ _ _=>⟨u.slots,k b u q⟩
 free:=λb u q n _=>by rw [am (Φ (ŷ (η q) hp))];exact n
 there:=λb u q _=>⟨u,k b u q⟩
 tups:=λb xs q=>by rw [am (aq q hn)];exact q
 frzs:=λb u xs q=>by rw [am (aq q hn)];exact q
 tbls:=λb ps q=>⟨#[],by rw [am (aq q hn),q];simp⟩
def Un.write(d:Mut (H x))(w:e=x\/H e=some (.own x))(k:∀b u,b≠e->h.get? b=some u->h'.get? b=some u)(g:∃u,h'.get? e=some u):Un fs ex H (upd H x o) h h':=by
 have i:∀b,H b=none->b≠x:=λb n z=>by subst z;rw [n] at d;exact d
 have hb:∀b,H b=none->b≠e:=λb n z=>by
  subst z
  rcases w with r | r
  .exact i b n r
  .rw [n] at r;cases r
 have f:∀b u,H b=some u->¬Mut (some u)->b≠x:=λb u q j z=>by subst z;rw [q] at d;exact j d
 refine ⟨λb u q n _ _=>k b u (hb b n) q,λb u q n _ _=>⟨u.slots,k b u (hb b n) q⟩,λb u q n _=>by rw [am (i b n)];exact n,λb u q _=>?_,
  λb l q=>by rw [am (f b _ q λz=>z)];exact q,λb u l q=>by rw [am (f b _ q λz=>z)];exact q,λb y q=>⟨#[],by rw [am (f b _ q λz=>z),q];simp⟩⟩
 by_cases hbe:b=e
 .subst hbe;exact g
 .exact ⟨u,k b u hbe q⟩
end
def trk(h:ã)(H:Hp):û:=(List.range h.objs.size).filter λa=>(H a).isSome
def pD(h:ã)(H:Hp):ã:=PySem.W.hideAll h (trk h H)
def wD(h:ã)(H:Hp):(pD h H).objs.size=h.objs.size:=PySem.W.hideAll_size _ _
def yY{h:ã}{H:Hp}{b:é}{o:Obj}(e:h.get? b=some o)(n:H b=none):(pD h H).get? b=some o :=
 PySem.W.hideAll_get _ e λhm=>by
  have q:(H b).isSome=true:=(Ş.mp hm).2
  rw [n] at q;simp at q
def AG{h:ã}{H:Hp}{b:é}{o:Obj}(e:(pD h H).get? b=some o):h.get? b=some o/\H b=none:=by
 have d:h.get? b=some o:=PySem.W.of_hideAll (trk h H) e
 refine ⟨d,?_⟩
 cases q:H b with
 | none=>rfl
 | some x =>
  have f:b∈trk h H:=List.mem_filter.mpr ⟨List.mem_range.mpr (Heap.lt_size d),by simp [q]⟩
  have z:(pD h H).get? b=none:=PySem.W.hideAll_none (trk h H) f
  rw [z] at e;cases e
structure Mod(K:ä)(mg:ā)(base:ã):Prop where
 kin:K.In base
 glob:base.Ns mainGlobals mg
 blt:∃mb,base.Ns builtinsNs mb/\∀x:Str,x≠"__name__"->mb x=bootBuiltins x
 nolimit:base.NoLimit
structure Cx where
 prog:ê
 w:è
 K:ä
 mg:ā
 base:ã
 A:æ
 N:ú
 s₀:ë
 H₀:Hp
 env:Env
 outer:ö
 stack:ö
 ex:û
 fn:Str->Bool
 calm:Bool
 pn:ă
 xe:Ă
def frs(l:ö):û:=l.filterMap (·.frame)
abbrev Cx.fs(X:Cx):û:=frs X.outer
def Vis(sc:Scope)(x:Str):Prop:=sc.names.lookup x=some .local\/sc.names.lookup x=some .cell\/sc.names.lookup x=some .free
def Loc(sc:Scope)(x:Str):Prop:=sc.names.lookup x=some .local\/sc.names.lookup x=some .cell
def EZ(env:Env)(h:ã)(m:ā)(x:Str)(u:å):Prop :=
 (env.kindOf x=some .local/\m x=some u)\/((env.kindOf x=some .cell\/env.kindOf x=some .free)/\∃c,env.cells.lookup x=some c/\h.IsCell c (some u))
structure Cx.Ok(X:Cx):Prop where
 mod:Mod X.K X.mg X.base
 kind:X.env.scope.kind=.function
 glob:X.env.globals=mainGlobals
 blt:X.env.builtins=builtinsNs
 above:X.s₀.heap.objs.size<=X.env.locals
 inj:∀x y c,X.env.cells.lookup x=some c->X.env.cells.lookup y=some c->x=y
 has:∀x,(X.env.kindOf x=some .cell\/X.env.kindOf x=some .free)->∃c,X.env.cells.lookup x=some c
 cab:∀x c,X.fn x=true->X.env.cells.lookup x=some c->X.s₀.heap.objs.size<=c
 hd:X.calm=true->X.A.handled=none
 frames:X.A.frames=some X.stack
 stk:X.stack=X.outer\/(X.stack=X.env::X.outer/\X.env.frame=some X.env.locals)
 exf:∀b∈X.ex,b≠X.env.locals/\∀x c,X.env.cells.lookup x=some c->c≠b
 bs:∀b o,X.base.get? b=some o->X.s₀.heap.get? b=some o/\X.H₀ b=none
 bsz:X.base.objs.size<=X.s₀.heap.objs.size
 noex:∀b o,X.base.get? b=some o->b∉X.ex
 exfs:∀b∈X.ex,b∉X.fs
 funs:X.s₀.heap.FunFrames X.base X.outer
 frf:∀b∈X.fs,X.H₀ b=none
structure Inv(X:Cx)(pins:ă)(σ:à (Option V))(H:Hp)(s:ë):Prop where
 ok:X.Ok
 os:s.os=X.s₀.os
 bare:AllBare s.gens
 base:Un X.fs X.ex X.H₀ H X.s₀.heap s.heap
 loc:∃m,s.heap.Ns X.env.locals m/\∀(i:Nat) (x:Str) (v:V),X.N[i]?=some x->σ[i]?=some (some v)->Vis X.env.scope x->∃u,RelV v u/\EZ X.env s.heap m x u
 cell:∀x c,X.env.cells.lookup x=some c->∃v,s.heap.IsCell c v
 free:H X.env.locals=none
 freeC:∀x c,X.env.cells.lookup x=some c->H c=none
 pin:∀p∈X.pn++pins,s.heap.get? p.1=some p.2/\H p.1=none/\p.1≠X.env.locals/\p.1∉X.fs/\∀v,p.2.data≠.cell v
 hok:HOk X.prog X.w H s.heap
 len:σ.length=X.N.length
section
variable {X:Cx}{pins:ă}{σ:à (Option V)}{H H':Hp}{s:ë}{h':ã}
def Cx.Ok.nofr(ok:X.Ok){b:é}{o:Obj}(e:X.base.get? b=some o):b∉X.fs:=λhb=>by
 have:=(ok.funs.mem hb).1
 rw [e] at this;cases this
def Inv.bs(I:Inv X pins σ H s):∀b o,X.base.get? b=some o->s.heap.get? b=some o/\H b=none:=λb o e =>
 ⟨I.base.keep b o (I.ok.bs b o e).1 (I.ok.bs b o e).2 (I.ok.nofr e) (I.ok.noex b o e),I.base.free b o (I.ok.bs b o e).1 (I.ok.bs b o e).2 (I.ok.noex b o e)⟩
def Inv.bk(I:Inv X pins σ H s):∀b o,X.base.get? b=some o->s.heap.get? b=some o:=λb o e=>(I.bs b o e).1
def Inv.mod(I:Inv X pins σ H s):Mod X.K X.mg X.base:=I.ok.mod
def Inv.kIn(I:Inv X pins σ H s):X.K.In s.heap:=I.ok.mod.kin.keeps I.bk
def Inv.lt(I:Inv X pins σ H s):X.env.locals<s.heap.objs.size:=let ⟨_,hn,_⟩:=I.loc;hn.lt
def Inv.sz(I:Inv X pins σ H s):X.s₀.heap.objs.size<=s.heap.objs.size:=Λ I.ok.above (Ĉ I.lt)
def Inv.nofs(I:Inv X pins σ H s){a:é}(h:s.heap.objs.size<=a):a∉X.fs:=λhb=>by
 obtain ⟨_,o,ho,_⟩:=I.ok.funs.mem hb
 exact absurd (ŷ (η ho) (Λ I.sz h)) (ņ _)
def Inv.cne(I:Inv X pins σ H s):∀x c,X.env.cells.lookup x=some c->c≠X.env.locals:=λx c e z=>by
 obtain ⟨v,o,ho,hd⟩:=I.cell x c e
 obtain ⟨m,⟨o',es,ep,ho',hd',_⟩,_⟩:=I.loc
 rw [z,ho'] at ho;cases ho;rw [hd'] at hd;cases hd
def Inv.funs(I:Inv X pins σ H s):s.heap.FunFrames X.base X.outer:=by
 have all:∀(l:ö),(∀b∈frs l,b∈X.fs)->X.s₀.heap.FunFrames X.base l->s.heap.FunFrames X.base l:=by
  intro l
  induction l with
  | nil=>intro _ _;trivial
  | cons env r ih =>
   intro f u
   obtain ⟨g,⟨L,o,hf,h,i,j⟩,q⟩:=u
   have d:L∈X.fs:=f L (by unfold frs;rw [List.filterMap_cons,hf];exact List.mem_cons_self)
   obtain ⟨w,e⟩:=I.base.slot L o i (I.ok.frf L d) d λz=>I.ok.exfs L z d
   exact ⟨g,⟨L,_,hf,h,e,j⟩,ih (λb hb=>f b (by unfold frs;rw [List.filterMap_cons,hf];exact List.mem_cons_of_mem _ hb)) q⟩
 exact all X.outer (λ_ hb=>hb) I.ok.funs
def Inv.stack(I:Inv X pins σ H s):s.heap.FunFrames X.base X.stack:=by
 rcases I.ok.stk with e | ⟨e,hf⟩
 .rw [e];exact I.funs
 .rw [e]
  obtain ⟨m,b,_⟩:=I.loc
  refine .cons (by rw [I.ok.kind];decide) hf b ?_ I.funs
  exact Heap.get?_none_of_le (Λ I.ok.bsz I.ok.above)
def Inv.stkSub(I:Inv X pins σ H s):∀b∈frs X.stack,b∈X.env.locals::X.fs:=λb hb=>by
 rcases I.ok.stk with e | ⟨e,hf⟩
 .rw [e] at hb;exact Θ _ hb
 .rw [e] at hb
  unfold frs at hb
  rw [ġ,hf] at hb
  exact hb
def Inv.stkFree(I:Inv X pins σ H s):∀b∈frs X.stack,H b=none:=λb hb=>by
 rcases ϕ.mp (I.stkSub b hb) with e | hb
 .rw [e];exact I.free
 .obtain ⟨_,o,ho,_⟩:=I.ok.funs.mem hb
  exact I.base.free b o ho (I.ok.frf b hb) λz=>I.ok.exfs b z hb
def Inv.step{g':Array GenState}{t':Nat}{d':Drawn}{ch:û}(I:Inv X pins σ H s)
  (j:∀b∈ch,(b∈X.ex\/X.s₀.heap.objs.size<=b)/\b≠X.env.locals/\(∀x c,X.env.cells.lookup x=some c->c≠b)/\∀p∈X.pn++pins,p.1≠b)
  (keep:∀b o,b≠X.env.locals->b∉X.fs->b∉ch->s.heap.get? b=some o->H b=none->h'.get? b=some o)
  (D:∀b o,b≠X.env.locals->b∈X.fs->b∉ch->s.heap.get? b=some o->H b=none->∃sl,h'.get? b=some {o with slots:=sl})(free:∀b o,b∉ch->s.heap.get? b=some o->H b=none->H' b=none)
  (there:∀b o,b∉ch->s.heap.get? b=some o->∃o',h'.get? b=some o')
  (K:∀b xs,H b=some (.tup xs)->H' b=some (.tup xs))(L:∀b o u,H b=some (.frz o u)->H' b=some (.frz o u))(O:∀b ps,H b=some (.tbl ps)->∃more,H' b=some (.tbl (ps++more)))
  (ns:∀m,s.heap.Ns X.env.locals m->h'.Ns X.env.locals m)(U:HOk X.prog X.w H' h')(hg:AllBare g') :
  Inv X pins σ H' {s with heap:=h',gens:=g',drawn:=d',toks:=t'}:=by
 have J:∀b o,X.s₀.heap.get? b=some o->b≠X.env.locals:=λb o e=>Φ (ŷ (η e) I.ok.above)
 have C:∀b o,X.s₀.heap.get? b=some o->b∉X.ex->b∉ch:=λb o e f hb=>by
  rcases (j b hb).1 with z | z
  .exact f z
  .exact absurd (ŷ (η e) z) (ņ _)
 have g:∀x c,X.env.cells.lookup x=some c->∀v,s.heap.IsCell c v->h'.IsCell c v:=λx c e v ⟨o,F,Q⟩=>by
  have h:c∉ch:=λz=>(j c z).2.2.1 x c e rfl
  by_cases hc:c∈X.fs
  .obtain ⟨sl,q⟩:=D c o (I.cne x c e) hc h F (I.freeC x c e)
   exact ⟨_,q,Q⟩
  .exact ⟨o,keep c o (I.cne x c e) hc h F (I.freeC x c e),Q⟩
 refine ⟨I.ok,I.os,hg,⟨λb o e n hb f=>?_,λb o e n hb f=>?_,λb o e n f=>?_,λb o e f=>?_,λb xs e=>K b xs (I.base.tups b xs e),λb o xs e=>L b o xs (I.base.frzs b o xs e),λb ps e=>?_⟩,?_,λx c e=>?_,?_,λx c e=>?_,λp Z=>?_,U,I.len⟩
 .exact keep b o (J b o e) hb (C b o e f) (I.base.keep b o e n hb f) (I.base.free b o e n f)
 .obtain ⟨sl,y⟩:=I.base.slot b o e n hb f
  obtain ⟨P,G⟩:=D b _ (J b o e) hb (C b o e f) y (I.base.free b o e n f)
  exact ⟨P,G⟩
 .obtain ⟨o',y⟩:=I.base.there b o e f
  exact free b o' (C b o e f) y (I.base.free b o e n f)
 .obtain ⟨o',y⟩:=I.base.there b o e f
  exact there b o' (C b o e f) y
 .obtain ⟨m1,y⟩:=I.base.tbls b ps e
  obtain ⟨m2,G⟩:=O b _ y
  exact ⟨m1++m2,by rw [G,Array.append_assoc]⟩
 .obtain ⟨m,hn,hl⟩:=I.loc
  refine ⟨m,ns m hn,λi x v y G e3=>?_⟩
  obtain ⟨u,r,l⟩:=hl i x v y G e3
  refine ⟨u,r,?_⟩
  rcases l with l | ⟨k,c,e,z⟩
  .exact .inl l
  .exact .inr ⟨k,c,e,g x c e _ z⟩
 .obtain ⟨v,z⟩:=I.cell x c e
  exact ⟨v,g x c e v z⟩
 .obtain ⟨m,⟨o,_,_,F,_⟩,_⟩:=I.loc
  exact free _ o (λz=>(j _ z).2.1 rfl) F I.free
 .obtain ⟨v,o,F,Q⟩:=I.cell x c e
  exact free c o (λz=>(j c z).2.2.1 x c e rfl) F (I.freeC x c e)
 .obtain ⟨e,n,W,Y,d⟩:=I.pin p Z
  have h:p.1∉ch:=λz=>(j p.1 z).2.2.2 p Z rfl
  exact ⟨keep p.1 p.2 W Y h e n,free p.1 p.2 h e n,W,Y,d⟩
def Inv.un{t':Nat}(I:Inv X pins σ H s)(u:Un X.fs [] H H' s.heap h')(h:HOk X.prog X.w H' h'):Inv X pins σ H' {s with heap:=h',toks:=t'}:=by
 obtain ⟨m,⟨o,es,x,i,r⟩,_⟩:=id I.loc
 obtain ⟨y,j⟩:=u.any i I.free (by simp)
 exact I.step (g':=s.gens) (d':=s.drawn) (ch:=[]) (λ_ z=>nomatch z) (λb o _ hb _ e n=>u.keep b o e n hb (by simp)) (λb o _ hb _ e n=>u.slot b o e n hb (by simp)) (λb o _ e n=>u.free b o e n (by simp)) (λb o _ e=>u.there b o e (by simp)) u.tups u.frzs u.tbls (λD q=>by
  obtain ⟨C,f,g,d,l⟩:=q
  rw [i] at d;cases d
  exact ⟨_,f,g,j,l⟩) h I.bare
def Inv.call{g':Array GenState}{t':Nat}{d':Drawn}{ch:û}(I:Inv X pins σ H s)(u:Un (frs X.stack) ch H H' s.heap h')(l:HOk X.prog X.w H' h')(D:AllBare g')
  (g:∀b∈ch,(b∈X.ex\/X.s₀.heap.objs.size<=b)/\b≠X.env.locals/\(∀x c,X.env.cells.lookup x=some c->c≠b)/\∀p∈X.pn++pins,p.1≠b) :
  Inv X pins σ H' {s with heap:=h',gens:=g',drawn:=d',toks:=t'}:=by
 obtain ⟨m,⟨o,es,F,q,r⟩,_⟩:=id I.loc
 obtain ⟨G,h⟩:=u.any q I.free λz=>(g _ z).2.1 rfl
 exact I.step (ch:=ch) g (λb o h hb d e n=>u.keep b o e n (λz=>(ϕ.mp (I.stkSub b z)).elim h hb) d) (λb o _ _ d e n=>u.any e n d) (λb o d e n=>u.free b o e n d) (λb o d e=>u.there b o e d) u.tups u.frzs u.tbls (λK C=>by
  obtain ⟨J,i,j,f,y⟩:=C
  rw [q] at f;cases f
  exact ⟨_,i,j,h,y⟩) l D
def Inv.turned{t':Nat}{it:é}(I:Inv X pins σ H s)(k:∀b o,b≠it->s.heap.get? b=some o->h'.get? b=some o)(l:H it=none)(g:it≠X.env.locals)
  (h1:it∈X.ex\/X.s₀.heap.objs.size<=it)(w:∀x c,X.env.cells.lookup x=some c->c≠it)(y:∀p∈X.pn++pins,p.1≠it):Inv X pins σ H {s with heap:=h',toks:=t'}:=by
 have f:∀b u,H b=some u->b≠it:=λb u e z=>by rw [z,l] at e;cases e
 refine I.step (g':=s.gens) (d':=s.drawn) (ch:=[it]) (λb hb=>?_) (λb o _ _ d e _=>k b o (λz=>d (by simp [z])) e) (λb o _ _ d e _=>⟨o.slots,k b o (λz=>d (by simp [z])) e⟩) (λ_ _ _ _ n=>n)
  (λb o d e=>⟨o,k b o (λz=>d (by simp [z])) e⟩) (λ_ _ e=>e) (λ_ _ _ e=>e) (λb C e=>⟨#[],by rw [e];simp⟩) (λm j=>?_) (λb u e=>?_) I.bare
 .have e:b=it:=by simpa using hb
  subst e
  exact ⟨h1,g,w,y⟩
 .obtain ⟨o,es,h,i,r⟩:=j
  exact ⟨o,es,h,k _ o (Ne.symm g) i,r⟩
 .refine (I.hok b u e).stay (λc v d q=>k c v ?_ q) (λ_ q=>q) λ_ _ q=>q
  rcases d with z | z
  .rw [z];exact f b u e
  .exact f c _ z
def Inv.tok(I:Inv X pins σ H s)(t:Nat):Inv X pins σ H {s with toks:=t}:=I.un (h':=s.heap) (t':=t) Un.refl I.hok
def Inv.kept{t':Nat}(I:Inv X pins σ H s)(k:∀b u,s.heap.get? b=some u->h'.get? b=some u):Inv X pins σ H {s with heap:=h',toks:=t'}:=I.un (Un.kept k) (I.hok.kept k)
def Inv.laid{a:é}{o:HO}{t':Nat}(I:Inv X pins σ H s)(k:∀b u,s.heap.get? b=some u->h'.get? b=some u)(hp:s.heap.objs.size<=a)(new:ObjOk X.prog X.w (upd H a o) h' a o) :
  Inv X pins σ (upd H a o) {s with heap:=h',toks:=t'}:=I.un (Un.laid k hp (I.hok.fresh hp)) (I.hok.laid k hp new)
def Inv.write{x e:é}{o:HO}{t':Nat}(I:Inv X pins σ H s)(mu:Mut (H x))(he:e=x\/H e=some (.own x))(k:∀b u,b≠e->s.heap.get? b=some u->h'.get? b=some u)(heo:∃u,h'.get? e=some u)
  (new:ObjOk X.prog X.w (upd H x o) h' x o):Inv X pins σ (upd H x o) {s with heap:=h',toks:=t'}:=I.un (Un.write mu he k heo) (I.hok.write mu he k heo new)
def Inv.weak{σ':à (Option V)}(I:Inv X pins σ H s)(hl:σ'.length=σ.length)(w:∀(i:Nat) v,σ'[i]?=some (some v)->σ[i]?=some (some v)):Inv X pins σ' H s :=
 ⟨I.ok,I.os,I.bare,I.base,let ⟨m,hn,hl'⟩:=I.loc;⟨m,hn,λi x v e1 e2 e3=>hl' i x v e1 (w i v e2) e3⟩,I.cell,I.free,I.freeC,I.pin,I.hok,hl.trans I.len⟩
def Inv.pins_of{pins':ă}(I:Inv X pins σ H s)(h:∀p∈pins',s.heap.get? p.1=some p.2/\H p.1=none/\p.1≠X.env.locals/\p.1∉X.fs/\∀v,p.2.data≠.cell v):Inv X pins' σ H s :=
 ⟨I.ok,I.os,I.bare,I.base,I.loc,I.cell,I.free,I.freeC,λp hp=>(Ŷ.mp hp).elim (λz=>I.pin p (ź _ z)) (h p),I.hok,I.len⟩
def sk{N:ú}(f:N.Nodup){i j:Nat}{x:Str}(a:N[i]?=some x)(b:N[j]?=some x):i=j:=by
 obtain ⟨h1,d⟩:=ż.mp a
 obtain ⟨g,e⟩:=ż.mp b
 exact (List.getElem_inj f).mp (d.trans e.symm)
def pM{M:Model}{A:æ}{E:Ă}{i:Nat}{x:Str}{v:V}{u:å}{Q:Unit->ë->Prop}(I:Inv X pins σ H s)(hN:X.N.Nodup)(U:X.N[i]?=some x)(C:Loc X.env.scope x)(r:RelV v u)
  (h:∀s',Inv X pins (σ.set i (some v)) H s'->(∃a,Heap.SameBut a s.heap s'.heap/\(a=X.env.locals\/X.env.cells.lookup x=some a))->Q () s')(hf:X.fn x=true\/X.env.scope.names.lookup x=some .local:=by first | exact .inl rfl | exact .inr rfl | assumption):wpAny M A (storeName X.env x u) Q E s:=by
 obtain ⟨m,hn,hl⟩:=id I.loc
 have L:(X.env.scope.kind==.class||(X.env.scope.kind==.module&&X.env.locals != X.env.globals))=false:=by rw [I.ok.kind];rfl
 have O:i<σ.length:=by rw [I.len];exact (ż.mp U).1
 have cne:=I.cne
 have l:∀{a:é} {h':ã},(∃o,s.heap.get? a=some o/\H a=none)->Heap.SameBut a s.heap h'->HOk X.prog X.w H h':=λ{a h'} ha f b ob e=>by
  obtain ⟨_,_,D⟩:=ha
  refine (I.hok b ob e).stay (λc W hc q=>(f.2 c ?_).trans q) (λ_ q=>q) λ_ _ q=>q
  rintro rfl
  rcases hc with rfl | hc
  .rw [D] at e;cases e
  .rw [D] at hc;cases hc
 rcases C with hk | hk
 .refine wpAny_storeName_local hk hn (λh' a7 f=>?_) L
  obtain ⟨oL,_,_,a1,_⟩:=id hn
  refine h _ ⟨I.ok,I.os,I.bare,⟨λb o e n hb C=>?_,λb o e n hb C=>?_,I.base.free,λb o e C=>?_,I.base.tups,I.base.frzs,I.base.tbls⟩,⟨_,a7,λj y v' g F e3=>?_⟩,λy c e=>?_,I.free,I.freeC,λp hp=>?_,l ⟨oL,a1,I.free⟩ f,by simpa using I.len⟩ ⟨_,f,.inl rfl⟩
  .exact (f.2 b (Φ (ŷ (η e) I.ok.above))).trans (I.base.keep b o e n hb C)
  .obtain ⟨sl,g⟩:=I.base.slot b o e n hb C
   exact ⟨sl,(f.2 b (Φ (ŷ (η e) I.ok.above))).trans g⟩
  .obtain ⟨o',g⟩:=I.base.there b o e C
   exact ⟨o',(f.2 b (Φ (ŷ (η e) I.ok.above))).trans g⟩
  .by_cases hj:j=i
   .subst hj
    rw [U] at g;cases g
    rw [List.getElem?_set_self O] at F
    cases F
    exact ⟨u,r,.inl ⟨hk,by simp⟩⟩
   .rw [List.getElem?_set_ne (Ne.symm hj)] at F
    obtain ⟨u',r',q⟩:=hl j y v' g F e3
    refine ⟨u',r',?_⟩
    rcases q with ⟨k,e⟩ | ⟨k,c,e,z⟩
    .refine .inl ⟨k,?_⟩
     have:y≠x:=λe=>hj (sk hN g (e▸U))
     simp [this,e]
    .exact .inr ⟨k,c,e,z.sameBut f (cne y c e)⟩
  .obtain ⟨W,z⟩:=I.cell y c e
   exact ⟨W,z.sameBut f (cne y c e)⟩
  .obtain ⟨e,n,Y,nf,d⟩:=I.pin p hp
   exact ⟨(f.2 p.1 Y).trans e,n,Y,nf,d⟩
 .have G:X.fn x=true:=by
   rcases hf with z | z
   .exact z
   .rw [z] at hk;cases hk
  obtain ⟨c,hc⟩:=I.ok.has x (.inl hk)
  obtain ⟨W,z⟩:=I.cell x c hc
  refine wpAny_storeName_cell I.ok.kind hk hc z (λh' P f=>?_)
  obtain ⟨oc,J,K⟩:=id z
  refine h {s with heap:=h'} ⟨I.ok,I.os,I.bare,⟨λb o e n hb C=>?_,λb o e n hb C=>?_,I.base.free,λb o e C=>?_,I.base.tups,I.base.frzs,I.base.tbls⟩,⟨m,hn.sameBut f (Ne.symm (cne x c hc)),λj y v' g F e3=>?_⟩,λy Z e=>?_,I.free,I.freeC,λp hp=>?_,l ⟨oc,J,I.freeC x c hc⟩ f,by simpa using I.len⟩ ⟨c,f,.inr hc⟩
  .exact (f.2 b (Φ (ŷ (η e) (I.ok.cab x c G hc)))).trans (I.base.keep b o e n hb C)
  .obtain ⟨sl,g⟩:=I.base.slot b o e n hb C
   exact ⟨sl,(f.2 b (Φ (ŷ (η e) (I.ok.cab x c G hc)))).trans g⟩
  .obtain ⟨o',g⟩:=I.base.there b o e C
   exact ⟨o',(f.2 b (Φ (ŷ (η e) (I.ok.cab x c G hc)))).trans g⟩
  .by_cases hj:j=i
   .subst hj
    rw [U] at g;cases g
    rw [List.getElem?_set_self O] at F
    cases F
    exact ⟨u,r,.inr ⟨.inl hk,c,hc,P⟩⟩
   .rw [List.getElem?_set_ne (Ne.symm hj)] at F
    obtain ⟨u',r',q⟩:=hl j y v' g F e3
    refine ⟨u',r',?_⟩
    rcases q with q | ⟨k,Z,e,z'⟩
    .exact .inl q
    .refine .inr ⟨k,Z,e,z'.sameBut f ?_⟩
     rintro rfl
     exact hj (sk hN g (I.ok.inj _ _ _ e hc▸U))
  .by_cases hcc:Z=c
   .subst hcc;exact ⟨_,P⟩
   .obtain ⟨w2,z2⟩:=I.cell y Z e
    exact ⟨w2,z2.sameBut f hcc⟩
  .obtain ⟨e,n,Y,nf,d⟩:=I.pin p hp
   refine ⟨(f.2 p.1 ?_).trans e,n,Y,nf,d⟩
   intro q
   rw [q,J] at e
   have q':oc=p.2:=Δ e
   exact d W (by rw [← q'];exact K)
def mE{M:Model}{A:æ}{E:Ă}{i:Nat}{x:Str}{v:V}{u:å}{Q:Unit->ë->Prop}(I:Inv X pins σ H s)(hN:X.N.Nodup)(hi:X.N[i]?=some x)(hx:Loc X.env.scope x)(r:RelV v u)
  (h:∀s',Inv X pins (σ.set i (some v)) H s'->Q () s')(hf:X.fn x=true\/X.env.scope.names.lookup x=some .local:=by first | exact .inl rfl | exact .inr rfl | assumption):wpAny M A (storeName X.env x u) Q E s :=
 pM I hN hi hx r (λs' I' _=>h s' I') hf
def Inv.call'{s':ë}{ch:û}(I:Inv X pins σ H s)(h:s'.os=s.os)(u:Un (frs X.stack) ch H H' s.heap s'.heap)(d:HOk X.prog X.w H' s'.heap)(i:AllBare s'.gens)
  (f:∀b∈ch,(b∈X.ex\/X.s₀.heap.objs.size<=b)/\b≠X.env.locals/\(∀x c,X.env.cells.lookup x=some c->c≠b)/\∀p∈X.pn++pins,p.1≠b):Inv X pins σ H' s':=by
 obtain ⟨h',g',d',t',g⟩:=s'
 have e:g=s.os:=h
 subst e
 exact I.call (g':=g') (t':=t') (d':=d') u d i f
end
abbrev XK:=å->Option é->Hp->Prop
abbrev St:=à (Option V)
abbrev VK:=V->Hp->Prop
abbrev TE:=St->Hp->VK->Prop
abbrev TT:=St->Hp->(Bool->Hp->Prop)->Prop
abbrev TA:=St->Hp->(à V->Hp->Prop)->Prop
structure Ends where
 nx:St->Hp->Prop
 rt:VK
 bk:St->Hp->Prop:=λ_ _=>False
 ct:St->Hp->Prop:=λ_ _=>False
abbrev TS:=Ends->St->Hp->Prop
def EP(X:Cx)(pins:ă)(σ:St)(Q:VK)(u:å)(s':ë):Prop:=∃v H',Inv X pins σ H' s'/\RelV v u/\Q v H'
def TP(X:Cx)(pins:ă)(σ:St)(Q:Bool->Hp->Prop)(b:Bool)(s':ë):Prop:=∃H',Inv X pins σ H' s'/\Q b H'
def AP(X:Cx)(pins:ă)(σ:St)(Q:à V->Hp->Prop)(us:ü)(s':ë):Prop:=∃vs H',Inv X pins σ H' s'/\Vals vs us/\Q vs H'
def SP(X:Cx)(pins:ă)(D:Ends)(f:Flow)(s':ë):Prop :=
 match f with
 | .next=>∃σ' H',Inv X pins σ' H' s'/\D.nx σ' H'
 | .brk=>∃σ' H',Inv X pins σ' H' s'/\D.bk σ' H'
 | .cont=>∃σ' H',Inv X pins σ' H' s'/\D.ct σ' H'
 | .ret u=>∃v σ' H',Inv X pins σ' H' s'/\RelV v u/\D.rt v H'
def PE(X:Cx)(e:á)(t:TE):Prop :=
 ∀(pins:ă) (s:ë) (σ:St) (H:Hp) (Q:VK),Inv X pins σ H s->t σ H Q->wpAny (model X.prog X.w) X.A (eval e X.env) (EP X pins σ Q) X.xe s
def PT(X:Cx)(e:á)(t:TT):Prop :=
 ∀(pins:ă) (s:ë) (σ:St) (H:Hp) (Q:Bool->Hp->Prop),Inv X pins σ H s->t σ H Q->wpAny (model X.prog X.w) X.A (isTrue e X.env (eval e X.env)) (TP X pins σ Q) X.xe s
def PW(X:Cx)(e:á)(t:TT):Prop :=
 ∀(whole:Sem å) (pins:ă) (s:ë) (σ:St) (H:Hp) (Q:Bool->Hp->Prop),Inv X pins σ H s->t σ H Q->wpAny (model X.prog X.w) X.A (isTrue e X.env whole) (TP X pins σ Q) X.xe s
def PW.pt{X:Cx}{e:á}{t:TT}(h:PW X e t):PT X e t:=h _
def PA(X:Cx)(es:õ)(t:TA):Prop :=
 ∀(pos:Pos) (pins:ă) (s:ë) (σ:St) (H:Hp) (Q:à V->Hp->Prop),Inv X pins σ H s->t σ H Q->wpAny (model X.prog X.w) X.A (spliced (backTo pos (starEach es X.env))) (AP X pins σ Q) X.xe s
def PS(X:Cx)(st:â)(t:TS):Prop :=
 ∀(pins:ă) (s:ë) (σ:St) (H:Hp) (D:Ends),Inv X pins σ H s->t D σ H->wpAny (model X.prog X.w) X.A (exec st X.env) (SP X pins D) X.xe s
def PSs(X:Cx)(st:à â)(t:TS):Prop :=
 ∀(pins:ă) (s:ë) (σ:St) (H:Hp) (D:Ends),Inv X pins σ H s->t D σ H->wpAny (model X.prog X.w) X.A (execs st X.env) (SP X pins D) X.xe s
def thn{α:Type}{t:Sem α}{Q Q':α->ë->Prop}{M:Model}{A:æ}{E:Ă}{s:ë}(h:wpAny M A t Q E s)(hQ:∀a s,Q a s->Q' a s):wpAny M A t Q' E s:=ū h hQ λ_ _ x=>x
section
variable {X:Cx}
inductive XV (i:Nat) (σ:St) (H:Hp) (Q:VK):Prop|mk v:σ[i]?=some (some v)->Q v H->XV i σ H Q
def qq(i:Nat):TE:=fun σ H Q=>XV i σ H Q
def tC(v:V):TE:=λ_ H Q=>Q v H
def ua{i:Nat}{x:Str}{pos:Pos}(o:X.N[i]?=some x)(q:Vis X.env.scope x)(d:(x==("__debug__":Str))=false:=by decide)(f:(x==("__classdict__":Str))=false:=by decide):PE X (.Name x pos) (qq i):=by
 intro b s σ H Q I h
 obtain ⟨v,e,h⟩:=h
 obtain ⟨m,g,j⟩:=I.loc
 obtain ⟨u,r,l⟩:=j i x v o e q
 have fin:EP X b σ Q u s:=⟨v,H,I,r,h⟩
 rcases l with ⟨hk,hm⟩ | ⟨hk,c,hc,hcell⟩
 .exact wpAny_Name (wpAny_loadName_local I.ok.kind hk g hm fin) d
 .rcases hk with hk | hk
  .exact wpAny_Name (wpAny_loadName_cell I.ok.kind hk hc hcell fin) d
  .exact wpAny_Name (wpAny_loadName_free I.ok.kind hk hc hcell fin f) d
def ai{i j pos}:PE X (.Constant (.int i) j pos) (tC (.int i)):=λ_ _ _ H _ I h=>wpAny_Constant_int ⟨.int i,H,I.tok _,⟨_,ϱ⟩,h⟩
def rZ{b j pos}:PE X (.Constant (.bool b) j pos) (tC (.bl b)):=λ_ _ _ H _ I h=>Constant_bool ⟨.bl b,H,I,ϱ,h⟩
def c6{j pos}:PE X (.Constant .none j pos) (tC .non):=λ_ _ _ H _ I h=>Constant_none ⟨.non,H,I,ϱ,h⟩
def aD{x j pos}:PE X (.Constant (.str x) j pos) (tC (.str x)):=λ_ _ _ H _ I h=>Calls.Constant_str ⟨.str x,H,I.tok _,⟨_,ϱ⟩,h⟩
def Gl(X:Cx)(x:Str):Prop:=X.env.kindOf x=some .globalImplicit
def jM{E:Ă}{pins:ă}{s:ë}{σ:St}{H:Hp}{x:Str}{u:å}{pos:Pos}{Q:Ă}(I:Inv X pins σ H s)(hg:Gl X x)(hm:X.mg x=some u)(h:Q u s)
  (hd:(x==("__debug__":Str))=false:=by decide):wpAny (model X.prog X.w) X.A (eval (.Name x pos) X.env) Q E s :=
 Calls.Name_function_global I.ok.kind hg (Calls.loadGlobal_global (by rw [I.ok.glob];exact I.mod.glob.keeps I.bk) hm h) hd
def kK{E:Ă}{b:ă}{s:ë}{σ:St}{H:Hp}{x:Str}{u:å}{pos:Pos}{Q:Ă}(I:Inv X b σ H s)(e:Gl X x)(f:X.mg x=none)(g:bootBuiltins x=some u)(h:Q u s)
  (i:x≠"__name__":=by decide)(j:(x==("__debug__":Str))=false:=by decide):wpAny (model X.prog X.w) X.A (eval (.Name x pos) X.env) Q E s:=by
 obtain ⟨l,h1,d⟩:=I.mod.blt
 exact Calls.Name_function_global I.ok.kind e (Calls.loadGlobal_builtin (by rw [I.ok.glob];exact I.mod.glob.keeps I.bk) f (by rw [I.ok.blt];exact h1.keeps I.bk) ((d x i).trans g) h) j
def gC{x:Str}{v:V}{u:å}{pos:Pos}(hg:Gl X x)(hm:X.mg x=some u)(r:RelV v u)(hd:(x==("__debug__":Str))=false:=by decide):PE X (.Name x pos) (tC v) :=
 λ_ _ _ H _ I h=>jM I hg hm ⟨v,H,I,r,h⟩ hd
def vj{x:Str}{v:V}{u:å}{pos:Pos}(hg:Gl X x)(hm:X.mg x=none)(hv:bootBuiltins x=some u)(r:RelV v u)(hn:x≠"__name__":=by decide)(hd:(x==("__debug__":Str))=false:=by decide):PE X (.Name x pos) (tC v) :=
 λ_ _ _ H _ I h=>kK I hg hm hv ⟨v,H,I,r,h⟩ hn hd
variable {a b:á}{ta tb:TE}{pos:Pos}
def PC(X:Cx)(op:CmpOp)(a b:á)(t:TE):Prop :=
 ∀(pins:ă) (s:ë) (σ:St) (H:Hp) (Q:VK),Inv X pins σ H s->t σ H Q ->
  wpAny (model X.prog X.w) X.A (eval a X.env) (λv s₁=>wpAny (model X.prog X.w) X.A (eval b X.env) (λu s₂=>wpAny (model X.prog X.w) X.A (compareOp op v u) (EP X pins σ Q) X.xe s₂) X.xe s₁) X.xe s
inductive XB (Q:Bool->Hp->Prop) (x:V) (H:Hp):Prop|mk c:x=.bl c->Q c H->XB Q x H
def tB(t:TE):TT:=fun σ H Q=>t σ H λx H1=>XB Q x H1
def ip{op:CmpOp}{t:TE}(h:PC X op a b t)(h1:behindInMarks op b=false:=by first | exact nobehind _ ζ ζ | rfl):PT X (.Compare a [op] [b] pos) (tB t):=by
 intro e s σ H Q I j
 refine wpAny_isTrue_Compare1 (thn (h e s σ H _ I j) λv l h1=>thn h1 λu o f=>thn f λc r ⟨x,H1,g,i,q1⟩=>?_) h1
 obtain ⟨d,rfl,q⟩:=q1
 cases i
 exact Ŕ ⟨H1,g,q⟩
def cK{e:á}{t:TE}(h:PE X e t)(j:∀whole,isTrue e X.env whole=(do let v ← whole;standAt e.pos;holding [v] (truthy v)):=by intro _;rfl):PT X e (tB t):=by
 intro b s σ H Q I i
 refine isTrue_plain (thn (h b s σ H _ I i) λv l ⟨x,H1,f,g,q1⟩=>?_) (j _)
 obtain ⟨d,rfl,q⟩:=q1
 cases g
 exact Ŕ ⟨H1,f,q⟩
variable {tA tB':TT}{rest:õ}
def DO(t u:TT):TT:=fun σ H Q=>t σ H λc H1=>if c=true then u σ H1 Q else Q false H1
def tOr(t u:TT):TT:=fun σ H Q=>t σ H λc H1=>if c=true then Q true H1 else u σ H1 Q
def EC(t:TT):TT:=fun σ H Q=>t σ H λc H1=>Q (!c) H1
def fF(d:PT X a tA):PW X (.BoolOp .And [a] pos) tA:=by
 intro g b s σ H Q I h
 refine isTrue_and (thn (d b s σ H Q I h) λc f e=>?_)
 cases c with
 | true=>exact isTrue_and_nil e
 | false=>exact e
def kq(d:PT X a tA):PW X (.BoolOp .Or [a] pos) tA:=by
 intro g b s σ H Q I h
 refine isTrue_or (thn (d b s σ H Q I h) λc f e=>?_)
 cases c with
 | false=>exact isTrue_or_nil e
 | true=>exact e
def gy(i:PT X a tA)(hb:PW X (.BoolOp .And (b::rest) pos) tB'):PW X (.BoolOp .And (a::b::rest) pos) (DO tA tB'):=by
 intro g d s σ H Q I h
 refine isTrue_and (thn (i d s σ H _ I h) λc f ⟨H1,e,q1⟩=>?_)
 cases c with
 | true=>exact hb g d f σ H1 Q e q1
 | false=>exact ⟨H1,e,q1⟩
def pP(i:PT X a tA)(hb:PW X (.BoolOp .Or (b::rest) pos) tB'):PW X (.BoolOp .Or (a::b::rest) pos) (tOr tA tB'):=by
 intro g d s σ H Q I h
 refine isTrue_or (thn (i d s σ H _ I h) λc f ⟨H1,e,q1⟩=>?_)
 cases c with
 | true=>exact ⟨H1,e,q1⟩
 | false=>exact hb g d f σ H1 Q e q1
def io(d:PT X a tA):PT X (.UnaryOp .Not a pos) (EC tA):=by
 intro b s σ H Q I h
 exact isTrue_not (d b s σ H (λc H1=>Q (!c) H1) I h)
inductive XIf (x:V) (P R:Prop):Prop|mk c:x=.bl c->(if c=true then P else R)->XIf x P R
def DN(ta tb:TE):TE:=fun σ H Q=>ta σ H λx H1=>XIf x (tb σ H1 Q) (Q (.bl false) H1)
def EB(ta tb:TE):TE:=fun σ H Q=>ta σ H λx H1=>XIf x (Q (.bl true) H1) (tb σ H1 Q)
def DC(ta:TE):TE:=fun σ H Q=>ta σ H λx H1=>∃c,x=.bl c/\Q (.bl (!c)) H1
def fX{op}{t:TE}(h:PE X a t):PE X (.BoolOp op [a] pos) t:=λpins s σ H Q I hw=>BoolOp_one (h pins s σ H Q I hw)
def gD(i:PE X a ta)(hb:PE X (.BoolOp .And (b::rest) pos) tb):PE X (.BoolOp .And (a::b::rest) pos) (DN ta tb):=by
 intro d s σ H Q I h
 refine BoolOp_and (thn (i d s σ H _ I h) λv f ⟨x,H1,e,g,q1⟩=>?_)
 obtain ⟨c,rfl,q1⟩:=q1
 cases g
 refine Ŕ ?_
 cases c with
 | true=>exact hb d f σ H1 Q e q1
 | false=>exact ⟨.bl false,H1,e,rfl,q1⟩
def Bt(i:PE X a ta)(hb:PE X (.BoolOp .Or (b::rest) pos) tb):PE X (.BoolOp .Or (a::b::rest) pos) (EB ta tb):=by
 intro d s σ H Q I h
 refine BoolOp_or (thn (i d s σ H _ I h) λv f ⟨x,H1,e,g,q1⟩=>?_)
 obtain ⟨c,rfl,q1⟩:=q1
 cases g
 refine Ŕ ?_
 cases c with
 | false=>exact hb d f σ H1 Q e q1
 | true=>exact ⟨.bl true,H1,e,rfl,q1⟩
def Cj(f:PE X a ta):PE X (.UnaryOp .Not a pos) (DC ta):=by
 intro b s σ H Q I h
 refine UnaryOp_ (thn (f b s σ H _ I h) λv g ⟨x,H1,d,e,q1⟩=>?_)
 obtain ⟨c,rfl,q1⟩:=q1
 cases e
 exact not_of (Ŕ ⟨.bl (!c),H1,d,ϱ,q1⟩)
def tIf(t:TT)(ta tb:TE):TE:=fun σ H Q=>t σ H λc H1=>if c=true then ta σ H1 Q else tb σ H1 Q
def rW{c:á}(i:PT X c tA)(j:PE X a ta)(hb:PE X b tb):PE X (.IfExp c a b pos) (tIf tA ta tb):=by
 intro e s σ H Q I h
 refine wpAny_IfExp (thn (i e s σ H _ I h) λd f ⟨H1,g,q1⟩=>?_)
 cases d with
 | true=>exact j e f σ H1 Q g q1
 | false=>exact hb e f σ H1 Q g q1
end
def SqL(K:ä)(H:Hp)(a:é)(xs:à V):Prop :=
 Rd H a (.lst xs) \/
  ∃(o:Obj) (its:ì) (n:Nat),K.lookup a=some o/\o.cls=.type "list"/\o.dict=none/\o.data=.seq its n/\its.size<=sizeLine/\Vals xs its.toList
def SqT(K:ä)(H:Hp)(a:é)(xs:à V):Prop :=
 Rd H a (.tup xs) \/
  ∃(o:Obj) (its:ì) (n:Nat),K.lookup a=some o/\o.cls=.type "tuple"/\o.data=.seq its n/\its.size<=sizeLine/\Vals xs its.toList
def EY:å->Option V
 | .none=>some .non
 | .bool b=>some (.bl b)
 | .int i _=>some (.int i)
 | .str x _=>some (.str x)
 | .bytes b _=>some (.byt b)
 | .float b _=>some (.flt b)
 | .ref a=>some (.ref a)
 | .type n=>some (.ty n)
 | _=>none
def RelV.abs{x:V}{u:å}(r:RelV x u):EY u=some x:=by
 cases x with
 | non=>cases r;rfl
 | bl _=>cases r;rfl
 | int _=>obtain ⟨t,rfl⟩:=r;rfl
 | str _=>obtain ⟨t,rfl⟩:=r;rfl
 | byt _=>obtain ⟨t,rfl⟩:=r;rfl
 | flt _=>obtain ⟨t,rfl⟩:=r;rfl
 | ref _=>cases r;rfl
 | ty _=>cases r;rfl
def RelV.inj{x y:V}{u:å}(r:RelV x u)(q:RelV y u):x=y:=Δ (r.abs.symm.trans q.abs)
theorem Vals.inj:∀{xs ys:à V} {us:ü},Vals xs us->Vals ys us->xs=ys
 | _,_,_,.nil,.nil=>rfl
 | _,_,_,.cons r t,.cons r' t'=>by rw [r.inj r',Vals.inj t t']
section
variable {X:Cx}{pins:ă}{σ:St}{H:Hp}{s:ë}{a:é}{xs ys:à V}
def SqL.of{K:ä}(h:H a=some (.lst xs)):SqL K H a xs:=.inl (.inl h)
def SqT.of{K:ä}(h:H a=some (.tup xs)):SqT K H a xs:=.inl (.inl h)
def Inv.list(I:Inv X pins σ H s)(h:SqL X.K H a xs):∃its:ü,Vals xs its/\PlainL s.heap a its.toArray/\xs.length<=sizeLine:=by
 rcases h with h | ⟨o,its,n,hk,hc,hd,hs,hz,r⟩
 .obtain ⟨z,its,n,r,e⟩:=h.ok I.hok
  exact ⟨its,r,⟨_,n,e,ϱ,ϱ,ϱ⟩,z⟩
 .refine ⟨its.toList,r,⟨o,n,I.kIn a o hk,hc,hd,by simpa using hs⟩,?_⟩
  have e:=r.length
  simp only [Array.length_toList] at e
  omega
def Inv.tuple(I:Inv X pins σ H s)(h:SqT X.K H a xs):∃its:ü,Vals xs its/\IsTup s.heap a its.toArray/\xs.length<=sizeLine:=by
 rcases h with h | ⟨o,its,n,hk,hc,hs,hz,r⟩
 .obtain ⟨z,its,r,p⟩:=h.ok I.hok
  exact ⟨its,r,p,z⟩
 .refine ⟨its.toList,r,⟨o,I.kIn a o hk,hc,n,by simpa using hs⟩,?_⟩
  have e:=r.length
  simp only [Array.length_toList] at e
  omega
def Inv.list_inj(I:Inv X pins σ H s)(h:SqL X.K H a xs)(h':SqL X.K H a ys):xs=ys:=by
 obtain ⟨f,r,⟨o,n,e,_,_,d⟩,_⟩:=I.list h
 obtain ⟨b,j,⟨l,q,g,_,_,i⟩,_⟩:=I.list h'
 rw [e] at g;cases g
 rw [d] at i
 injection i with d1 _
 have:f=b:=by simpa using congrArg Array.toList d1
 subst this
 exact r.inj j
def Inv.tuple_inj(I:Inv X pins σ H s)(h:SqT X.K H a xs)(h':SqT X.K H a ys):xs=ys:=by
 obtain ⟨f,r,⟨o,e,_,n,d⟩,_⟩:=I.tuple h
 obtain ⟨b,j,⟨l,g,_,q,i⟩,_⟩:=I.tuple h'
 rw [e] at g;cases g
 rw [d] at i
 injection i with d1 _
 have:f=b:=by simpa using congrArg Array.toList d1
 subst this
 exact r.inj j
end
abbrev Cx.wish(X:Cx)(E:Ă):Cx:={X with xe:=E}
abbrev Cx.nox(X:Cx):Cx:=X.wish λ_ _=>False
def Cx.Ok.wish{X:Cx}(ok:X.Ok)(E:Ă):(X.wish E).Ok :=
 ⟨ok.mod,ok.kind,ok.glob,ok.blt,ok.above,ok.inj,ok.has,ok.cab,ok.hd,ok.frames,ok.stk,ok.exf,ok.bs,ok.bsz,ok.noex,ok.exfs,ok.funs,ok.frf⟩
def Cx.Ok.unwish{X:Cx}{E:Ă}(ok:(X.wish E).Ok):X.Ok :=
 ⟨ok.mod,ok.kind,ok.glob,ok.blt,ok.above,ok.inj,ok.has,ok.cab,ok.hd,ok.frames,ok.stk,ok.exf,ok.bs,ok.bsz,ok.noex,ok.exfs,ok.funs,ok.frf⟩
section
variable {X:Cx}{pins:ă}{σ:St}{H:Hp}{s:ë}{E:Ă}
def Inv.wish(I:Inv X pins σ H s)(E:Ă):Inv (X.wish E) pins σ H s:=⟨I.ok.wish E,I.os,I.bare,I.base,I.loc,I.cell,I.free,I.freeC,I.pin,I.hok,I.len⟩
def Inv.unwish(I:Inv (X.wish E) pins σ H s):Inv X pins σ H s:=⟨I.ok.unwish,I.os,I.bare,I.base,I.loc,I.cell,I.free,I.freeC,I.pin,I.hok,I.len⟩
def SP.unwish{D:Ends}{f:Flow}{s':ë}(h:SP (X.wish E) pins D f s'):SP X pins D f s':=by
 cases f with
 | next=>obtain ⟨b,d,I,q⟩:=h;exact ⟨b,d,I.unwish,q⟩
 | brk=>obtain ⟨b,d,I,q⟩:=h;exact ⟨b,d,I.unwish,q⟩
 | cont=>obtain ⟨b,d,I,q⟩:=h;exact ⟨b,d,I.unwish,q⟩
 | ret u=>obtain ⟨v,b,d,I,r,q⟩:=h;exact ⟨v,b,d,I.unwish,r,q⟩
def PSs.nox{st:à â}{t:TS}(h:PSs X.nox st t):PSs X st t:=λpins s σ H D I hw =>
 ū (h pins s σ H D (I.wish _) hw) (λ_ _ q=>q.unwish) λ_ _ z=>False.elim z
end
section
variable {X:Cx}{st:â}{rest:à â}{t u:TS}{e:á}{te:TE}{pos:Pos}
def DD:TS:=λD σ H=>D.nx σ H
def Dz(t u:TS):TS:=λD σ H=>t {D with nx:=u D} σ H
def aB:PSs X [] DD:=λ_ _ σ H _ I h=>Ē ⟨σ,H,I,h⟩
def ah(h1:PS X st t)(j:PSs X rest u):PSs X (st::rest) (Dz t u):=by
 intro b s σ H D I h
 refine wpAny_execs_cons (thn (h1 b s σ H {D with nx:=u D} I h) λf i q=>?_)
 cases f with
 | next =>
  obtain ⟨d,e,g,q⟩:=q
  exact j b i d e D g q
 | ret v=>exact q
 | brk=>exact q
 | cont=>exact q
def aj(h1:PS X st t):PSs X [st] t:=by
 intro b s σ H D I h
 refine wpAny_execs_cons (thn (h1 b s σ H D I h) λf d q=>?_)
 cases f with
 | next=>exact Ē q
 | ret v=>exact q
 | brk=>exact q
 | cont=>exact q
def Inv.quiet{pins:ă}{σ:St}{H:Hp}{s:ë}(I:Inv X pins σ H s):interactive X.env=false:=by simp [interactive,I.ok.kind]
def DI(te:TE):TS:=λD σ H=>te σ H λ_ H1=>D.nx σ H1
def aQ(f:PE X e te)(g:swapsWith e none pos.line X.env=pure false:=by rfl):PS X (.Expr e pos) (DI te):=by
 intro b s σ H D I h
 exact wpAny_Expr_any (thn (f b s σ H _ I h) λv i ⟨x,H1,d,j,q1⟩=>⟨σ,H1,d,q1⟩) I.quiet g
def EA(te:TE):TS:=λD σ H=>te σ H D.rt
def aw(g:PE X e te):PS X (.Return (some e) pos) (EA te):=by
 intro b s σ H D I h
 exact wpAny_Return_some (thn (g b s σ H _ I h) λv i ⟨x,H1,d,f,q1⟩=>⟨x,σ,H1,d,f,q1⟩)
def DA:TS:=λD _ H=>D.rt .non H
def vd:PS X (.Return none pos) DA:=λ_ _ σ H _ I h=>wpAny_Return_none ⟨.non,σ,H,I,ϱ,h⟩
def EE(c:TT)(t u:TS):TS:=λD σ H=>c σ H λb H1=>if b=true then t D σ H1 else u D σ H1
def aJ{c:á}{a b:à â}{tc:TT}(i:PT X c tc)(j:PSs X a t)(hb:PSs X b u):PS X (.If c a b pos) (EE tc t u):=by
 intro e s σ H D I h
 refine wpAny_If (thn (i e s σ H _ I h) λd f ⟨H1,g,q1⟩=>?_)
 cases d with
 | true=>exact j e f σ H1 D g q1
 | false=>exact hb e f σ H1 D g q1
def BP:TS:=λ_ _ _=>False
def aH{sts:à â}:PSs X sts BP:=λ_ _ _ _ _ _ h=>h.elim
end
abbrev TG:=V->St->Hp->(St->Hp->Prop)->Prop
abbrev TGs:=à V->St->Hp->(St->Hp->Prop)->Prop
def PG(X:Cx)(target:á)(t:TG):Prop :=
 ∀(pins:ă) (s:ë) (σ:St) (H:Hp) (v:V) (u:å) (Q:St->Hp->Prop),Inv X pins σ H s->RelV v u->t v σ H Q ->
  wpAny (model X.prog X.w) X.A (assign target X.env u) (λ_ s'=>∃σ' H',Inv X pins σ' H' s'/\Q σ' H') X.xe s
def PGs(X:Cx)(ts:õ)(t:TGs):Prop :=
 ∀(pins:ă) (s:ë) (σ:St) (H:Hp) (vs:à V) (us:ü) (Q:St->Hp->Prop),Inv X pins σ H s->Vals vs us->t vs σ H Q ->
  wpAny (model X.prog X.w) X.A (assignInOrder ((assignEach ts X.env).map (·.2)) us) (λ_ s'=>∃σ' H',Inv X pins σ' H' s'/\Q σ' H') X.xe s
abbrev Dl:=V->V->V->Hp->(Hp->Prop)->Prop
def Ev(X:Cx)(t:Dl):Prop :=
 ∀(pins:ă) (s:ë) (σ:St) (H:Hp) (o i v:V) (ov iv u:å) (Q:Hp->Prop),Inv X pins σ H s->RelV o ov->RelV i iv->RelV v u->t o i v H Q ->
  wpAny (model X.prog X.w) X.A (setItem ov iv u) (λ_ s'=>∃H',Inv X pins σ H' s'/\Q H') X.xe s
section
variable {X:Cx}{pos:Pos}
def oG(i:Nat):TG:=λv σ H Q=>Q (σ.set i (some v)) H
def bU{i:Nat}{x:Str}(e:X.N.Nodup)(f:X.N[i]?=some x)(g:Loc X.env.scope x)(hf:X.fn x=true\/X.env.scope.names.lookup x=some .local:=by first | exact .inl rfl | exact .inr rfl | assumption):PG X (.Name x pos) (oG i):=by
 intro b s σ H v u Q I r h
 exact wpAny_assign_Name (mE I e f g r (λj d=>⟨_,H,d,h⟩) hf)
def EU:TGs:=λvs σ H Q=>vs=[]/\Q σ H
inductive XGC (t:TG) (u:TGs) (vs:à V) (σ:St) (H:Hp) (Q:St->Hp->Prop):Prop|mk v r:vs=v::r->(t v σ H fun σ' H'=>u r σ' H' Q)->XGC t u vs σ H Q
def Em(t:TG)(u:TGs):TGs:=λvs σ H Q=>XGC t u vs σ H Q
def ve:PGs X [] EU:=by
 intro b s σ H vs d Q I r h
 obtain ⟨e,h⟩:=h
 subst e
 cases r
 exact assignInOrder_nil ⟨σ,H,I,h⟩
def ir{e:á}{es:õ}{t:TG}{u:TGs}(h1:PG X e t)(j:PGs X es u)
  (l:(assignEach (e::es) X.env).map (·.2)=assign e X.env::(assignEach es X.env).map (·.2):=by rfl):PGs X (e::es) (Em t u):=by
 intro b s σ H vs o Q I r h
 obtain ⟨v,vr,d,h⟩:=h
 subst d
 cases r with
 | cons r rr =>
  rw [l]
  refine assignInOrder_cons (thn (h1 b s σ H _ _ _ I r h) λ_ f ⟨g,H1,i,q1⟩=>?_)
  exact j b f g H1 _ _ Q i rr q1
inductive XGT (K:ä) (n:Nat) (t:TGs) (v:V) (σ:St) (H:Hp) (Q:St->Hp->Prop):Prop|mk a xs:v=.ref a->SqT K H a xs->xs.length=n->t xs σ H Q->XGT K n t v σ H Q
def ES(K:ä)(n:Nat)(t:TGs):TG:=λv σ H Q=>XGT K n t v σ H Q
def xQ{es:õ}{k:Nat}{t:TGs}{n:Nat}(F:X.calm=true)(h:PGs X es t)
  (G:(assignEach es X.env).length=n:=by rfl)(g:(assignEach es X.env).findIdx? (·.1)=none:=by rfl):PG X (.Tuple es k pos) (ES X.K n t):=by
 intro d s σ H v u Q I r f
 obtain ⟨a,j,l,q,w,f⟩:=f
 subst l
 cases r
 obtain ⟨x,i,y,J⟩:=I.tuple q
 refine assign_Tuple_tuple (I.ok.hd F) y (by simp [G,← w,i.length]) g λC D=>?_
 have z:Inv X d σ H {s with heap:=C}:=I.kept (t':=s.toks) λb o e=>D b o (Φ (η e)) e
 exact h d _ σ H j _ Q z (by simpa using i) f
def ET(to ti:TE)(t:Dl):TG:=λv σ H Q=>to σ H λo H1=>ti σ H1 λi H2=>t o i v H2 λH3=>Q σ H3
def Ch{o i:á}{d e:TE}{t:Dl}(F:PE X o d)(G:PE X i e)(J:Ev X t)
  (K:∀v,assign (.Subscript o i pos) X.env v=(do
   let ov ← holding [v] (eval o X.env)
   let iv ← holding [v,ov] (eval i X.env)
   standAt pos
   holding [v,ov,iv] (setItem ov iv v)
   release [v,ov,iv] []):=by intro _;rfl):PG X (.Subscript o i pos) (ET d e t):=by
 intro b s σ H v u Q I r h
 rw [K]
 refine ε (Ŝ (thn (F b s σ H _ I h) λov f ⟨x,H1,g,j,q1⟩=>?_))
 refine ε (Ŝ (thn (G b f σ H1 _ g q1) λiv l ⟨y,q,w,z,q2⟩=>?_))
 refine ε (wpAny_standAt (ε (Ŝ (thn (J b l σ q x y v ov iv u _ w j z r q2) λ_ L ⟨C,D,q3⟩=>?_))))
 exact wpAny_release ⟨σ,C,D,q3⟩
def xn(te:TE)(g:TG):TS:=λD σ H=>te σ H λx H1=>g x σ H1 D.nx
def xO{d e:á}{te:TE}{g:TG}(l:PE X e te)(o:PG X d g)(r:swapsWithSole [d] e pos.line X.env=pure false:=by rfl)(hw:swappedStores [d] e X.env=pure none:=by rfl)
  (h1:(assignEach [d] X.env).map (·.2)=[assign d X.env]:=by rfl):PS X (.Assign [d] e pos) (xn te g):=by
 intro b s σ H D I h
 refine wpAny_Assign_stores (thn (l b s σ H _ I h) λv f ⟨x,H1,i,j,q1⟩=>?_) r hw
 rw [h1]
 exact thn (o b f σ H1 x v _ i j q1) λ_ u q=>q
def aG{i:Nat}{x:Str}{e:á}{te:TE}{b:Pos}(l:X.N.Nodup)(o:X.N[i]?=some x)(q:Loc X.env.scope x)(r:PE X e te)(u:swapsWith e (some (.Name x b)) pos.line X.env=pure false:=by rfl)(hf:X.fn x=true\/X.env.scope.names.lookup x=some .local:=by first | exact .inl rfl | exact .inr rfl | assumption) :
  PS X (.Assign [.Name x b] e pos) (xn te (oG i)):=by
 intro d s σ H D I h
 refine wpAny_Assign_Name (thn (r d s σ H _ I h) λv w ⟨y,H1,f,g,q1⟩=>?_) u
 exact mE f l o q g (λz j=>⟨_,H1,j,q1⟩) hf
end
section
variable {X:Cx}{pos:Pos}
def BN(c:TT)(tb:TS):TS:=λD σ H=>∃W:Nat->St->Hp->Prop,(∃m,W m σ H)/\∀m σ H,W m σ H ->
 c σ H λb H1=>if b=true then ∃N:St->Hp->Prop,(∀σ' H',N σ' H'->∃m',m'<m/\W m' σ' H')/\tb {D with nx:=N,ct:=N,bk:=D.nx} σ H1 else D.nx σ H1
def xK{c:á}{body:à â}{tc:TT}{tb:TS}(C:PassesOwn (model X.prog X.w) X.A X.env X.xe)(P:PT X c tc)(hb:PSs X body tb):PS X (.While c body [] pos) (BN tc tb):=by
 intro d s σ H D I h
 obtain ⟨W,⟨m0,F⟩,e⟩:=h
 refine wpAny_While (codeAny_whileLoop (λn G=>∃σ' H',Inv X d σ' H' G/\W n σ' H') ?_ m0 ⟨σ,H,I,F⟩)
 rintro n K ⟨j,H1,L,O⟩
 refine ħ C (thn (P d K j H1 _ L (e n j H1 O)) λb J ⟨y,z,q2⟩=>?_)
 cases b with
 | true =>
  obtain ⟨N,x,q2⟩:=q2
  rw [Ź rfl]
  refine ħ C (thn (hb d J j y _ z q2) λf Q q3=>?_)
  cases f with
  | next =>
   obtain ⟨g,i,l,o⟩:=q3
   obtain ⟨q,r,u⟩:=x g i o
   exact ⟨q,r,g,i,l,u⟩
  | cont =>
   obtain ⟨g,i,l,o⟩:=q3
   obtain ⟨q,r,u⟩:=x g i o
   exact ⟨q,r,g,i,l,u⟩
  | brk=>exact q3
  | ret v=>exact q3
 | false =>
  rw [ž Ÿ]
  exact Ē ⟨j,y,z,q2⟩
end
structure It where
 go:Nat->Hp->Prop
 yld:Nat->Hp->V->Hp->Prop
 stop:Nat->Hp->Prop
def tj(X:Cx)(pins:ă)(H:Hp)(b:é):Prop :=
 H b=none/\b≠X.env.locals/\b∉X.fs/\(b∈X.ex\/X.s₀.heap.objs.size<=b)/\(∀x c,X.env.cells.lookup x=some c->c≠b)/\∀p∈X.pn++pins,p.1≠b
def Inv.fpOk{X:Cx}{d:ă}{σ:St}{H H':Hp}{s:ë}{b:é}(I:Inv X d σ H s)(hb:s.heap.objs.size<=b)(g:H' b=none):tj X d H' b:=by
 refine ⟨g,į (ŷ I.lt hb),I.nofs hb,.inr (Λ I.sz hb),λx c e z=>?_,λp f z=>?_⟩
 .obtain ⟨v,q⟩:=I.cell x c e
  exact absurd (ŷ q.lt (by rw [z];exact hb)) (ņ _)
 .exact absurd (ŷ (η (I.pin p f).1) (by rw [z];exact hb)) (ņ _)
structure wO(P:ê)(w:è)(K:ä)(tg:á)(J:It)(fp:û)(it:é)(tn:Nat->ã->Prop):Prop where
 mem:it∈fp
 obj:∀i h,tn i h->∀b∈fp,∃o,h.get? b=some o/\∀v,o.data≠.cell v
 keep:∀i h h',tn i h->(∀b∈fp,∀o,h.get? b=some o->h'.get? b=some o)->tn i h'
 item:∀(X:Cx),X.prog=P->X.w=w->X.K=K->X.calm=true->∀(i:Nat) (pins:ă) (s:ë) (σ:St) (H:Hp) (E:Ă),Inv X pins σ H s->(∀b∈fp,tj X pins H b)->tn i s.heap->J.go i H ->
  wpAny (model P w) X.A (pyNext (.ref it)) (λr s1=>∃u,r=some u /\
   wpAny (model P w) X.A (letOwnedTupleGo tg (.ref it) u) (λ_ s2=>∃x H',Inv X pins σ H' s2/\RelV x u/\J.yld i H x H'/\tn (i+1) s2.heap/\∀b∈fp,H' b=none) E s1) E s
 done:∀(X:Cx),X.prog=P->X.w=w->X.K=K->X.calm=true->∀(i:Nat) (pins:ă) (s:ë) (σ:St) (H:Hp) (E:Ă),Inv X pins σ H s->(∀b∈fp,tj X pins H b)->tn i s.heap->J.stop i H ->
  wpAny (model P w) X.A (pyNext (.ref it)) (λr s1=>r=none/\Inv X pins σ H s1) E s
 self:∀(A:æ) (i:Nat) (s:ë) (Q:Ă) (E:Ă),tn i s.heap->Q (.ref it) s->wpAny (model P w) A (pyIter (.ref it)) Q E s
abbrev TI:=St->Hp->(It->Hp->Prop)->Prop
def PIE(X:Cx)(pins:ă)(σ:St)(tg:á)(R:It->Hp->Prop)(itv:å)(s2:ë):Prop :=
 ∃(it:é) (fp:û) (tn:Nat->ã->Prop) (J:It) (H':Hp),itv=.ref it/\Inv X pins σ H' s2/\wO X.prog X.w X.K tg J fp it tn/\tn 0 s2.heap/\(∀b∈fp,tj X pins H' b)/\R J H'
def PI(X:Cx)(tg iter:á)(wi:TI):Prop :=
 ∀(pins:ă) (s:ë) (σ:St) (H:Hp) (R:It->Hp->Prop),Inv X pins σ H s->wi σ H R ->
  wpAny (model X.prog X.w) X.A (eval iter X.env) (λv s1=>wpAny (model X.prog X.w) X.A (pyIter v) (PIE X pins σ tg R) X.xe s1) X.xe s
def sH{M:Model}{A:æ}{E:Ă}{s:ë}{d:á}{it:é}{u:å}{o:Obj}{n:String}{vs:ì}{Q:Unit->ë->Prop}(e:s.heap.get? it=some o)(f:o.cls=.type n)(g:o.data=.fields vs)
  (i:["enumerate","zip","dict_itemiterator","dict_reverseitemiterator","odict_iterator","itertools.zip_longest","itertools.pairwise"].contains n=false)(b:Q () s):wpAny M A (letOwnedTupleGo d (.ref it) u) Q E s:=by
 unfold letOwnedTupleGo
 cases d<;>first
  | exact π b
  | (cases u<;>first
    | exact π b
    | (refine ε (wpAny_load e ?_)
       rw [f,g]
       show wpAny M A (if (["enumerate","zip","dict_itemiterator","dict_reverseitemiterator","odict_iterator","itertools.zip_longest","itertools.pairwise"].contains n&&vs[0]?==some (rawInt _))=true then _ else _) Q E s
       rw [ž (by intro h;rw [i,Bool.false_and] at h;cases h)]
       exact π b))
def Itl(K:ä)(a:é):It :=
 ⟨λi H=>∃xs x,SqL K H a xs/\xs[i]?=some x,λi H x H'=>H'=H/\∀xs,SqL K H a xs->xs[i]?=some x,λi H=>∃xs,SqL K H a xs/\xs.length<=i⟩
def Itt(K:ä)(a:é):It :=
 ⟨λi H=>∃xs x,SqT K H a xs/\xs[i]?=some x,λi H x H'=>H'=H/\∀xs,SqT K H a xs->xs[i]?=some x,λi H=>∃xs,SqT K H a xs/\xs.length<=i⟩
def Itr(lo:Int)(n:Nat):It:=⟨λi _=>i<n,λi H x H'=>H'=H/\x=.int (lo+i),λi _=>n<=i⟩
def vQ{P:ê}{w:è}{K:ä}{tg:á}(a it:é):wO P w K tg (Itl K a) [it] it (λi h=>h.IsListIter it a i) where
 mem:=by simp
 obj:=λi h st b hb=>by
  have e:b=it:=by simpa using hb
  subst e
  obtain ⟨o,e,c,d⟩:=st
  exact ⟨o,e,λv z=>by rw [d] at z;cases z⟩
 keep:=λi h h' st k=>st.at λo e=>k it (by simp) o e
 item:=by
  intro X J L O U i f s σ H E I hf st Q
  subst J L O
  obtain ⟨W,x,j,l⟩:=Q
  obtain ⟨q,r,p,Y⟩:=I.list j
  obtain ⟨u,Z,ru⟩:=r.get l
  obtain ⟨y,C,f2,D,F,G⟩:=hf it (by simp)
  refine wpAny_pyNext_list_item st p.isList (x:=u) (by simpa using Z) λh' g sb=>?_
  have I1:Inv X f σ H {s with heap:=h'}:=I.turned (t':=s.toks) (λb o hb e=>(sb.2 b hb).trans e) y C D F G
  obtain ⟨o,e,c,d⟩:=id g
  exact ⟨u,ϱ,sH (s:={s with heap:=h'}) e c d ζ ⟨x,H,I1,ru,⟨ϱ,λys hy=>by rw [I.list_inj hy j];exact l⟩,g,λb hb=>(hf b hb).1⟩⟩
 done:=by
  intro X J L O U i f s σ H E I hf st Q
  subst J L O
  obtain ⟨W,j,l⟩:=Q
  obtain ⟨q,r,p,Y⟩:=I.list j
  obtain ⟨y,C,f2,D,F,G⟩:=hf it (by simp)
  have hl:=r.length
  exact wpAny_pyNext_list_end (I.ok.hd U) st p.isList (by simp;omega) λh' eb=>⟨ϱ,I.turned (t':=s.toks) (λb o hb e=>eb b o hb e) y C D F G⟩
 self:=λ_ _ _ _ _ st h=>wpAny_pyIter_listiter st h
def tD{P:ê}{w:è}{K:ä}{tg:á}(a it:é):wO P w K tg (Itt K a) [it] it (λi h=>h.IsTupleIter it a i) where
 mem:=by simp
 obj:=λi h st b hb=>by
  have e:b=it:=by simpa using hb
  subst e
  obtain ⟨o,e,c,d⟩:=st
  exact ⟨o,e,λv z=>by rw [d] at z;cases z⟩
 keep:=λi h h' st k=>st.at λo e=>k it (by simp) o e
 item:=by
  intro X J L O U i f s σ H E I hf st Q
  subst J L O
  obtain ⟨W,x,l,q⟩:=Q
  obtain ⟨g,r,p,Y⟩:=I.tuple l
  obtain ⟨u,Z,ru⟩:=r.get q
  obtain ⟨y,C,f2,D,F,G⟩:=hf it (by simp)
  refine wpAny_pyNext_tuple_item st (show s.heap.IsTuple a g.toArray from p) (x:=u) (by simpa using Z) λh' j sb=>?_
  have I1:Inv X f σ H {s with heap:=h'}:=I.turned (t':=s.toks) (λb o hb e=>(sb.2 b hb).trans e) y C D F G
  obtain ⟨o,e,c,d⟩:=id j
  exact ⟨u,ϱ,sH (s:={s with heap:=h'}) e c d ζ ⟨x,H,I1,ru,⟨ϱ,λys hy=>by rw [I.tuple_inj hy l];exact q⟩,j,λb hb=>(hf b hb).1⟩⟩
 done:=by
  intro X J L O U i f s σ H E I hf st Q
  subst J L O
  obtain ⟨W,l,q⟩:=Q
  obtain ⟨g,r,p,Y⟩:=I.tuple l
  obtain ⟨y,C,f2,D,F,G⟩:=hf it (by simp)
  have hl:=r.length
  exact wpAny_pyNext_tuple_end (I.ok.hd U) st (show s.heap.IsTuple a g.toArray from p) (by simp;omega) λh' eb=>⟨ϱ,I.turned (t':=s.toks) (λb o hb e=>eb b o hb e) y C D F G⟩
 self:=λ_ _ _ _ _ st h=>wpAny_pyIter_tupleiter st h
def tE{P:ê}{w:è}{K:ä}{U:á}(it:é)(lo:Int)(n:Nat):wO P w K U (Itr lo n) [it] it (λi h=>IsRangeIter h it (lo+(i:Nat)*1) ((n:Int)-(i:Nat)) 1) where
 mem:=by simp
 obj:=λi h st b hb=>by
  have e:b=it:=by simpa using hb
  subst e
  exact ⟨_,st,λv z=>by
   have z':Data.fields _=Data.cell v:=z
   cases z'⟩
 keep:=λi h h' st k=>k it (by simp) _ st
 item:=by
  intro X u x y C i d s σ H E I hf st D
  subst u x y
  obtain ⟨g,j,G,l,q,r⟩:=hf it (by simp)
  have W:=Walks.range (prog:=X.prog) (w:=X.w) (I.ok.hd C) it lo 1 n
  refine W.item i s _ _ D st λv h' F L f O=>?_
  obtain ⟨t,rfl⟩:=L
  have J:Inv X d σ H {s with heap:=h',toks:=F}:=I.turned (λb o hb e=>O b o (by simpa using hb) e) g j l q r
  refine ⟨_,ϱ,sH (s:={s with heap:=h',toks:=F}) (n:="range_iterator") f rfl rfl ζ ⟨.int (lo+i),H,J,⟨t,?_⟩,⟨ϱ,ϱ⟩,f,λb hb=>(hf b hb).1⟩⟩
  rw [Int.mul_one]
 done:=by
  intro X u x y C i d s σ H E I hf st D
  subst u x y
  obtain ⟨g,j,G,l,q,r⟩:=hf it (by simp)
  exact wpAny_pyNext_range_end (I.ok.hd C) st (by have:n<=i:=D;omega) λh' Q=>⟨ϱ,I.turned (t':=s.toks) (λb o hb e=>Q b o hb e) g j l q r⟩
 self:=λ_ _ _ _ _ st h=>wpAny_pyIter_rangeiter st h
section
variable {X:Cx}{tg:á}
inductive XIL (K:ä) (R:It->Hp->Prop) (x:V) (H:Hp):Prop|mk a:x=.ref a->(∃xs,SqL K H a xs)->R (Itl K a) H->XIL K R x H
def Ek(K:ä)(tl:TE):TI:=fun σ H R=>tl σ H λx H1=>XIL K R x H1
inductive XIT (K:ä) (R:It->Hp->Prop) (x:V) (H:Hp):Prop|mk a:x=.ref a->(∃xs,SqT K H a xs)->R (Itt K a) H->XIT K R x H
def EQ(K:ä)(tl:TE):TI:=fun σ H R=>tl σ H λx H1=>XIT K R x H1
def bJ{l:á}{i:TE}(w:PE X l i):PI X tg l (Ek X.K i):=by
 intro d s σ H R I h
 refine thn (w d s σ H _ I h) λv f ⟨x,H1,g,u,q1⟩=>?_
 obtain ⟨a,e,⟨y,j⟩,q⟩:=q1
 subst e
 cases u
 obtain ⟨r,z,p,C⟩:=g.list j
 refine wpAny_pyIter_list p.isList ?_
 refine ⟨f.heap.objs.size,[f.heap.objs.size],_,_,H1,ϱ,g.kept (t':=f.toks) λb o e=>ρ _ e,vQ a _,⟨_,ψ _ rfl,ϱ,ϱ⟩,λb hb=>?_,q⟩
 have e:b=f.heap.objs.size:=by simpa using hb
 subst e
 exact g.fpOk (ι _) (g.hok.fresh (ι _))
def Cf{l:á}{j:TE}(w:PE X l j):PI X tg l (EQ X.K j):=by
 intro f s σ H R I h
 refine thn (w f s σ H _ I h) λv d ⟨x,H1,g,u,q1⟩=>?_
 obtain ⟨a,e,⟨y,r⟩,q⟩:=q1
 subst e
 cases u
 obtain ⟨i,z,p,C⟩:=g.tuple r
 refine wpAny_pyIter_tuple (show d.heap.IsTuple a i.toArray from p) ?_
 refine ⟨d.heap.objs.size,[d.heap.objs.size],_,_,H1,ϱ,g.kept (t':=d.toks) λb o e=>ρ _ e,tD a _,⟨_,ψ _ rfl,ϱ,ϱ⟩,λb hb=>?_,q⟩
 have e:b=d.heap.objs.size:=by simpa using hb
 subst e
 exact g.fpOk (ι _) (g.hok.fresh (ι _))
def rQ{f:ă}{σ:St}{H:Hp}{s:ë}{R:It->Hp->Prop}{E:Ă}{lo d:Int}{t u v:Tok}{h:Nat}(I:Inv X f σ H s)(h1:-(2 ^ 62)<=lo)(l:lo<2 ^ 62)(r:-(2 ^ 62)<=d)(x:d<2 ^ 62)
  (q:R (Itr lo (d-lo).toNat) H):wpAny (model X.prog X.w) X.A (pyIter (.ref s.heap.objs.size)) (PIE X f σ tg R) E {s with heap:=s.heap.push {cls:=.type "range",data:=.fields #[.int lo t,.int d u,.int 1 v]},toks:=h}:=by
 refine wpAny_pyIter_range (IsRange.new ..) (small_one h1 l r x) ?_
 have g:Inv X f σ H {s with heap:=s.heap.push {cls:=.type "range",data:=.fields #[.int lo t,.int d u,.int 1 v]},toks:=h}:=I.kept λb o e=>ρ _ e
 refine ⟨(s.heap.push {cls:=.type "range",data:=.fields #[.int lo t,.int d u,.int 1 v]}).objs.size,[(s.heap.push {cls:=.type "range",data:=.fields #[.int lo t,.int d u,.int 1 v]}).objs.size],_,_,H,ϱ,
  g.kept (t':=h) λb o e=>ρ _ e,tE _ lo (d-lo).toNat,?_,λb hb=>?_,q⟩
 .have i:lo+((0:Nat):Int)*1=lo:=by simp
  have j:(((d-lo).toNat:Nat):Int)-((0:Nat):Int)=Builtin.Range.rangeSize lo d 1:=by rw [rangeSize_one];split<;>omega
  show IsRangeIter _ _ (lo+((0:Nat):Int)*1) ((((d-lo).toNat:Nat):Int)-((0:Nat):Int)) 1
  rw [i,j]
  exact ψ _ rfl
 .have e:b=(s.heap.push {cls:=.type "range",data:=.fields #[.int lo t,.int d u,.int 1 v]}).objs.size:=by simpa using hb
  subst e
  exact g.fpOk (ι _) (g.hok.fresh (ι _))
def Ej(ta:TA):TI:=fun σ H R=>ta σ H λvs H1=>∃j:Int,vs=[.int j]/\-(2 ^ 62)<=j/\j<2 ^ 62/\R (Itr 0 j.toNat) H1
def Ei(ta:TA):TI:=fun σ H R=>ta σ H λvs H1=>∃i j:Int,vs=[.int i,.int j]/\(-(2 ^ 62)<=i/\i<2 ^ 62/\-(2 ^ 62)<=j/\j<2 ^ 62)/\R (Itr i (j-i).toNat) H1
def cX{a:á}{ta:TA}{p pos:Pos}(g:Gl X "range")(i:X.mg "range"=none)(l:PA X [a] ta)(o:starEach [a] X.env=[(false,eval a X.env)]:=by rfl):PI X tg (.Call (.Name "range" p) [a] [] pos) (Ej ta):=by
 intro b s σ H R I h
 refine Call_ (kK I g i boot_range (PyProof.Rows.callWith_type1 (thn (l pos b s σ H _ I h) λu w ⟨vs,H1,d,f,q1⟩=>?_) o rfl))
 obtain ⟨j,e,q1,q2,q⟩:=q1
 subst e
 cases f with
 | cons r rr =>
  cases rr
  obtain ⟨t,rfl⟩:=r
  exact call_range_1 (rQ d ω ω q1 q2 (by simpa using q))
def v9{a b:á}{ta:TA}{p pos:Pos}(o:Gl X "range")(u:X.mg "range"=none)(w:PA X [a,b] ta)(x:starEach [a,b] X.env=[(false,eval a X.env),(false,eval b X.env)]:=by rfl)(f:starEach [b] X.env=[(false,eval b X.env)]:=by rfl) :
  PI X tg (.Call (.Name "range" p) [a,b] [] pos) (Ei ta):=by
 intro d s σ H R I h
 refine Call_ (kK I o u boot_range (PyProof.Rows.callWith_type1 (thn (w pos d s σ H _ I h) λz C ⟨vs,H1,g,l,q1⟩=>?_) (by rw [x,f]) (by rw [f];rfl)))
 obtain ⟨i,j,e,⟨q1,q2,q3,q4⟩,q⟩:=q1
 subst e
 cases l with
 | cons r rr =>
  cases rr with
  | cons r' rr =>
   cases rr
   obtain ⟨t,rfl⟩:=r
   obtain ⟨y,rfl⟩:=r'
   exact call_range_2 (rQ g q1 q2 q3 q4 q)
def EF(wi:TI)(g:TG)(tb:TS):TS:=λD σ H=>wi σ H λJ H1=>∃W:Nat->Nat->St->Hp->Prop,(∃m,W 0 m σ H1)/\∀i m σ H,W i m σ H ->
 (J.stop i H/\D.nx σ H)\/(J.go i H/\∃N:St->Hp->Prop,(∀σ' H',N σ' H'->∃m',m'<m/\W (i+1) m' σ' H')/\∀x H',J.yld i H x H'->g x σ H' fun σ2 H2=>tb {D with nx:=N,ct:=N,bk:=D.nx} σ2 H2)
def nO(fp:û)(h:ã):ă:=fp.filterMap λb=>(h.get? b).map λo=>(b,o)
def gF{fp:û}{h:ã}{b:é}{o:Obj}(hb:b∈fp)(e:h.get? b=some o):(b,o)∈nO fp h:=ė.mpr ⟨b,hb,by rw [e];rfl⟩
def wr{d:û}{h:ã}{p:Addr×Obj}(g:p∈nO d h):p.1∈d/\h.get? p.1=some p.2:=by
 obtain ⟨b,hb,e⟩:=ė.mp g
 cases q:h.get? b with
 | none=>rw [q] at e;cases e
 | some o =>
  rw [q] at e
  have f:(b,o)=p:=Δ e
  subst f
  exact ⟨hb,q⟩
def Inv.pinned{pins:ă}{σ:St}{H:Hp}{s:ë}{fp:û}(I:Inv X pins σ H s)(hf:∀b∈fp,tj X pins H b)(ho:∀b∈fp,∃o,s.heap.get? b=some o/\∀v,o.data≠.cell v):Inv X (pins++nO fp s.heap) σ H s :=
 I.pins_of λp hp=>(Ŷ.mp hp).elim (λz=>I.pin p (Ψ _ z)) λz=>by
  obtain ⟨hb,e⟩:=wr z
  obtain ⟨f0,f1,f2,_⟩:=hf p.1 hb
  obtain ⟨o,e',d⟩:=ho p.1 hb
  rw [e] at e';cases e'
  exact ⟨e,f0,f1,f2,d⟩
def Inv.unpinned{pins pl:ă}{σ:St}{H:Hp}{s:ë}(I:Inv X (pins++pl) σ H s):Inv X pins σ H s:=I.pins_of λp hp=>I.pin p (Ψ _ (ź _ hp))
def gz{F:á}{body:à â}{wi:TI}{g:TG}{tb:TS}{pos:Pos}(Y:PassesOwn (model X.prog X.w) X.A X.env X.xe)(hc:X.calm=true)(hi:PI X tg F wi)(hg:PG X tg g)(hb:PSs X body tb)
  (hs:∀x,foldedSetIterable F X.env x=pure x:=by intro _;rfl):PS X (.For tg F body [] pos) (EF wi g tb):=by
 intro j s σ H D I h
 refine wpAny_For (thn (hi j s σ H _ I h) λv s1 h1=>thn h1 λb4 s2 h2=>?_) hs
 obtain ⟨it,K,tn,J,H2,e,I2,T,a0,f2,W,⟨m0,w0⟩,L⟩:=h2
 subst e
 have z:∀{H':Hp},(∀b∈K,H' b=none)->∀b∈K,tj X j H' b:=λhn b hb=>⟨hn b hb,(f2 b hb).2⟩
 refine codeAny_forLoop_any (λn s'=>∃i σ' H',Inv X j σ' H' s'/\tn i s'.heap/\(∀b∈K,H' b=none)/\W i n σ' H') ?_ m0 ⟨0,σ,H2,I2,a0,λb hb=>(f2 b hb).1,w0⟩
 rintro n s3 ⟨i,P,Z,I3,Q,U,w3⟩
 rcases L i n P Z w3 with ⟨stop,qn⟩ | ⟨go,N,hN,step⟩
 .refine ħ Y (thn (T.done X rfl rfl rfl hc i j s3 P Z X.xe I3 (z U) Q stop) λr s4 ⟨hr,I4⟩=>?_)
  subst hr
  exact Ē ⟨P,Z,I4,qn⟩
 .refine ħ Y (thn (T.item X rfl rfl rfl hc i j s3 P Z X.xe I3 (z U) Q go) λr s4 ⟨u,hr,h4⟩=>?_)
  subst hr
  refine ħ Y (thn h4 λ_ s5 ⟨x,H5,I5,r5,y5,G,a3⟩=>?_)
  have a1:=I5.pinned (z a3) (T.obj _ _ G)
  refine ħ Y (thn (hg _ s5 P H5 x u _ a1 r5 (step x H5 y5)) λ_ s6 ⟨σ6,H6,I6,q6⟩=>?_)
  refine ħ Y (thn (hb _ s6 σ6 H6 _ I6 q6) λf s7 q7=>?_)
  have C:∀{l:St} {q:Hp},Inv X (j++nO K s5.heap) l q s7->N l q->∃m,m<n/\∃i σ' H',Inv X j σ' H' s7/\tn i s7.heap/\(∀b∈K,H' b=none)/\W i m σ' H':=λ{l q} y O=>by
   obtain ⟨m',hm,w7⟩:=hN l q O
   refine ⟨m',hm,i+1,l,q,y.unpinned,T.keep _ _ _ G λb hb o e=>(y.pin (b,o) (Ψ _ (Ψ _ (gF hb e)))).1,λb hb=>?_,w7⟩
   obtain ⟨o,e,d⟩:=T.obj _ _ G b hb
   exact (y.pin (b,o) (Ψ _ (Ψ _ (gF hb e)))).2.1
  cases f with
  | next=>obtain ⟨l,q,y,O⟩:=q7;exact C y O
  | cont=>obtain ⟨l,q,y,O⟩:=q7;exact C y O
  | brk=>obtain ⟨l,q,y,q7⟩:=q7;exact ⟨l,q,y.unpinned,q7⟩
  | ret v=>obtain ⟨x7,l,q,y,r7,q7⟩:=q7;exact ⟨x7,l,q,y.unpinned,r7,q7⟩
end
def jP{K:ä}{a:é}{xs:à V}{g:TG}{tb:TS}{D:Ends}{σ:St}{H:Hp}(b:Nat->St->Hp->Prop)(h0:b 0 σ H)(h:∀i σ H,i<=xs.length->b i σ H->SqL K H a xs)
  (j:∀i x σ H,xs[i]?=some x->b i σ H->g x σ H fun σ2 H2=>tb {D with nx:=b (i+1),ct:=b (i+1),bk:=D.nx} σ2 H2)(l:∀σ H,b xs.length σ H->D.nx σ H) :
  ∃W:Nat->Nat->St->Hp->Prop,(∃m,W 0 m σ H)/\∀i m σ H,W i m σ H ->
   ((Itl K a).stop i H/\D.nx σ H)\/((Itl K a).go i H/\∃N:St->Hp->Prop,(∀σ' H',N σ' H'->∃m',m'<m/\W (i+1) m' σ' H')/\∀x H',(Itl K a).yld i H x H'->g x σ H' fun σ2 H2=>tb {D with nx:=N,ct:=N,bk:=D.nx} σ2 H2):=by
 refine ⟨λi m σ H=>m=xs.length-i/\i<=xs.length/\b i σ H,⟨xs.length,by simp,Nat.zero_le _,h0⟩,?_⟩
 rintro i m σ H ⟨rfl,f,p⟩
 have q:=h i σ H f p
 by_cases hlt:i<xs.length
 .refine .inr ⟨⟨xs,xs[i],q,by simp [hlt]⟩,b (i+1),fun σ' H' d=>⟨xs.length-(i+1),ω,ϱ,hlt,d⟩,λx H' y=>?_⟩
  obtain ⟨e,y⟩:=y
  subst e
  exact j i x σ _ (y xs q) p
 .have e:i=xs.length:=by omega
  subst e
  exact .inl ⟨⟨xs,q,ι _⟩,l σ H p⟩
def A1{K:ä}{a:é}{xs:à V}{g:TG}{tb:TS}{D:Ends}{σ:St}{H:Hp}(b:Nat->St->Hp->Prop)(h0:b 0 σ H)(h:∀i σ H,i<=xs.length->b i σ H->SqT K H a xs)
  (j:∀i x σ H,xs[i]?=some x->b i σ H->g x σ H fun σ2 H2=>tb {D with nx:=b (i+1),ct:=b (i+1),bk:=D.nx} σ2 H2)(l:∀σ H,b xs.length σ H->D.nx σ H) :
  ∃W:Nat->Nat->St->Hp->Prop,(∃m,W 0 m σ H)/\∀i m σ H,W i m σ H ->
   ((Itt K a).stop i H/\D.nx σ H)\/((Itt K a).go i H/\∃N:St->Hp->Prop,(∀σ' H',N σ' H'->∃m',m'<m/\W (i+1) m' σ' H')/\∀x H',(Itt K a).yld i H x H'->g x σ H' fun σ2 H2=>tb {D with nx:=N,ct:=N,bk:=D.nx} σ2 H2):=by
 refine ⟨λi m σ H=>m=xs.length-i/\i<=xs.length/\b i σ H,⟨xs.length,by simp,Nat.zero_le _,h0⟩,?_⟩
 rintro i m σ H ⟨rfl,f,p⟩
 have q:=h i σ H f p
 by_cases hlt:i<xs.length
 .refine .inr ⟨⟨xs,xs[i],q,by simp [hlt]⟩,b (i+1),fun σ' H' d=>⟨xs.length-(i+1),ω,ϱ,hlt,d⟩,λx H' y=>?_⟩
  obtain ⟨e,y⟩:=y
  subst e
  exact j i x σ _ (y xs q) p
 .have e:i=xs.length:=by omega
  subst e
  exact .inl ⟨⟨xs,q,ι _⟩,l σ H p⟩
def iR{lo:Int}{n:Nat}{g:TG}{tb:TS}{D:Ends}{σ:St}{H:Hp}(b:Nat->St->Hp->Prop)(h0:b 0 σ H)
  (f:∀i σ H,i<n->b i σ H->g (.int (lo+i)) σ H fun σ2 H2=>tb {D with nx:=b (i+1),ct:=b (i+1),bk:=D.nx} σ2 H2)(h:∀σ H,b n σ H->D.nx σ H) :
  ∃W:Nat->Nat->St->Hp->Prop,(∃m,W 0 m σ H)/\∀i m σ H,W i m σ H ->
   ((Itr lo n).stop i H/\D.nx σ H)\/((Itr lo n).go i H/\∃N:St->Hp->Prop,(∀σ' H',N σ' H'->∃m',m'<m/\W (i+1) m' σ' H')/\∀x H',(Itr lo n).yld i H x H'->g x σ H' fun σ2 H2=>tb {D with nx:=N,ct:=N,bk:=D.nx} σ2 H2):=by
 refine ⟨λi m σ H=>m=n-i/\i<=n/\b i σ H,⟨n,by simp,Nat.zero_le _,h0⟩,?_⟩
 rintro i m σ H ⟨rfl,j,p⟩
 by_cases hlt:i<n
 .refine .inr ⟨hlt,b (i+1),fun σ' H' d=>⟨n-(i+1),ω,ϱ,hlt,d⟩,λx H' y=>?_⟩
  obtain ⟨e,y⟩:=y
  subst e y
  exact f i σ _ hlt p
 .have e:i=n:=by omega
  subst e
  exact .inl ⟨ι _,h σ H p⟩
abbrev R2:=V->V->Hp->VK->Prop
def OpR(X:Cx)(f:å->å->Sem å)(r:R2):Prop :=
 ∀(pins:ă) (s:ë) (σ:St) (H:Hp) (x y:V) (v u:å) (Q:VK),Inv X pins σ H s->RelV x v->RelV y u->r x y H Q ->
  wpAny (model X.prog X.w) X.A (f v u) (EP X pins σ Q) X.xe s
def UnR(X:Cx)(f:å->Sem å)(r:V->Hp->VK->Prop):Prop :=
 ∀(pins:ă) (s:ë) (σ:St) (H:Hp) (x:V) (v:å) (Q:VK),Inv X pins σ H s->RelV x v->r x H Q ->
  wpAny (model X.prog X.w) X.A (f v) (EP X pins σ Q) X.xe s
def du(X:Cx)(f:å)(r:à V->Hp->VK->Prop):Prop :=
 ∀(pins:ă) (s:ë) (σ:St) (H:Hp) (xs:à V) (us:ü) (Q:VK),Inv X pins σ H s->Vals xs us->r xs H Q ->
  wpAny (model X.prog X.w) X.A (call f us) (EP X pins σ Q) X.xe s
def tOp(r:R2)(ta tb:TE):TE:=fun σ H Q=>ta σ H λx H1=>tb σ H1 λy H2=>r x y H2 Q
def tUn(r:V->Hp->VK->Prop)(ta:TE):TE:=fun σ H Q=>ta σ H λx H1=>r x H1 Q
inductive XI (C:Int->Int->Prop) (g:Int->Int->V) (x y:V) (H:Hp) (Q:VK):Prop|mk i j:x=.int i->y=.int j->C i j->Q (g i j) H->XI C g x y H Q
def rI(C:Int->Int->Prop)(g:Int->Int->V):R2:=λx y H Q=>XI C g x y H Q
inductive XI0 (g:Int->Int->V) (x y:V) (H:Hp) (Q:VK):Prop|mk i j:x=.int i->y=.int j->Q (g i j) H->XI0 g x y H Q
def rI0(g:Int->Int->V):R2:=λx y H Q=>XI0 g x y H Q
def rU(g:Int->V):V->Hp->VK->Prop:=λx H Q=>∃i,x=.int i/\Q (g i) H
section
variable {X:Cx}{a b c:á}{ta tb tc:TE}{pos:Pos}
def Dj(o:PE X a ta)(hb:PE X b tb){d:ă}{s:ë}{σ:St}{H:Hp}{R:V->V->Hp->Prop}(I:Inv X d σ H s)
  (h:ta σ H λx H1=>tb σ H1 λy H2=>R x y H2){Q:Ă}{f:å->å->Sem å}
  (hf:∀v u s2 x y H2,Inv X d σ H2 s2->RelV x v->RelV y u->R x y H2->wpAny (model X.prog X.w) X.A (f v u) Q X.xe s2) :
  wpAny (model X.prog X.w) X.A (eval a X.env) (λv s₁=>wpAny (model X.prog X.w) X.A (eval b X.env) (λu s₂=>wpAny (model X.prog X.w) X.A (f v u) Q X.xe s₂) X.xe s₁) X.xe s:=by
 refine thn (o d s σ H _ I h) λv e ⟨x,H1,g,i,q1⟩=>?_
 refine thn (hb d e σ H1 _ g q1) λu s2 ⟨y,H2,j,l,q2⟩=>?_
 exact hf v u s2 x y H2 j i l q2
def aE{op:Operator}{r:R2}(l:OpR X (binaryOp op) r)(o:PE X a ta)(hb:PE X b tb):PE X (.BinOp a op b pos) (tOp r ta tb):=by
 intro d s σ H Q I h
 exact wpAny_BinOp (Dj o hb I h λv u e x y f g i j q=>l d e σ f x y v u Q g i j q)
def DY{op:UnaryOp}{r:V->Hp->VK->Prop}(g:UnR X (unaryOp op) r)(i:PE X a ta):PE X (.UnaryOp op a pos) (tUn r ta):=by
 intro b s σ H Q I h
 exact UnaryOp_ (thn (i b s σ H _ I h) λv d ⟨x,H1,e,f,q1⟩=>g b d σ H1 x v Q e f q1)
def opI{f:å->å->Sem å}{C:Int->Int->Prop}{g:Int->Int->Int}
  (b:∀(i j:Int) (t u:Tok) (s:ë) (Q:Ă) (E:Ă),C i j->Q (.int (g i j) s.toks) {s with toks:=s.toks+1}->wpAny (model X.prog X.w) X.A (f (.int i t) (.int j u)) Q E s) :
  OpR X f (rI C λi j=>.int (g i j)):=by
 intro d s σ H x y v u Q I o r h
 obtain ⟨i,j,rfl,rfl,e,q⟩:=h
 obtain ⟨t,rfl⟩:=o
 obtain ⟨l,rfl⟩:=r
 exact b i j t l s _ _ e ⟨.int (g i j),H,I.tok _,⟨_,ϱ⟩,q⟩
def D1{f:å->å->Sem å}{g:Int->Int->Int}
  (b:∀(i j:Int) (t u:Tok) (s:ë) (Q:Ă) (E:Ă),Q (.int (g i j) s.toks) {s with toks:=s.toks+1}->wpAny (model X.prog X.w) X.A (f (.int i t) (.int j u)) Q E s) :
  OpR X f (rI0 λi j=>.int (g i j)):=by
 intro d s σ H x y v u Q I l o h
 obtain ⟨i,j,rfl,rfl,q⟩:=h
 obtain ⟨t,rfl⟩:=l
 obtain ⟨e,rfl⟩:=o
 exact b i j t e s _ _ ⟨.int (g i j),H,I.tok _,⟨_,ϱ⟩,q⟩
def Ai{f:å->å->Sem å}{g:Int->Int->Bool}
  (b:∀(i j:Int) (t u:Tok) (s:ë) (Q:Ă) (E:Ă),Q (.bool (g i j)) s->wpAny (model X.prog X.w) X.A (f (.int i t) (.int j u)) Q E s) :
  OpR X f (rI0 λi j=>.bl (g i j)):=by
 intro d s σ H x y v u Q I l o h
 obtain ⟨i,j,rfl,rfl,q⟩:=h
 obtain ⟨t,rfl⟩:=l
 obtain ⟨e,rfl⟩:=o
 exact b i j t e s _ _ ⟨.bl (g i j),H,I,ϱ,q⟩
def E3(i j:Int):Prop:=0<j/\j<1073741824
def E2(i j:Int):Prop:=0<=j/\j<=1000000/\i.natAbs<2 ^ 64
def CMul(i j:Int):Prop:=(-(2 ^ 64)<i/\i<2 ^ 64)\/(-(2 ^ 64)<j/\j<2 ^ 64)
def CMul.ok{i j:Int}(h:CMul i j):IntMulOk i j:=by
 rcases h with ⟨h1,h2⟩ | ⟨h1,h2⟩
 .exact .of_left (intBits_le_64 h1 h2)
 .exact .of_right (intBits_le_64 h1 h2)
def bW:OpR X (binaryOp .Add) (rI0 λi j=>.int (i+j)):=D1 λ_ _ _ _ _ _ _ q=>add_int q
def oh:OpR X (binaryOp .Sub) (rI0 λi j=>.int (i-j)):=D1 λ_ _ _ _ _ _ _ q=>sub_int q
def om:OpR X (binaryOp .Mult) (rI CMul λi j=>.int (i*j)):=opI λ_ _ _ _ _ _ _ hc q=>mul_int q hc.ok
def bV:OpR X (binaryOp .FloorDiv) (rI E3 λi j=>.int (i/j)):=opI λi j _ _ _ _ _ hc q=>by
 have h1:(0:Int)<j:=hc.1
 have h2:j<1073741824:=hc.2
 exact floordiv_int ω (by rw [Int.fdiv_eq_ediv_of_nonneg i ω];exact q) (.inl (PyProof.noPylong_small ω))
def b9:OpR X (binaryOp .Mod) (rI (λ_ j=>0<j) λi j=>.int (i%j)):=opI λi j _ _ _ _ _ hc q=>by
 have h1:(0:Int)<j:=hc
 exact mod_int' ω (by rw [Int.fmod_eq_emod_of_nonneg i ω];exact q)
def yb:OpR X (binaryOp .Pow) (rI E2 λi j=>.int (i ^ j.toNat)):=opI λ_ _ _ _ _ _ _ hc q=>pow_int_small hc.1 hc.2.1 hc.2.2 q
def unI{f:å->Sem å}{g:Int->Int}
  (b:∀(i:Int) (t:Tok) (s:ë) (Q:Ă) (E:Ă),Q (.int (g i) s.toks) {s with toks:=s.toks+1}->wpAny (model X.prog X.w) X.A (f (.int i t)) Q E s) :
  UnR X f (rU λi=>.int (g i)):=by
 intro d s σ H x v Q I e h
 obtain ⟨i,rfl,q⟩:=h
 obtain ⟨t,rfl⟩:=e
 exact b i t s _ _ ⟨.int (g i),H,I.tok _,⟨_,ϱ⟩,q⟩
def BL:UnR X (unaryOp .USub) (rU λi=>.int (-i)):=unI λ_ _ _ _ _ q=>neg_int q
end
def DR:V->V->Bool
 | .non,.non=>true | .non,.int _=>true | .int _,.non=>true | .non,.bl _=>true | .bl _,.non=>true | .non,.str _=>true | .str _,.non=>true
 | .int _,.int _=>true | .bl _,.bl _=>true | .str _,.str _=>true | .byt _,.byt _=>true
 | .int _,.str _=>true | .str _,.int _=>true | .bl _,.str _=>true | .str _,.bl _=>true
 | _,_=>false
def rEq:R2:=λx y H Q=>DR x y=true/\Q (.bl (decide (x=y))) H
def rNe:R2:=λx y H Q=>DR x y=true/\Q (.bl (!decide (x=y))) H
def rh{i j:Int}:decide (V.int i=V.int j)=(i==j):=by
 rw [ł]
 simp
def zw{i j:Bool}:decide (V.bl i=V.bl j)=(i==j):=by
 rw [ł]
 simp
def vE{i j:Str}:decide (V.str i=V.str j)=(i==j):=by
 rw [ł]
 simp
def vG{i j:Array UInt8}:decide (V.byt i=V.byt j)=(i.toList==j.toList):=by
 rw [ł]
 cases i
 cases j
 simp
section
variable {X:Cx}{a b c:á}{ta tb tc:TE}{pos:Pos}
def aW{b:ă}{σ:St}{H:Hp}{s:ë}{Q:VK}{k d:Bool}(I:Inv X b σ H s)(q:Q (.bl k) H)(e:k=d):EP X b σ Q (.bool d) s:=by
 subst e
 exact ⟨.bl k,H,I,ϱ,q⟩
def bK:OpR X (compareOp .Eq) rEq:=by
 intro g s σ H x y v u Q I f b h
 obtain ⟨e,q⟩:=h
 cases x with
 | non =>
  cases f
  cases y with
  | non=>cases b;exact PySem.EqNone.eq_none_none (aW I q (by simp))
  | bl j=>cases b;exact PySem.EqNone.eq_none_bool (aW I q (by simp))
  | int j=>obtain ⟨d,rfl⟩:=b;exact PySem.EqNone.eq_none_int (aW I q (by simp))
  | str j=>obtain ⟨d,rfl⟩:=b;exact PySem.EqNone.eq_none_str (aW I q (by simp))
  | _=>exact absurd (show false=true from e) Ÿ
 | bl i =>
  cases f
  cases y with
  | non=>cases b;exact PySem.EqNone.eq_bool_none (aW I q (by simp))
  | bl j=>cases b;exact eq_bool (aW I q zw)
  | str j=>obtain ⟨d,rfl⟩:=b;exact PySem.EqMixed.eq_bool_str (aW I q (by simp))
  | _=>exact absurd (show false=true from e) Ÿ
 | int i =>
  obtain ⟨t,rfl⟩:=f
  cases y with
  | non=>cases b;exact PySem.EqNone.eq_int_none (aW I q (by simp))
  | int j=>obtain ⟨d,rfl⟩:=b;exact eq_int (aW I q rh)
  | str j=>obtain ⟨d,rfl⟩:=b;exact PySem.EqMixed.eq_int_str (aW I q (by simp))
  | _=>exact absurd (show false=true from e) Ÿ
 | str i =>
  obtain ⟨t,rfl⟩:=f
  cases y with
  | non=>cases b;exact PySem.EqNone.eq_str_none (aW I q (by simp))
  | bl j=>cases b;exact PySem.EqMixed.eq_str_bool (aW I q (by simp))
  | int j=>obtain ⟨d,rfl⟩:=b;exact PySem.EqMixed.eq_str_int (aW I q (by simp))
  | str j=>obtain ⟨d,rfl⟩:=b;exact eq_str (aW I q vE)
  | _=>exact absurd (show false=true from e) Ÿ
 | byt i =>
  obtain ⟨t,rfl⟩:=f
  cases y with
  | byt j=>obtain ⟨d,rfl⟩:=b;exact PySem.W.eq_bytes (aW I q vG)
  | _=>exact absurd (show false=true from e) Ÿ
 | _=>cases y<;>exact absurd (show false=true from e) Ÿ
def ol:OpR X (compareOp .NotEq) rNe:=by
 intro g s σ H x y v u Q I f b h
 obtain ⟨e,q⟩:=h
 cases x with
 | non =>
  cases f
  cases y with
  | non=>cases b;exact PySem.EqNone.ne_none_none (aW I q (by simp))
  | bl j=>cases b;exact PySem.EqNone.ne_none_bool (aW I q (by simp))
  | int j=>obtain ⟨d,rfl⟩:=b;exact PySem.EqNone.ne_none_int (aW I q (by simp))
  | str j=>obtain ⟨d,rfl⟩:=b;exact PySem.EqNone.ne_none_str (aW I q (by simp))
  | _=>exact absurd (show false=true from e) Ÿ
 | bl i =>
  cases f
  cases y with
  | non=>cases b;exact PySem.EqNone.ne_bool_none (aW I q (by simp))
  | bl j=>cases b;exact ne_bool (aW I q (congrArg not zw))
  | str j=>obtain ⟨d,rfl⟩:=b;exact PySem.EqMixed.ne_bool_str (aW I q (by simp))
  | _=>exact absurd (show false=true from e) Ÿ
 | int i =>
  obtain ⟨t,rfl⟩:=f
  cases y with
  | non=>cases b;exact PySem.EqNone.ne_int_none (aW I q (by simp))
  | int j=>obtain ⟨d,rfl⟩:=b;exact ne_int (aW I q (congrArg not rh))
  | str j=>obtain ⟨d,rfl⟩:=b;exact PySem.EqMixed.ne_int_str (aW I q (by simp))
  | _=>exact absurd (show false=true from e) Ÿ
 | str i =>
  obtain ⟨t,rfl⟩:=f
  cases y with
  | non=>cases b;exact PySem.EqNone.ne_str_none (aW I q (by simp))
  | bl j=>cases b;exact PySem.EqMixed.ne_str_bool (aW I q (by simp))
  | int j=>obtain ⟨d,rfl⟩:=b;exact PySem.EqMixed.ne_str_int (aW I q (by simp))
  | str j=>obtain ⟨d,rfl⟩:=b;exact ne_str (aW I q (congrArg not vE))
  | _=>exact absurd (show false=true from e) Ÿ
 | byt i =>
  obtain ⟨t,rfl⟩:=f
  cases y with
  | byt j=>obtain ⟨d,rfl⟩:=b;exact PySem.W.ne_bytes (aW I q (congrArg not vG))
  | _=>exact absurd (show false=true from e) Ÿ
 | _=>cases y<;>exact absurd (show false=true from e) Ÿ
def se:OpR X (compareOp .Lt) (rI0 λi j=>.bl (decide (i<j))):=Ai λ_ _ _ _ _ _ _ q=>lt_int q
def vo:OpR X (compareOp .LtE) (rI0 λi j=>.bl (decide (i<=j))):=Ai λ_ _ _ _ _ _ _ q=>le_int q
def vp:OpR X (compareOp .Gt) (rI0 λi j=>.bl (decide (j<i))):=Ai λ_ _ _ _ _ _ _ q=>gt_int q
def DZ:OpR X (compareOp .GtE) (rI0 λi j=>.bl (decide (j<=i))):=Ai λ_ _ _ _ _ _ _ q=>ge_int q
def qV:OpR X (compareOp .Is) (λx y H Q=>y=.non/\Q (.bl (decide (x=.non))) H):=by
 intro b s σ H x y v u Q I d e h
 obtain ⟨rfl,q⟩:=h
 cases e
 refine is_none_gen (aW I q ?_)
 cases x<;>first
  | (cases d;rfl)
  | (obtain ⟨t,rfl⟩:=d;rfl)
def qU:OpR X (compareOp .IsNot) (λx y H Q=>y=.non/\Q (.bl (!decide (x=.non))) H):=by
 intro b s σ H x y v u Q I d e h
 obtain ⟨rfl,q⟩:=h
 cases e
 refine isnot_none_gen (aW I q ?_)
 cases x<;>first
  | (cases d;rfl)
  | (obtain ⟨t,rfl⟩:=d;rfl)
def aA(b:á){op:CmpOp}(h:op≠.In:=by decide)(f:op≠.NotIn:=by decide):behindInMarks op b=false:=by
 have d:(op==CmpOp.In)=false:=by cases op<;>first | rfl | exact absurd rfl h
 have e:(op==CmpOp.NotIn)=false:=by cases op<;>first | rfl | exact absurd rfl f
 cases b<;>simp [behindInMarks,d,e]
def bq{op:CmpOp}{r:R2}(l:OpR X (compareOp op) r)(o:PE X a ta)(hb:PE X b tb)(w:behindInMarks op b=false):PE X (.Compare a [op] [b] pos) (tOp r ta tb):=by
 intro d s σ H Q I h
 exact wpAny_Compare1 (Dj o hb I h λv u e x y f g i j q=>l d e σ f x y v u Q g i j q) w
def Bj(t:TE):TT:=fun σ H Q=>t σ H λx H'=>XB Q x H'
def az{op:CmpOp}{r:R2}(F:OpR X (compareOp op) r)(G:PE X a ta)(hb:PE X b tb)(J:behindInMarks op b=false):PT X (.Compare a [op] [b] pos) (Bj (tOp r ta tb)):=by
 intro d s σ H Q I h
 refine wpAny_isTrue_Compare1 (thn (G d s σ H _ I h) λv f ⟨x,H1,g,i,q1⟩=>thn (hb d f σ H1 _ g q1) λu j ⟨y,l,o,q,q2⟩ =>
  thn (F d j σ l x y v u _ o i q q2) λc K ⟨z,w,C,D,k,e,q3⟩=>?_) J
 subst e
 cases D
 exact Ŕ ⟨w,C,q3⟩
def BY(r r':R2)(ta tb tc:TE):TE:=fun σ H Q=>ta σ H λx H1=>tb σ H1 λy H2=>r x y H2 λz H3=>∃k,z=.bl k /\
 (if k=true then tc σ H3 λw' H4=>r' y w' H4 Q else Q (.bl false) H3)
def xY{op g:CmpOp}{r q:R2}(ho:OpR X (compareOp op) r)(i:OpR X (compareOp g) q)(ha:PE X a ta)(hb:PE X b tb)(hc:PE X c tc)
  (hm:lastMarks [op,g] [b,c]=false:=by with_unfolding_all rfl):PE X (.Compare a [op,g] [b,c] pos) (BY r q ta tb tc):=by
 intro f s σ H Q I h
 refine Compare_chain (thn (ha f s σ H _ I h) λv w ⟨x,H1,C,D,q1⟩=>chain_link (thn (hb f w σ H1 _ C q1) λu F ⟨y,G,J,j,q2⟩ =>
  thn (ho f F σ G x y v u _ J D j q2) λd K ⟨z,l,o,L,k,e,q3⟩=>?_)) hm
 subst e
 cases L
 refine Ŕ ?_
 cases k with
 | false=>exact ite_ff ⟨.bl false,l,o,rfl,q3⟩
 | true=>exact ite_tt (chain_last (thn (hc f K σ l _ o q3) λO P ⟨U,W,Y,Z,q4⟩=>i f P σ W y U u O Q Y j Z q4))
def kz:(sizeLine:Nat)<2 ^ 63:=by rw [Ķ];decide
def cw:OpR X (binaryOp .Add) (λx y H Q=>∃i j,x=.str i/\y=.str j/\i.length+j.length<=sizeLine/\Q (.str (i++j)) H):=by
 intro b s σ H x y v u Q I f g h
 obtain ⟨i,j,rfl,rfl,d,q⟩:=h
 obtain ⟨t,rfl⟩:=f
 obtain ⟨e,rfl⟩:=g
 exact add_str (λe l=>⟨.str (i++j),H,I.tok _,⟨_,ϱ⟩,q⟩) d
def dm{x:V}{us:ü}(r:Vals [x] us):∃u,us=[u]/\RelV x u:=by
 cases r with
 | cons r1 r2=>cases r2;exact ⟨_,rfl,r1⟩
def uK{x y:V}{us:ü}(r:Vals [x,y] us):∃u w',us=[u,w']/\RelV x u/\RelV y w':=by
 cases r with
 | cons r1 r2 =>
  cases r2 with
  | cons r3 r4=>cases r4;exact ⟨_,_,rfl,r1,r3⟩
def qh:du X (.type "int") (λxs H Q=>(∃i,xs=[.int i]/\Q (.int i) H)\/∃k,xs=[.bl k]/\Q (.int (if k then 1 else 0)) H):=by
 intro b s σ H xs e Q I r h
 rcases h with ⟨i,rfl,q⟩ | ⟨k,rfl,q⟩
 .obtain ⟨u,rfl,t,rfl⟩:=dm r
  exact call_int_int ⟨.int i,H,I,⟨_,ϱ⟩,q⟩
 .obtain ⟨u,rfl,d⟩:=dm r
  cases d
  exact call_int_bool ⟨.int (if k then 1 else 0),H,I.tok _,⟨_,ϱ⟩,q⟩
def dj:du X (.type "str") (λxs H Q=>∃i,xs=[.int i]/\i.natAbs.log2<1920/\Q (.str (toString i)) H):=by
 intro b s σ H xs e Q I r h
 obtain ⟨i,rfl,d,q⟩:=h
 obtain ⟨u,rfl,t,rfl⟩:=dm r
 exact PySem.P.str_of_int d ⟨.str _,H,I.tok _,⟨_,ϱ⟩,q⟩
def zF:du X (.builtin "ord") (λxs H Q=>∃x,xs=[.str x]/\x.length=1/\Q (.int (x.cps.getD 0 0:Nat)) H):=by
 intro b s σ H xs e Q I r h
 obtain ⟨x,rfl,d,q⟩:=h
 obtain ⟨u,rfl,t,rfl⟩:=dm r
 exact ord_of_one d ⟨.int _,H,I.tok _,⟨_,ϱ⟩,q⟩
end
structure ObjM(h:ã)(x dx C:é)(mA:ā):Prop where
 obj:h.get? x=some (PySem.W.instObj C dx)
 ns:h.Ns1 dx mA
 ne:dx≠x
def ww{h:ã}{d:é}{f:ā}(n:h.Ns1 d f):∃od,h.get? d=some od/\∀name,PySem.W.lookIn name od=some (f name):=by
 obtain ⟨o,es,w,g,i,j,_,l⟩:=n
 refine ⟨o,g,λname=>?_⟩
 have e:=l name
 unfold nsFind findBy at e
 rw [← Array.find?_toList] at e
 unfold PySem.W.lookIn
 rw [i]
 dsimp only
 split
 .rename_i y q
  rw [q] at e
  exact congrArg some e
 .rename_i q
  rw [q] at e
  have a:es.toList.any (·.refKey)=false:=by
   rw [List.any_eq_false]
   intro y u
   obtain ⟨z,t,b⟩:=j y (Array.mem_toList_iff.mp u)
   simp [DictEntry.refKey,b]
  have r:¬es.toList.any (·.refKey)=true:=by rw [a];exact Ÿ
  rw [ž r]
  exact congrArg some e
def ObjM.look{h:ã}{x dx C:é}{mA:ā}(I:ObjM h x dx C mA):∃od,PySem.W.InstAt h x (PySem.W.instObj C dx) C (some od)/\∀name,PySem.W.lookIn name od=some (mA name) :=
 let ⟨od,ho,hl⟩:=ww I.ns
 ⟨od,⟨I.obj,ϱ,ϱ,ho⟩,hl⟩
section
variable {prog:ê}{w:è}{A:æ}{E:Ă}{s:ë}{K:ä}{x dx C f:é}{mA:ā}{name:Str}{v:å}
def AY{b:Bool}{Q:Ă}(X:K.In s.heap)(I:ObjM s.heap x dx C mA)(f:PySem.W.plainGet K C name=true)(g:PySem.W.hasDictIn K C=true)
  (i:PySem.W.findIn K (.ref C) name=some none)(j:mA name=some v)(d:PySem.W.handedIn v=true)(h:Q v {s with toks:=s.toks+1}) :
  wpAny (model prog w) A (getAttr (.ref x) name b) Q E s:=by
 obtain ⟨l,J,e⟩:=I.look
 exact PySem.W.get_value X J (PySem.W.plainGet_of f).1 (PySem.W.findObj_own g i rfl (by rw [e,j])) d h
def zb{pl:Sem Bool}{Q:Value×ü->ë->Prop}(X:K.In s.heap)(I:ObjM s.heap x dx C mA)(b:PySem.W.plainGet K C name=true)
  (hf:PySem.W.findIn K (.ref C) name=some (some (.ref f)))(g:PySem.W.isFn K (.ref f)=true)(i:mA name=none)(h:Q (.ref f,[.ref x]) s) :
  wpAny (model prog w) A (getMethod (.ref x) name pl) Q E s:=by
 obtain ⟨d,J,e⟩:=I.look
 exact PySem.W.method_fn X J (PySem.W.plainGet_of b).1 (PySem.W.plainGet_of b).2 hf (ą.mp g) (by show (PySem.W.lookIn name d).map (·.isSome)=some false;rw [e,i];rfl) h
def zX{l:ú}{Q:Unit->ë->Prop}(X:K.In s.heap)(I:ObjM s.heap x dx C mA)
  (D:PySem.W.findIn K (.ref C) "__setattr__"=some (some (.builtin "object.__setattr__")))(F:PySem.W.plainOver K C=true)(G:PySem.W.takerIn K C name=some none)(H:PySem.W.hasDictIn K C=true)
  (hw:PySem.Within mA l)(hsz:l.length<=sizeLine)
  (h:∀h',ObjM h' x dx C (λy=>if y=name then some v else mA y)->Heap.SameBut dx s.heap h'->Q () {s with heap:=h',toks:=s.toks+2}) :
  wpAny (model prog w) A (setAttr (.ref x) name v) Q E s:=by
 obtain ⟨L,J,O⟩:=I.look
 refine PySem.W.set_plain X J D (PySem.W.osa_open (s:={s with toks:=s.toks+1}) (r:=none) X J F G λb=>?_)
 obtain ⟨P,o,f⟩:=PySem.W.any_some H
 have z:s.heap.get? x=some ⟨.ref C,some dx,.plain,#[]⟩:=I.obj
 refine ε (π (ε (ε (wpAny_loadPart z (ε (PySem.W.Looks.here (s:={s with toks:=s.toks+1}) (PySem.W.looks_clsIn X o) ?_))))))
 rw [f]
 refine π (a:=some dx) (ε (π (ε ?_)))
 refine wpAny_nsSet1 (s:={s with toks:=s.toks+1}) I.ns λh' d e=>?_
 obtain ⟨U,q,u,g,i,j⟩:=d.count (PySem.Within.cons name v hw)
 refine ε (wpAny_lookBehind g (by rw [i];exact pastItsLine_dict (Λ j (by rw [ŭ];omega))) ?_)
 exact π (h _ ⟨(e.2 _ (Ne.symm I.ne)).trans I.obj,d,I.ne⟩ e)
def yQ{R:Result->ë->Prop}{vs:ü}{b:à (Str×å)}(X:K.In s.heap)(e:PySem.W.makesIn K C=true)
  (i:PySem.W.findIn K (.ref C) "__init__"=some (some (.ref f)))(hf:PySem.W.typeIn K (.ref f)=some (.type "function"))
  (h:codeAny (model prog w) (A.under (.builtin "type.__call__" ⟨.ref C::vs,b⟩)) (.call (.ref f) ⟨.ref (s.heap.objs.size+1)::vs,b⟩) (PySem.W.InitBack (s.heap.objs.size+1) R)
   {s with heap:=(s.heap.push PySem.W.emptyDict).push (PySem.W.instObj C s.heap.objs.size)}) :
  codeAny (model prog w) A (.call (.ref C) ⟨vs,b⟩) R s:=by
 obtain ⟨j,g,d,t,l⟩:=s
 exact PySem.W.make_core (PySem.W.makes_of X e) (PySem.W.looks_findIn X i) (λself=>PySem.W.bind_fn X self hf) (.inl rfl) h
end
def ax(f:Str)(v:V):List (Str×V)->List (Str×V)
 | []=>[(f,v)]
 | (g,x)::r=>if g=f then (g,v)::r else (g,x)::ax f v r
theorem al(f g:Str)(v:V):∀fs:List (Str×V),(ax f v fs).lookup g=if g=f then some v else fs.lookup g
 | []=>by
  show List.lookup g [(f,v)]=_
  by_cases h:g=f
  .have hb:(g==f)=true:=ą.mpr h
   simp only [List.lookup,hb,if_pos h]
  .have hb:(g==f)=false:=ś.mpr h
   simp only [List.lookup,hb,if_neg h]
 | (k,x)::r=>by
  have ih:=al f g v r
  rw [show ax f v ((k,x)::r)=(if k=f then (k,v)::r else (k,x)::ax f v r) from rfl]
  by_cases hk:k=f
  .rw [Ź hk]
   by_cases h:g=k
   .have hb:(g==k)=true:=ą.mpr h
    simp only [List.lookup,hb,if_pos (h.trans hk)]
   .have hb:(g==k)=false:=ś.mpr h
    simp only [List.lookup,hb,if_neg (λe:g=f=>h (e.trans hk.symm))]
  .rw [ž hk]
   by_cases h:g=k
   .have hb:(g==k)=true:=ą.mpr h
    simp only [List.lookup,hb,if_neg (λe:g=f=>hk (h.symm.trans e))]
   .have hb:(g==k)=false:=ś.mpr h
    simp only [List.lookup,hb]
    exact ih
theorem kL(f:Str)(v:V):∀fs:List (Str×V),f∈(ax f v fs).map (·.1)/\∀g,g∈fs.map (·.1)->g∈(ax f v fs).map (·.1)
 | []=>⟨by simp [ax],λg h=>by simp at h⟩
 | (k,x)::r=>by
  obtain ⟨i1,i2⟩:=kL f v r
  rw [show ax f v ((k,x)::r)=(if k=f then (k,v)::r else (k,x)::ax f v r) from rfl]
  by_cases hk:k=f
  .rw [Ź hk]
   subst hk
   exact ⟨by simp,λg h=>by simpa using h⟩
  .rw [ž hk]
   refine ⟨?_,λg h=>?_⟩
   .rw [ű]
    exact Θ _ i1
   .rw [ű] at h ⊢
    rcases ϕ.mp h with e | e
    .exact ϕ.mpr (.inl e)
    .exact Θ _ (i2 g e)
theorem eE(f:Str)(v:V):∀fs:List (Str×V),(ax f v fs).length<=fs.length+1
 | []=>by simp [ax]
 | (k,x)::r=>by
  have ih:=eE f v r
  rw [show ax f v ((k,x)::r)=(if k=f then (k,v)::r else (k,x)::ax f v r) from rfl]
  by_cases hk:k=f
  .rw [Ź hk,ŭ,ŭ];omega
  .rw [ž hk,ŭ,ŭ];omega
def RelO.some_of{v:V}{o:î}(r:RelO (some v) o):∃u,o=some u/\RelV v u:=by
 cases o with
 | none=>exact (show False from r).elim
 | some u=>exact ⟨u,rfl,r⟩
def RelO.none_of{o:î}(r:RelO none o):o=none:=by
 cases o with
 | none=>rfl
 | some u=>exact (show False from r).elim
def wE{v:V}{u:å}(r:RelV v u):PySem.W.handedIn u=true:=by
 cases v with
 | non=>cases (show u=Value.none from r);rfl
 | bl b=>cases (show u=Value.bool b from r);rfl
 | int i=>obtain ⟨t,e⟩:=(show ∃t,u=Value.int i t from r);cases e;rfl
 | str x=>obtain ⟨t,e⟩:=(show ∃t,u=Value.str x t from r);cases e;rfl
 | byt b=>obtain ⟨t,e⟩:=(show ∃t,u=Value.bytes b t from r);cases e;rfl
 | flt b=>obtain ⟨t,e⟩:=(show ∃t,u=Value.float b t from r);cases e;rfl
 | ref a=>cases (show u=Value.ref a from r);rfl
 | ty n=>cases (show u=Value.type n from r);rfl
section
variable {P:ê}{w:è}{H H':Hp}{h h':ã}{a C dx:é}{fs fs':List (Str×V)}
def mC(b:HOk P w H h)(e:H a=some (.ins C dx fs)):∃mA,ObjM h a dx C mA/\(∀f,RelO (fs.lookup f) (mA f))/\PySem.Within mA (fs.map (·.1))/\fs.length<=1000/\H dx=some (.own a):=by
 obtain ⟨d,z,g,i,mA,n,r,q⟩:=(show ObjOk P w H h a (.ins C dx fs) from b a _ e)
 exact ⟨mA,⟨i,n,g⟩,r,q,z,d⟩
end
structure Cls(K:ä)(C:é):Prop where
 pg:PySem.W.plainGet K C Str.empty=true
 hd:PySem.W.hasDictIn K C=true
 po:PySem.W.plainOver K C=true
 sa:PySem.W.findIn K (.ref C) "__setattr__"=some (some (.builtin "object.__setattr__"))
def Cls.get{K:ä}{C:é}(c:Cls K C)(f:Str):PySem.W.plainGet K C f=true:=c.pg
def NoAttr(K:ä)(C:é)(f:Str):Prop:=PySem.W.findIn K (.ref C) f=some none
def NoAttr.taker{K:ä}{C:é}{f:Str}(n:NoAttr K C f):PySem.W.takerIn K C f=some none:=by
 unfold PySem.W.takerIn
 rw [show PySem.W.findIn K (.ref C) f=some none from n]
 rfl
structure i9(K:ä)(C:é)(m:Str)(f:é):Prop where
 at_:PySem.W.findIn K (.ref C) m=some (some (.ref f))
 fn:PySem.W.isFn K (.ref f)=true
 kp:PySem.W.keepIn K (.ref f)=true
section
variable {X:Cx}{pins:ă}{σ:St}{H:Hp}{s:ë}{a C dx:é}{fs:List (Str×V)}{f:Str}{v:V}{A:æ}{E:Ă}
def oF{b:Bool}{Q:Ă}(I:Inv X pins σ H s)(e:H a=some (.ins C dx fs))(c:Cls X.K C)(n:NoAttr X.K C f)(l:fs.lookup f=some v)
  (h:∀u s',Inv X pins σ H s'->RelV v u->Q u s'):wpAny (model X.prog X.w) A (getAttr (.ref a) f b) Q E s:=by
 obtain ⟨g,O,r,_,_,_⟩:=mC I.hok e
 obtain ⟨u,i,d⟩:=RelO.some_of (v:=v) (o:=g f) (by rw [← l];exact r f)
 exact AY I.kIn O (c.get f) c.hd n i (wE d) (h u _ (I.tok _) d)
def jl{m:Str}{g:é}{pl:Sem Bool}{Q:Value×ü->ë->Prop}(I:Inv X pins σ H s)(e:H a=some (.ins C dx fs))(c:Cls X.K C)(k:i9 X.K C m g)(l:fs.lookup m=none)
  (h:Q (.ref g,[.ref a]) s):wpAny (model X.prog X.w) A (getMethod (.ref a) m pl) Q E s:=by
 obtain ⟨b,O,r,_,_,_⟩:=mC I.hok e
 have d:b m=none:=RelO.none_of (by rw [← l];exact r m)
 exact zb I.kIn O (c.get m) k.at_ k.fn d h
def mV{y:V}{u:å}{Q:Unit->ë->Prop}(I:Inv X pins σ H s)(e:H a=some (.ins C dx fs))(c:Cls X.K C)(n:NoAttr X.K C f)(P:fs.length<1000)(L:RelV y u)
  (h:∀s',Inv X pins σ (upd H a (.ins C dx (ax f y fs))) s'->Q () s'):wpAny (model X.prog X.w) A (setAttr (.ref a) f u) Q E s:=by
 obtain ⟨i,O,r,j,_,l⟩:=mC I.hok e
 have D:(fs.map (·.1)).length<=sizeLine:=by rw [ν,Ķ];omega
 refine zX I.kIn O c.sa c.po n.taker c.hd j D λG d sb=>h _ ?_
 have F:∃o,G.get? dx=some o:=let ⟨o,_,_,e',_⟩:=d.ns;⟨o,e'⟩
 refine I.write (x:=a) (e:=dx) (by rw [e];exact ϰ) (.inr l) (λb q hb z=>(sb.2 b hb).trans z) F ?_
 refine ⟨by rw [am O.ne];exact l,?_,O.ne,d.obj,_,d.ns,λg=>?_,λg J=>?_⟩
 .have:=eE f y fs;omega
 .show RelO ((ax f y fs).lookup g) (if g=f then some u else i g)
  rw [al]
  by_cases q:g=f
  .rw [Ź q,Ź q];exact L
  .rw [ž q,ž q];exact r g
 .by_cases q:g=f
  .rw [q];exact (kL f y fs).1
  .refine (kL f y fs).2 g (j g λz=>J ?_)
   show (if g=f then some u else i g)=none
   rw [ž q];exact z
def Inv.made(I:Inv X pins σ H s):Inv X pins σ (upd (upd H s.heap.objs.size (.own (s.heap.objs.size+1))) (s.heap.objs.size+1) (.ins C s.heap.objs.size []))
  {s with heap:=(s.heap.push PySem.W.emptyDict).push (PySem.W.instObj C s.heap.objs.size)}:=by
 have d:(s.heap.push PySem.W.emptyDict).get? s.heap.objs.size=some PySem.W.emptyDict:=ψ s.heap rfl
 have g:((s.heap.push PySem.W.emptyDict).push (PySem.W.instObj C s.heap.objs.size)).get? (s.heap.objs.size+1)=some (PySem.W.instObj C s.heap.objs.size):=by
  have:=ψ (s.heap.push PySem.W.emptyDict) (o:=PySem.W.instObj C s.heap.objs.size) rfl
  rwa [Ċ] at this
 have h:(s.heap.push PySem.W.emptyDict).Ns s.heap.objs.size (λ_=>none):=⟨PySem.W.emptyDict,#[],_,d,ϱ,(λe j=>absurd j (by simp)),λ_=>rfl⟩
 have i:=I.laid (a:=s.heap.objs.size) (o:=.own (s.heap.objs.size+1)) (h':=s.heap.push PySem.W.emptyDict) (t':=s.toks) (λb u q=>ρ _ q) (ι _) ⟨_,d⟩
 refine i.laid (a:=s.heap.objs.size+1) (o:=.ins C s.heap.objs.size []) (t':=s.toks) (λb u q=>ρ _ q) (Nat.le_of_eq (Ċ _ _)) ?_
 have f:s.heap.objs.size≠s.heap.objs.size+1:=Φ (Į _)
 refine ⟨by rw [am f,ae],ϖ _,f,g,λ_=>none,(Heap.Ns1.of_empty h).at λo q=>ρ _ q,λ_=>ϰ,λy l=>absurd rfl l⟩
def Bb{prog:ê}{w:è}{env:Env}{e:á}{f:Str}{pos:Pos}{s:ë}{Q:Ă}(hb:attributeBase e f env (eval e env)=eval e env)
  (h:wpAny (model prog w) A (eval e env) (λo s₁=>wpAny (model prog w) A (getAttr o f true) Q E s₁) E s):wpAny (model prog w) A (eval (.Attribute e f pos) env) Q E s :=
 Attribute_any_ h (by rw [arm_eval_Attribute,hb])
end
inductive XF (K:ä) (f:Str) (Q:VK) (x:V) (H:Hp):Prop|mk a C dx fs v:x=.ref a->H a=some (.ins C dx fs)->Cls K C->NoAttr K C f->fs.lookup f=some v->Q v H->XF K f Q x H
def vX(K:ä)(ta:TE)(f:Str):TE:=fun σ H Q=>ta σ H λx H1=>XF K f Q x H1
def EH(K:ä)(ta tv:TE)(f:Str):TS:=λD σ H=>tv σ H λy H1=>ta σ H1 λx H2=>∃a C dx fs,x=.ref a/\H2 a=some (.ins C dx fs)/\Cls K C/\NoAttr K C f/\fs.length<1000 /\
 D.nx σ (upd H2 a (.ins C dx (ax f y fs)))
def Ex(X:Cx)(op:Operator)(rd:V->V->Hp->VK->Prop):Prop :=
 ∀(pins:ă) (s:ë) (σ:St) (H:Hp) (x y:V) (u v:å) (Q:VK),Inv X pins σ H s->RelV x u->RelV y v->rd x y H Q->wpAny (model X.prog X.w) X.A (inplaceOp op u v) (EP X pins σ Q) X.xe s
def zZ(K:ä)(ta tv:TE)(rd:V->V->Hp->VK->Prop)(f:Str):TS:=λD σ H=>ta σ H λx H1=>∃a C dx fs v,x=.ref a/\H1 a=some (.ins C dx fs)/\Cls K C/\NoAttr K C f/\fs.lookup f=some v /\
 tv σ H1 λy H2=>rd v y H2 λz H3=>∃dx' fs',H3 a=some (.ins C dx' fs')/\fs'.length<1000/\D.nx σ (upd H3 a (.ins C dx' (ax f z fs')))
section
variable {X:Cx}{o e value:á}{f:Str}{pos pos' tpos:Pos}{ta tv:TE}
def au(r:PE X e ta)(hb:attributeBase e f X.env (eval e X.env)=eval e X.env):PE X (.Attribute e f pos) (vX X.K ta f):=by
 intro b s σ H Q I h
 refine Bb hb (thn (r b s σ H _ I h) λu w ⟨x,H1,d,g,a,C,y,fs,v,ex,i,c,n,l,q⟩=>?_)
 subst ex
 obtain rfl:u=Value.ref a:=g
 exact oF d i c n l λz D j o=>⟨v,H1,j,o,q⟩
def aT(F:PE X o ta)(G:PE X value tv)(J:swapsWith value (some (.Attribute o f pos')) pos.line X.env=pure false):PS X (.Assign [.Attribute o f pos'] value pos) (EH X.K ta tv f):=by
 intro b s σ H D I h
 refine plainObj_wpAny_Assign_Attribute (thn (G b s σ H _ I h) λu d ⟨y,H1,e,g,q⟩=>thn (F b d σ H1 _ e q) λi L ⟨x,O,j,r,a,C,P,fs,ex,w,c,n,l,q2⟩=>?_) J
 subst ex
 obtain rfl:i=Value.ref a:=r
 exact mV j w c n l g λQ z=>⟨σ,_,z,q2⟩
def pR{op:Operator}{g:V->V->Hp->VK->Prop}(ha:PE X o ta)(hv:PE X value tv)(e:Ex X op g):PS X (.AugAssign (.Attribute o f tpos) op value pos) (zZ X.K ta tv g f):=by
 intro b s σ H D I h
 refine wpAny_AugAssign_AttributeAny (thn (ha b s σ H _ I h) λi s1 ⟨x,H1,j,r,a,C,dx,fs,v,ex,w,c,n,l,q⟩=>?_)
 subst ex
 obtain rfl:i=Value.ref a:=r
 refine oF j w c n l λu F G J=>thn (hv b F σ H1 _ G q) λL O ⟨y,P,Q,U,q3⟩=>thn (e b O σ P v y u L _ Q J U q3) λw4 s4 ⟨z,H3,W,Y,Z,a0,d,l',q4⟩=>?_
 exact mV W d c n l' Y λs5 I5=>⟨σ,_,I5,q4⟩
def EL:V->V->Hp->VK->Prop:=λx y H Q=>∃i j,x=.int i/\y=.int j/\Q (.int (i+j)) H
def yW:Ex X .Add EL:=by
 rintro d s σ H x y u v Q I e f ⟨i,j,rfl,rfl,q⟩
 obtain ⟨t,rfl⟩:=(show ∃t,u=Value.int i t from e)
 obtain ⟨b,rfl⟩:=(show ∃b,v=Value.int j b from f)
 exact PyProof.Rows.iadd_int ⟨.int (i+j),H,I.tok _,⟨_,ϱ⟩,q⟩
end
section
variable {X:Cx}{pins:ă}{σ:St}{H:Hp}{s:ë}{A:æ}{E:Ă}{Q:Ă}{c:å}{b:Bool}
inductive TyOf (K:ä) (H:Hp):V->å->Prop where
 | non:TyOf K H .non (.type "NoneType")
 | bl (x:Bool):TyOf K H (.bl x) (.type "bool")
 | int (i:Int):TyOf K H (.int i) (.type "int")
 | str (x:Str):TyOf K H (.str x) (.type "str")
 | flt (x:UInt64):TyOf K H (.flt x) (.type "float")
 | lst {a:é} {xs:à V} (e:H a=some (.lst xs)):TyOf K H (.ref a) (.type "list")
 | frz {a:é} {o:Obj} {xs:à V} (e:H a=some (.frz o (.lst xs))):TyOf K H (.ref a) (.type "list")
 | tup {a:é} {xs:à V} (e:H a=some (.tup xs)):TyOf K H (.ref a) (.type "tuple")
 | dK {a:é} {kvs:List (Key×V)} (e:H a=some (.dK kvs)):TyOf K H (.ref a) (.type "dict")
 | dT {a:é} {kvs:List (List Key×V)} (e:H a=some (.dT kvs)):TyOf K H (.ref a) (.type "dict")
 | ins {a C dx:é} {fs:List (Str×V)} (e:H a=some (.ins C dx fs)) (cl:Cls K C) (ha:PySem.W.findIn K (.ref C) "__class__"=some (some (.builtin "object.__class__")))
   (hn:PySem.W.specialIn K (.builtin "object.__class__") "__get__"=some (some (.builtin "getset_descriptor.__get__"))) (htk:PySem.W.takesIn K (.builtin "object.__class__")=some true)
   (hm:PySem.W.mroIn K C (.type "object")=some true):TyOf K H (.ref a) (.ref C)
def wA{x:V}{u t:å}(I:Inv X pins σ H s)(d:RelV x u)(l:TyOf X.K H x t)(e:PySem.W.kitOne X.K t c=some b)(h:∀tk,Q (.bool b) {s with toks:=tk}) :
  wpAny (model X.prog X.w) A (call (.builtin "isinstance") [u,c]) Q E s:=by
 cases l with
 | non=>cases (show u=Value.none from d);exact ŕ PySem.W.kitx_none I.kIn ϰ e (λz=>nomatch z) h
 | bl y=>cases (show u=Value.bool y from d);exact ŕ PySem.W.kitx_bool I.kIn ϰ e (λz=>nomatch z) h
 | int i=>obtain ⟨t,q⟩:=(show ∃t,u=Value.int i t from d);cases q;exact ŕ PySem.W.kitx_int I.kIn ϰ e (λz=>nomatch z) h
 | str y=>obtain ⟨t,q⟩:=(show ∃t,u=Value.str y t from d);cases q;exact ŕ PySem.W.kitx_str I.kIn ϰ e (λz=>nomatch z) h
 | flt y=>obtain ⟨t,q⟩:=(show ∃t,u=Value.float y t from d);cases q;exact ŕ PySem.W.kitx_float I.kIn ϰ e (λz=>nomatch z) h
 | @lst a f ea =>
  cases (show u=Value.ref a from d)
  obtain ⟨_,_,n,_,h1⟩:=(show ObjOk X.prog X.w H s.heap a (.lst f) from I.hok a _ ea)
  exact ŕ PySem.W.kitx_list I.kIn ⟨_,h1,ϱ⟩ e (λz=>nomatch z) h
 | @frz a ob f ea =>
  cases (show u=Value.ref a from d)
  obtain ⟨_,_,_,n,_,h1⟩:=(show ObjOk X.prog X.w H s.heap a (.frz ob (.lst f)) from I.hok a _ ea)
  exact ŕ PySem.W.kitx_list I.kIn ⟨_,h1,ϱ⟩ e (λz=>nomatch z) h
 | @tup a f ea =>
  cases (show u=Value.ref a from d)
  obtain ⟨_,_,_,p⟩:=(show ObjOk X.prog X.w H s.heap a (.tup f) from I.hok a _ ea)
  obtain ⟨o,h1,g,_⟩:=p
  exact ŕ PySem.W.kitx_tuple I.kIn ⟨o,h1,g⟩ e (λz=>nomatch z) h
 | @dK a kvs ea =>
  cases (show u=Value.ref a from d)
  obtain ⟨_,_,vs,_,p⟩:=(show ObjOk X.prog X.w H s.heap a (.dK kvs) from I.hok a _ ea)
  obtain ⟨o,es,j,h1,g,_⟩:=p
  exact ŕ PySem.W.kitx_dict I.kIn ⟨o,h1,g.1⟩ e (λz=>nomatch z) h
 | @dT a kvs ea =>
  cases (show u=Value.ref a from d)
  obtain ⟨_,_,f,_,o,es,j,h1,g,_⟩:=(show ObjOk X.prog X.w H s.heap a (.dT kvs) from I.hok a _ ea)
  exact ŕ PySem.W.kitx_dict I.kIn ⟨o,h1,g.1⟩ e (λz=>nomatch z) h
 | @ins a C dx fs ea cl ha hn htk hm =>
  cases (show u=Value.ref a from d)
  obtain ⟨r,O,_⟩:=mC I.hok ea
  obtain ⟨D,J,_⟩:=O.look
  exact ŕ (PySem.W.kitx_own (cl.get _) cl.hd ha hn htk hm) I.kIn J e (λz=>nomatch z) h
end
structure Room(k:Nat)(A:æ):Prop where
 hd:A.handled=none
 dp:A.depth+3*k+5<recursionLimit
 un:A.units+16*k+200<cLine
def Room.mono{j k:Nat}{A:æ}(r:Room k A)(h:j<=k):Room j A:=⟨r.hd,by have:=r.dp;omega,by have:=r.un;omega⟩
def Room.deeper{k:Nat}{A:æ}(r:Room (k+1) A)(env:Env):Room k (A.deeper env) :=
 ⟨r.hd,by have:=r.dp;show A.depth+1+3*k+5<_;omega,by have:=r.un;show A.units+3+16*k+200<_;omega⟩
def Room.in1{k:Nat}{A:æ}(r:Room (k+1) A):Room k A.in1 :=
 ⟨r.hd,by have:=r.dp;show A.depth+3*k+5<_;omega,by have:=r.un;show A.units+1+16*k+200<_;omega⟩
def uq{A:æ}{C:é}{us:ü}{b:à (Str×å)}:(A.under (.builtin "type.__call__" ⟨.ref C::us,b⟩)).depth=A.depth+1:=by
 first | rfl | simp [Around.under,Code.weight,Code.isCreation,Code.isGuard,Code.isCaller,Code.frames,Code.isFrame,guardIds]
def uo{A:æ}{C:é}{us:ü}{b:à (Str×å)}:(A.under (.builtin "type.__call__" ⟨.ref C::us,b⟩)).units=A.units+1:=by
 first | rfl | simp [Around.under,Code.cUnits,Code.frames,Code.isFrame]
def Room.make{k:Nat}{A:æ}(r:Room (k+1) A)(C:é)(us:ü)(kw:à (Str×å)):Room k (A.under (.builtin "type.__call__" ⟨.ref C::us,kw⟩)) :=
 ⟨r.hd,by have:=r.dp;rw [uq];omega,by have:=r.un;rw [uo];omega⟩
def Room.depth{k:Nat}{A:æ}(r:Room k A):A.depth<recursionLimit:=by have:=r.dp;omega
def Room.units{k:Nat}{A:æ}(r:Room k A):A.units+64<cLine:=by have:=r.un;omega
def tG:TA:=λ_ H Q=>Q [] H
def Bl(ta:TE)(tr:TA):TA:=fun σ H Q=>ta σ H λx H1=>tr σ H1 λxs H2=>Q (x::xs) H2
section
variable {X:Cx}{e:á}{es:õ}{te:TE}{t:TA}{pos:Pos}
def ag:PA X [] tG:=λ_ _ _ _ H Q I h=>Ņ ⟨[],H,I,.nil,h⟩
def ac(q:PE X e te)(r:PA X es t)(w:starEach (e::es) X.env=(false,eval e X.env)::starEach es X.env:=by rfl):PA X (e::es) (Bl te t):=by
 intro pos b s σ H Q I h
 rw [w]
 show wpAny _ _ (spliced ((false,eval e X.env)::backTo pos (starEach es X.env))) _ _ s
 refine Ť (thn (q b s σ H _ I h) λu d ⟨x,H1,f,g,q1⟩=>?_)
 exact thn (r pos b d σ H1 _ f q1) λy z ⟨i,j,l,o,q2⟩=>⟨x::i,j,l,.cons g o,q2⟩
def Ez(t:TA):TE:=fun σ H Q=>t σ H λxs H1=>xs.length<=sizeLine/\∀p,H1 p=none->Q (.ref p) (upd H1 p (.tup xs))
def ED(t:TA):TE:=fun σ H Q=>t σ H λxs H1=>xs.length<=sizeLine/\∀p,H1 p=none->Q (.ref p) (upd H1 p (.lst xs))
def aL{x1}(h:PA X es t):PE X (.Tuple es x1 pos) (Ez t):=by
 intro d s σ H Q I l
 refine wpAny_Tuple_spliced (thn (h pos d s σ H _ I l) λi f ⟨j,H1,g,r,z,q⟩=>⟨by rw [← r.length];exact z,?_⟩)
 have hf:H1 f.heap.objs.size=none:=g.hok.fresh (ι _)
 refine ⟨.ref f.heap.objs.size,upd H1 f.heap.objs.size (.tup j),g.laid (t':=f.toks) (λb u e=>ρ _ e) (ι _) ?_,ϱ,q _ hf⟩
 exact ⟨z,i,r,⟨_,ψ _ rfl,ϱ,_,ϱ⟩⟩
def c7(h:PA X es t):PE X (.List es pos) (ED t):=by
 intro d s σ H Q I l
 refine wpAny_List_spliced (thn (h pos d s σ H _ I l) λi f ⟨j,H1,g,r,z,q⟩=>⟨by rw [← r.length];exact z,?_⟩)
 have hf:H1 f.heap.objs.size=none:=g.hok.fresh (ι _)
 refine ⟨.ref f.heap.objs.size,upd H1 f.heap.objs.size (.lst j),g.laid (t':=f.toks) (λb u e=>ρ _ e) (ι _) ?_,ϱ,q _ hf⟩
 exact ⟨z,i,0,r,ψ _ rfl⟩
end
abbrev Sp:=à V->Hp->VK->XK->Prop
abbrev CXT:=ö->Hp->ë->XK->å->ë->Prop
structure Env0(P:ê)(w:è)(K:ä)(mg:ā)(base:ã)(A:æ)(outer:ö)(s:ë)(H:Hp):Prop where
 frames:A.frames=some outer
 mod:Mod K mg base
 bs:∀b o,base.get? b=some o->s.heap.get? b=some o/\H b=none
 bsz:base.objs.size<=s.heap.objs.size
 funs:s.heap.FunFrames base outer
 frf:∀b∈frs outer,H b=none
 hok:HOk P w H s.heap
 bare:AllBare s.gens
def CE(outer:ö)(P:ê)(w:è)(H:Hp)(s:ë)(Q:VK)(u:å)(s':ë):Prop :=
 ∃v H',s'.os=s.os/\AllBare s'.gens/\Un (frs outer) [] H H' s.heap s'.heap/\HOk P w H' s'.heap/\RelV v u/\Q v H'
def CR(CX:CXT)(outer:ö)(P:ê)(w:è)(H:Hp)(s:ë)(Q:VK)(E:XK)(r:Result)(s':ë):Prop :=
 match r with
 | .ok (.ret u)=>CE outer P w H s Q u s'
 | .ok _=>False
 | .error e=>CX outer H s E e s'
structure FnOk(P:ê)(w:è)(K:ä)(mg:ā)(base:ã)(CX:CXT)(k:Nat)(f:é)(fd:ç)(ps:ú)(sp:Sp):Prop where
 len:∀vs H Q E,sp vs H Q E->vs.length=ps.length
 run:∀(A:æ) (outer:ö) (s:ë) (H:Hp) (args:Args) (us:ü) (vs:à V) (Q:VK) (E:XK),Room k A->Env0 P w K mg base A outer s H->BindsTo s fd args (ps.zip us)->Vals vs us->sp vs H Q E ->
  codeAny (model P w) A (.call (.ref f) args) (CR CX outer P w H s Q E) s
def FnOk.mono{P:ê}{w:è}{K:ä}{mg:ā}{base:ã}{CX:CXT}{j k:Nat}{f:é}{fd:ç}{ps:ú}{sp:Sp}(F:FnOk P w K mg base CX j f fd ps sp)(h:j<=k) :
  FnOk P w K mg base CX k f fd ps sp:=⟨F.len,λA outer s H args us vs Q E hr=>F.run A outer s H args us vs Q E (hr.mono h)⟩
def FnOk.imp{P:ê}{w:è}{K:ä}{mg:ā}{base:ã}{CX:CXT}{k:Nat}{f:é}{fd:ç}{ps:ú}{sp sp':Sp}(F:FnOk P w K mg base CX k f fd ps sp)
  (h:∀vs H Q E,sp' vs H Q E->sp vs H Q E):FnOk P w K mg base CX k f fd ps sp' :=
 ⟨λvs H Q E q=>F.len vs H Q E (h _ _ _ _ q),λA outer s H args us vs Q E hr he hb hv hs=>F.run A outer s H args us vs Q E hr he hb hv (h _ _ _ _ hs)⟩
def Env0.make{P:ê}{w:è}{K:ä}{mg:ā}{base:ã}{A:æ}{outer:ö}{s:ë}{H:Hp}(e:Env0 P w K mg base A outer s H)(C:é)(us:ü)(kw:à (Str×å)) :
  Env0 P w K mg base (A.under (.builtin "type.__call__" ⟨.ref C::us,kw⟩)) outer s H:=⟨by first | exact e.frames | (simpa [Around.under,Code.envs,Code.isFrame,pushEnvs] using e.frames),e.mod,e.bs,e.bsz,e.funs,e.frf,e.hok,e.bare⟩
def Env0.in1{P:ê}{w:è}{K:ä}{mg:ā}{base:ã}{A:æ}{outer:ö}{s:ë}{H:Hp}(e:Env0 P w K mg base A outer s H) :
  Env0 P w K mg base A.in1 outer s H:=⟨e.frames,e.mod,e.bs,e.bsz,e.funs,e.frf,e.hok,e.bare⟩
section
variable {X:Cx}{pins:ă}{σ:St}{H:Hp}{s s':ë}
def Inv.env0(I:Inv X pins σ H s):Env0 X.prog X.w X.K X.mg X.base X.A X.stack s H :=
 ⟨I.ok.frames,I.ok.mod,I.bs,Λ I.ok.bsz I.sz,I.stack,I.stkFree,I.hok,I.bare⟩
def Inv.after{Q:VK}{u:å}(I:Inv X pins σ H s)(h:CE X.stack X.prog X.w H s Q u s'):EP X pins σ Q u s':=by
 obtain ⟨v,j,l,e,un,f,r,q⟩:=h
 obtain ⟨o,g,d,t,i⟩:=s'
 obtain rfl:i=s.os:=l
 exact ⟨v,j,I.call (h':=o) (g':=g) (d':=d) (t':=t) (ch:=[]) un f e (λb z=>absurd z (by simp)),r,q⟩
end
def xm(sp:Sp)(dvs:à V)(E:XK)(t:TA):TE:=fun σ H Q=>t σ H λvs H1=>sp (vs++dvs) H1 Q E
inductive XM (C:é) (m:Str) (x:V) (H:Hp) (P:Prop):Prop|mk a dx fs:x=.ref a->H a=some (.ins C dx fs)->fs.lookup m=none->P->XM C m x H P
def uO(C:é)(m:Str)(sp:Sp)(dvs:à V)(E:XK)(ta:TE)(t:TA):TE:=fun σ H Q=>ta σ H λx H1=>XM C m x H1 (t σ H1 λvs H2=>sp (x::(vs++dvs)) H2 Q E)
def Bk(C:é)(sp:Sp)(dvs:à V)(E:XK)(t:TA):TE:=fun σ H Q=>t σ H λvs H1=>∀x dx,H1 x=none->H1 dx=none->dx≠x ->
 sp (.ref x::(vs++dvs)) (upd (upd H1 dx (.own x)) x (.ins C dx [])) (λv H2=>v=.non/\Q (.ref x) H2) E
def Binds(K:ä)(fd:ç)(ps:ú)(ds:ü):Prop :=
 ∀(s:ë) (us:ü),K.In s.heap->(us++ds).length=ps.length->BindsTo s fd ⟨us,[]⟩ (ps.zip (us++ds))
def Binds.all{K:ä}{fd:ç}{ps:ú}(h:∀us:ü,us.length=ps.length->bindArgs fd ⟨us,[]⟩=pure (ps.zip us)):Binds K fd ps []:=λs us _ hl=>by
 rw [ţ] at hl ⊢
 exact .of_eq (h us hl)
def dO(CX:CXT)(X:Cx)(E:XK):Prop:=∀(pins:ă) (σ:St) (H:Hp) (s:ë) (e:å) (s':ë),Inv X pins σ H s->CX X.stack H s E e s'->X.xe e s'
section
variable {X:Cx}{CX:CXT}{k:Nat}{f C:é}{fd:ç}{ps:ú}{sp:Sp}{dvs:à V}{ds:ü}{E:XK}{x m:Str}{p pos apos:Pos}{e o:á}{es:õ}{ta:TE}{t:TA}
def qO{b:ă}{σ:St}{H:Hp}{s:ë}{Q:VK}{us:ü}{vs:à V}(F:FnOk X.prog X.w X.K X.mg X.base CX k f fd ps sp)(l:Room k X.A)(hb:Binds X.K fd ps ds)(o:Vals dvs ds)(q:dO CX X E)
  (I:Inv X b σ H s)(r:Vals vs us)(h:sp (vs++dvs) H Q E):wpAny (model X.prog X.w) X.A (call (.ref f) us) (EP X b σ Q) X.xe s:=by
 have g:Vals (vs++dvs) (us++ds):=r.append o
 have i:(us++ds).length=ps.length:=by rw [← g.length];exact F.len _ _ _ _ h
 refine wpAny_call (Ė (F.run X.A X.stack s H ⟨us,[]⟩ (us++ds) (vs++dvs) Q E l I.env0 (hb s us I.kIn i) g h) λr j d=>?_)
 cases r with
 | error e=>exact q b σ H s e j I d
 | ok fl =>
  cases fl with
  | ret u=>exact I.after d
  | next=>exact False.elim d
  | brk=>exact False.elim d
  | cont=>exact False.elim d
def vh(F:FnOk X.prog X.w X.K X.mg X.base CX k f fd ps sp)(j:Room k X.A)(l:Gl X x)(o:X.mg x=some (.ref f))(u:PySem.W.keepIn X.K (.ref f)=true)(hb:Binds X.K fd ps ds)(y:Vals dvs ds)(z:dO CX X E)
  (C:PA X (e::es) t)(d:(x==("__debug__":Str))=false:=by decide)(D:starEach (e::es) X.env=(false,eval e X.env)::starEach es X.env:=by rfl)(g:(backTo pos (starEach es X.env)).any (·.1)=false:=by rfl) :
  PE X (.Call (.Name x p) (e::es) [] pos) (xm sp dvs E t):=by
 intro b s σ H Q I h
 refine Ļ (jM I l o ?_ d)
 refine ĕ (h₀:=X.base) I.ok.mod.kin u (thn (C pos b s σ H _ I h) λG J ⟨vs,H1,i,r,q⟩=>⟨i.kIn,?_⟩) D g
 exact qO F j hb y z i r q
def jF{pl:Sem Bool}(J:PE X o ta)(c:Cls X.K C)(y:i9 X.K C m f)(F:FnOk X.prog X.w X.K X.mg X.base CX k f fd ps sp)(L:Room k X.A)(hb:Binds X.K fd ps ds)(O:Vals dvs ds)(P:dO CX X E)(U:PA X (e::es) t)
  (d:starEach (e::es) X.env=(false,eval e X.env)::starEach es X.env:=by rfl)(g:(backTo pos (starEach es X.env)).any (·.1)=false:=by rfl)
  (Y:eval (.Call (.Attribute o m apos) (e::es) [] pos) X.env=(do
   let ov ← eval o X.env
   standAt apos.atName
   let (f,first) ← holding [ov] (getMethod ov m pl)
   callWith pos f first (backTo pos (starEach (e::es) X.env)) (backToKw pos (keywordEach [] X.env))):=by rfl) :
  PE X (.Call (.Attribute o m apos) (e::es) [] pos) (uO C m sp dvs E ta t):=by
 intro b s σ H Q I h
 refine Ď (pl:=pl) (thn (J b s σ H _ I h) λu z ⟨x,H1,i,D,a,Z,fs,ex,G,l,q⟩=>?_) Y
 subst ex
 obtain rfl:u=Value.ref a:=D
 refine jl i G c y l ?_
 refine ĕ (first:=[.ref a]) (h₀:=X.base) I.ok.mod.kin y.kp (thn (U pos b z σ H1 _ i q) λus s2 ⟨vs,H2,j,r,q2⟩=>⟨j.kIn,?_⟩) d g
 exact qO (us:=.ref a::us) (vs:=.ref a::vs) F L hb O P j (.cons rfl r) q2
def jE{pl:Sem Bool}(j:PE X o ta)(c:Cls X.K C)(e:i9 X.K C m f)(F:FnOk X.prog X.w X.K X.mg X.base CX k f fd ps sp)(r:Room k X.A)(hb:Binds X.K fd ps ds)(y:Vals dvs ds)(z:dO CX X E)
  (D:eval (.Call (.Attribute o m apos) [] [] pos) X.env=(do
   let ov ← eval o X.env
   standAt apos.atName
   let (f,first) ← holding [ov] (getMethod ov m pl)
   callWith pos f first (backTo pos (starEach [] X.env)) (backToKw pos (keywordEach [] X.env))):=by rfl) :
  PE X (.Call (.Attribute o m apos) [] [] pos) (uO C m sp dvs E ta tG):=by
 intro b s σ H Q I h
 refine Ď (pl:=pl) (thn (j b s σ H _ I h) λu G ⟨x,H1,d,g,a,J,fs,ex,i,l,q⟩=>?_) D
 subst ex
 obtain rfl:u=Value.ref a:=g
 refine jl d i c e l ?_
 exact PySem.W.callWith_K0 (first:=[.ref a]) d.kIn e.kp (qO (us:=[.ref a]) (vs:=[.ref a]) F r hb y z d (.cons rfl .nil) q)
structure Mk(K:ä)(C f:é):Prop where
 makes:PySem.W.makesIn K C=true
 init:PySem.W.findIn K (.ref C) "__init__"=some (some (.ref f))
 fn:PySem.W.isFn K (.ref f)=true
 kp:PySem.W.keepIn K (.ref C)=true
def rO{d:ă}{σ:St}{H:Hp}{s:ë}{Q:VK}{us:ü}{vs:à V}(M:Mk X.K C f)(F:FnOk X.prog X.w X.K X.mg X.base CX k f fd ps sp)(G:Room (k+1) X.A)(hb:Binds X.K fd ps ds)(J:Vals dvs ds)
  (L:dO CX X E)(I:Inv X d σ H s)(r:Vals vs us)
  (h:∀x dx,H x=none->H dx=none->dx≠x->sp (.ref x::(vs++dvs)) (upd (upd H dx (.own x)) x (.ins C dx [])) (λv H2=>v=.non/\Q (.ref x) H2) E) :
  wpAny (model X.prog X.w) X.A (call (.ref C) us) (EP X d σ Q) X.xe s:=by
 have i:=h (s.heap.objs.size+1) s.heap.objs.size (I.hok.fresh (Ł _)) (I.hok.fresh (ι _)) (Φ (Į _))
 have g:=Inv.made (C:=C) I
 have j:Vals (V.ref (s.heap.objs.size+1)::(vs++dvs)) (Value.ref (s.heap.objs.size+1)::(us++ds)):=.cons rfl (r.append J)
 have z:(Value.ref (s.heap.objs.size+1)::us++ds).length=ps.length:=by
  have e:=j.length
  rw [F.len _ _ _ _ i] at e
  exact e.symm
 refine wpAny_call (yQ (f:=f) I.kIn M.makes M.init (ą.mp M.fn) (Ė (F.run _ X.stack _ _ ⟨Value.ref (s.heap.objs.size+1)::us,[]⟩ (Value.ref (s.heap.objs.size+1)::(us++ds)) _ _ E (G.make C us [])
  (g.env0.make C us []) (hb _ (Value.ref (s.heap.objs.size+1)::us) g.kIn z) j i) λr D b=>?_))
 cases r with
 | error e=>exact L d σ _ _ e D g b
 | ok fl =>
  cases fl with
  | ret u =>
   obtain ⟨v,l,o,q,y,q3⟩:=g.after b
   subst y
   exact ⟨q,⟨V.ref (s.heap.objs.size+1),l,o,ϱ,q3⟩⟩
  | next=>exact False.elim b
  | brk=>exact False.elim b
  | cont=>exact False.elim b
def bb(M:Mk X.K C f)(F:FnOk X.prog X.w X.K X.mg X.base CX k f fd ps sp)(j:Room (k+1) X.A)(l:Gl X x)(o:X.mg x=some (.ref C))(hb:Binds X.K fd ps ds)(u:Vals dvs ds)(y:dO CX X E)
  (z:PA X (e::es) t)(d:(x==("__debug__":Str))=false:=by decide)(D:starEach (e::es) X.env=(false,eval e X.env)::starEach es X.env:=by rfl)(g:(backTo pos (starEach es X.env)).any (·.1)=false:=by rfl) :
  PE X (.Call (.Name x p) (e::es) [] pos) (Bk C sp dvs E t):=by
 intro b s σ H Q I h
 refine Ļ (jM I l o ?_ d)
 refine ĕ (h₀:=X.base) I.ok.mod.kin M.kp (thn (z pos b s σ H _ I h) λG J ⟨vs,H1,i,r,q⟩=>⟨i.kIn,?_⟩) D g
 exact rO M F j hb u y i r q
def xT(M:Mk X.K C f)(F:FnOk X.prog X.w X.K X.mg X.base CX k f fd ps sp)(e:Room (k+1) X.A)(g:Gl X x)(i:X.mg x=some (.ref C))(hb:Binds X.K fd ps ds)(j:Vals dvs ds)(l:dO CX X E)
  (b:(x==("__debug__":Str))=false:=by decide):PE X (.Call (.Name x p) [] [] pos) (Bk C sp dvs E tG):=by
 intro d s σ H Q I h
 refine Ļ (jM I g i ?_ b)
 exact PySem.W.callWith_K0 I.kIn M.kp (rO (us:=[]) M F e hb j l I .nil h)
end
structure ao(N P:ú)(sc:Scope):Prop where
 kind:sc.kind=.function
 co:sc.isCoroutine=false
 gen:sc.isGenerator=false
 nd:N.Nodup
 pre:N.take P.length=P
 par:∀x∈P,sc.names.lookup x=some .local\/sc.names.lookup x=some .cell
 nofree:∀y∈sc.names,y.2≠.free
def ß{N P sc}(a:sc.kind=.function:=by rfl)(b:sc.isCoroutine=false:=by rfl)(c:sc.isGenerator=false:=by rfl)(d:N.Nodup:=by decide +kernel)(e:N.take P.length=P:=by rfl)(f:∀x∈P,sc.names.lookup x=some .local\/sc.names.lookup x=some .cell:=by decide +kernel)(g:∀y∈sc.names,y.2≠.free:=by decide +kernel):ao N P sc:=⟨a,b,c,d,e,f,g⟩
theorem qi{kindOf:Str->Option NameKind}{x:Str}:∀{binds:à (Str×å)} {m:ā},(∀v,(x,v)∉binds)->bindL kindOf binds m x=m x
 | [],_,_=>rfl
 | (n,v)::r,m,h=>by
  unfold bindL
  rw [qi λw hw=>h w (Θ _ hw)]
  split
  .have:x≠n:=by rintro rfl;exact h v Ω
   simp [this]
  .rfl
theorem qk{kindOf:Str->Option NameKind}{x:Str}:∀{binds:à (Str×å)} {m:ā},(∀v,(x,v)∉binds)->bindC kindOf binds m x=m x
 | [],_,_=>rfl
 | (n,v)::r,m,h=>by
  unfold bindC
  rw [qk λw hw=>h w (Θ _ hw)]
  split
  .rfl
  .have:x≠n:=by rintro rfl;exact h v Ω
   simp [this]
theorem qj{kindOf:Str->Option NameKind}{x:Str}{v:å}:∀{P:ú} {vs:ü} {i:Nat} {m:ā},P.Nodup->P[i]?=some x->vs[i]?=some v->kindOf x=some .local ->
  bindL kindOf (P.zip vs) m x=some v
 | [],_,_,_,_,h,_,_=>by simp at h
 | _::_,[],_,_,_,_,h,_=>by simp at h
 | p::P,w::vs,0,m,nd,h1,h2,hk=>by
  simp at h1 h2;subst h1;subst h2
  show bindL kindOf ((p,w)::P.zip vs) m p=_
  unfold bindL
  rw [qi λv hv=>(đ.mp nd).1 (List.of_mem_zip hv).1,Ź hk]
  simp
 | p::P,w::vs,i+1,m,nd,h1,h2,hk=>by
  show bindL kindOf ((p,w)::P.zip vs) m x=_
  unfold bindL
  exact qj (i:=i) (List.nodup_cons.mp nd).2 (by simpa using h1) (by simpa using h2) hk
theorem ql{kindOf:Str->Option NameKind}{x:Str}{v:å}:∀{P:ú} {vs:ü} {i:Nat} {m:ā},P.Nodup->P[i]?=some x->vs[i]?=some v->kindOf x≠some .local ->
  bindC kindOf (P.zip vs) m x=some v
 | [],_,_,_,_,h,_,_=>by simp at h
 | _::_,[],_,_,_,_,h,_=>by simp at h
 | p::P,w::vs,0,m,nd,h1,h2,hk=>by
  simp at h1 h2;subst h1;subst h2
  show bindC kindOf ((p,w)::P.zip vs) m p=_
  unfold bindC
  rw [qk λv hv=>(đ.mp nd).1 (List.of_mem_zip hv).1,ž hk]
  simp
 | p::P,w::vs,i+1,m,nd,h1,h2,hk=>by
  show bindC kindOf ((p,w)::P.zip vs) m x=_
  unfold bindC
  exact ql (i:=i) (List.nodup_cons.mp nd).2 (by simpa using h1) (by simpa using h2) hk
def start(N:ú)(vs:à V):St:=vs.map some++List.replicate (N.length-vs.length) none
def sQ(CX:CXT)(P:ê)(w:è)(K:ä)(mg:ā)(base:ã)(N:ú)(qual:Str)(scope:Scope)(f:é)(cd:å)(A:æ)(outer:ö)(s:ë)(H:Hp)(E:XK):Cx where
 prog:=P
 w:=w
 K:=K
 mg:=mg
 base:=base
 A:=A.deeper (envOfC qual scope s.heap.objs.size f cd)
 N:=N
 s₀:=s
 H₀:=H
 env:=envOfC qual scope s.heap.objs.size f cd
 outer:=outer
 stack:=envOfC qual scope s.heap.objs.size f cd::outer
 ex:=[]
 calm:=true
 fn:=λ_=>true
 pn:=[]
 xe:=λe s'=>wpAny (model P w) (A.deeper (envOfC qual scope s.heap.objs.size f cd)) (leaving (envOfC qual scope s.heap.objs.size f cd) e) (λ_ s''=>CX outer H s E e s'') (λe' s''=>CX outer H s E e' s'') s'
def sT{b:Scope}{n:Nat}{x:Str}(h:b.names.lookup x=some .cell):∃c,(cellsFrom n b.names []).lookup x=some c:=by
 have q:=PySem.W.cellsFrom_some b.names n [] (.inl h)
 exact Option.isSome_iff_exists.mp q
def wB{J:CXT}{P:ê}{w:è}{K:ä}{mg:ā}{base:ã}{N ps:ú}{g:Str}{scope:Scope}{f:é}{F:å}{A:æ}{d:ö}{s s1:ë}{H:Hp}{E:XK}{us:ü}{vs:à V}
  (S:ao N ps scope)(U:A.handled=none)(e0:Env0 P w K mg base A d s H)(Y:vs.length=ps.length)(r:Vals vs us)
  (x:InCallC s s.heap.objs.size (bindL (envOfC g scope s.heap.objs.size f F).kindOf (ps.zip us) λ_=>none) (cellsFrom (s.heap.objs.size+1) scope.names []) (bindC (envOfC g scope s.heap.objs.size f F).kindOf (ps.zip us) λ_=>none) s1) :
  Inv (sQ J P w K mg base N g scope f F A d s H E) [] (start N vs) H s1:=by
 have O:ps.length<=N.length:=by have:=congrArg List.length S.pre;rw [ĺ] at this;omega
 obtain ⟨h1,W,rfl,G⟩:=x.done
 have l:∀b:é,b∉(sQ J P w K mg base N g scope f F A d s H E).ex:=λb z=>absurd (show b∈([]:û) from z) (by simp)
 refine ⟨⟨e0.mod,S.kind,ϱ,ϱ,ι _,λy z c h1 j=>?_,λy hy=>?_,λy c _ h=>?_,λ_=>U,Around.frames_deeper e0.frames,.inr ⟨ϱ,ϱ⟩,λb z=>absurd z (l b),e0.bs,e0.bsz,λb _ _=>l b,λb z=>absurd z (l b),e0.funs,e0.frf⟩,
  rfl,e0.bare,Un.kept G,⟨_,x.toInCall.ns,λi y v h1 j X=>?_⟩,λy c h=>⟨_,x.cell y c h⟩,e0.hok.fresh (Nat.le_refl _),λy c h=>?_,λp o=>absurd (show p∈([]:ă) from o) (by simp),e0.hok.kept G,?_⟩
 .exact name_of_addr x.apart (ů h1) (ů j)
 .have hy:scope.names.lookup y=some .cell\/scope.names.lookup y=some .free:=hy
  rcases hy with hy | hy
  .exact sT hy
  .exact absurd rfl (S.nofree _ (ů hy))
 .exact Ĉ (x.above y c (ů h))
 .have D:i<vs.length:=by
   unfold start at j
   by_cases D:i<vs.length
   .exact D
   .rw [List.getElem?_append_right (by simpa using D)] at j
    rw [List.getElem?_replicate] at j
    split at j<;>cases j
  have Q:vs[i]?=some v:=by
   unfold start at j
   rw [List.getElem?_append_left (by simpa using D),List.getElem?_map] at j
   cases e:vs[i]? with
   | none=>rw [e] at j;cases j
   | some a=>rw [e] at j;cases j;rfl
  obtain ⟨u,I,L⟩:=r.get Q
  have o:ps[i]?=some y:=by
   rw [← S.pre,List.getElem?_take_of_lt ω];exact h1
  have C:ps.Nodup:=by rw [← S.pre];exact S.nd.sublist (List.take_sublist _ _)
  refine ⟨u,L,?_⟩
  rcases S.par y (Ŵ o) with k | k
  .exact .inl ⟨k,qj C o I k⟩
  .obtain ⟨c,e⟩:=sT (n:=s.heap.objs.size+1) k
   refine .inr ⟨.inl k,c,e,?_⟩
   have q:=x.cell y c e
   rw [ql C o I (by show scope.names.lookup y≠_;rw [k];decide)] at q
   exact q
 .exact e0.hok.fresh (Ĉ (x.above y c (ů h)))
 .unfold start
  show _=N.length
  rw [Ž,ν,List.length_replicate]
  omega
def BG{G:CXT}{P:ê}{w:è}{K:ä}{mg:ā}{base:ã}{k:Nat}{f:é}{name g:Str}{i:Arguments}{body:à â}{scope:Scope}{dV kV D pm h ct oc:å}{an od:Option é}
  {Y:Array (î)}{N ps:ú}{sp:Sp}(lk:K.lookup f=some ⟨oc,od,.func (PySem.W.fnOf name g i body scope dV kV D pm an h ct),Y⟩)(Z:PySem.W.codeIn K h g=true)(S:ao N ps scope)
  (len:∀vs H Q E,sp vs H Q E->vs.length=ps.length)
  (l:∀(A:æ) (d:ö) (s:ë) (H:Hp) (vs:à V) (Q:VK) (E:XK),Room k (A.deeper (envOfC g scope s.heap.objs.size f h))->sp vs H Q E ->
   ∃t,PSs (sQ G P w K mg base N g scope f h A d s H E) body t/\t {nx:=λ_ H'=>Q .non H',rt:=Q} (start N vs) H) :
  FnOk P w K mg base G (k+1) f (PySem.W.fnOf name g i body scope dV kV D pm an h ct) ps sp:=by
 refine ⟨len,λA d s H a1 us vs Q E U e0 hb r C=>?_⟩
 have hl:=len _ _ _ _ C
 have KX:K.In s.heap:=e0.mod.kin.keeps λb o e=>(e0.bs b o e).1
 have O:s.heap.NoLimit:=e0.mod.nolimit.keeps λb o e=>(e0.bs b o e).1
 have j:∀y∈ps.zip us,scope.names.lookup y.1=some .local\/(scope.names.lookup y.1=some .cell/\((cellsFrom (s.heap.objs.size+1) scope.names []).lookup y.1).isSome=true):=λ⟨n,v⟩ hy=>by
  rcases S.par n (List.of_mem_zip hy).1 with q | q
  .exact .inl q
  .exact .inr ⟨q,PySem.W.cellsFrom_some _ _ _ (.inl q)⟩
 refine codeAny_call_function U.depth (KX _ _ lk) rfl S.co S.gen rfl (PySem.W.codeRec_of KX Z) (hb _ _ _ _ ?_)
 refine wpAny_newFunctionEnv_cells S.kind j λak he s1 x=>?_
 subst he
 refine ⟨O.keeps x.toInCall.keep,codeAny_func ?_⟩
 obtain ⟨t,ht,hq⟩:=l A d s H vs Q E (U.deeper _) C
 have I:Inv (sQ G P w K mg base N g scope f h A d s H E) [] (start N vs) H s1:=wB S U.hd e0 hl r x
 refine ū (ht [] s1 (start N vs) H _ I hq) (λfl X z=>?_) λe X z=>z
 have fin:∀{F:St} {H':Hp} {v:V} {u:å},Inv (sQ G P w K mg base N g scope f h A d s H E) [] F H' X->RelV v u->Q v H'->CE d P w H s Q u X :=
  λ{F H' v u} J L q=>⟨v,H',J.os,J.bare,J.base,J.hok,L,q⟩
 cases fl with
 | ret u =>
  obtain ⟨v,F,H',J,L,q⟩:=z
  exact fin J L q
 | next =>
  obtain ⟨F,H',J,q⟩:=z
  exact fin (v:=V.non) (u:=Value.none) J rfl q
 | brk =>
  obtain ⟨_,_,_,q⟩:=z
  exact False.elim q
 | cont =>
  obtain ⟨_,_,_,q⟩:=z
  exact False.elim q
section
variable {X:Cx}{x:Str}{p pos:Pos}{e:á}{es:õ}{t:TA}{id T:String}{r:à V->Hp->VK->Prop}
def tCB(r:à V->Hp->VK->Prop)(t:TA):TE:=fun σ H Q=>t σ H λvs H1=>r vs H1 Q
def aK(o:du X (.builtin id) r)(q:Gl X x)(u:X.mg x=none)(w:bootBuiltins x=some (.builtin id))(y:PA X (e::es) t)(z:x≠"__name__":=by decide)(d:(x==("__debug__":Str))=false:=by decide)
  (C:starEach (e::es) X.env=(false,eval e X.env)::starEach es X.env:=by rfl)(f:(backTo pos (starEach es X.env)).any (·.1)=false:=by rfl):PE X (.Call (.Name x p) (e::es) [] pos) (tCB r t):=by
 intro b s σ H Q I h
 refine Ļ (kK I q u w ?_ z d)
 exact PyProof.Rows.callWith_builtin1 (thn (y pos b s σ H _ I h) λg i ⟨vs,H1,j,l,q1⟩=>o b i σ H1 vs g Q j l q1) C f
def aP(o:du X (.type T) r)(q:Gl X x)(u:X.mg x=none)(w:bootBuiltins x=some (.type T))(y:PA X (e::es) t)(z:x≠"__name__":=by decide)(d:(x==("__debug__":Str))=false:=by decide)
  (C:starEach (e::es) X.env=(false,eval e X.env)::starEach es X.env:=by rfl)(f:(backTo pos (starEach es X.env)).any (·.1)=false:=by rfl):PE X (.Call (.Name x p) (e::es) [] pos) (tCB r t):=by
 intro b s σ H Q I h
 refine Ļ (kK I q u w ?_ z d)
 exact PyProof.Rows.callWith_type1 (thn (y pos b s σ H _ I h) λg i ⟨vs,H1,j,l,q1⟩=>o b i σ H1 vs g Q j l q1) C f
end
end L2
namespace HT
open PySem PyProof.Rows
def gl:ù->ù->Bool
 | [],[]=>false
 | [],_::_=>true
 | _::_,[]=>false
 | x::xs,y::ys=>if x=y then gl xs ys else decide (x<y)
def uu(x y:Int)(xs ys:ù):gl (x::xs) (y::ys)=if x=y then gl xs ys else decide (x<y):=rfl
def pB:gl [] []=false:=rfl
def ou(y:Int)(ys:ù):gl [] (y::ys)=true:=rfl
def ox(x:Int)(xs:ù):gl (x::xs) []=false:=rfl
def zk(A:æ)(s:ë)(a:Int)(t:Tok)(c:Int)(u:Tok):∃e,SeqAt.EqAt A s (.int a t) (.int c u) e/\(e=true↔a=c) :=
 ⟨(a==c),SeqAt.EqAt.int_int a t c u,by simp⟩
def xJ(A:æ)(s:ë)(a:Int)(t:Tok)(c:Int)(u:Tok)(prog:ê)(w:è)(E:Ă)(Q:Ă)(h:Q (.bool (decide (a<c))) s) :
  wpAny (model prog w) A (richCompare .Lt (.int a t) (.int c u)) Q E s :=
 (PyProof.Rows.lt_int h:wpAny (model prog w) A (compareOp .Lt (.int a t) (.int c u)) Q E s)
section
open PySem.SeqAt
open PySem.AutoSeq1 (wpAny_loadPart')
open PySem.MeetsSeq PySem.MeetsSeq2 PySem.MeetsSeq3
def oT(l b:é)(i f:ì)(n I:Nat)(dd D:Option é)(J F:Array (î))(r z:ù)(G:IntsAre i.toList r)(H:IntsAre f.toList z) :
  Meets (Builtin.«tuple.__lt__» ⟨[.ref l, .ref b], []⟩)
   (λ_ R s=>s.heap.get? l=some {cls:=.type "tuple",dict:=dd,data:=.seq i n,slots:=J}/\s.heap.get? b=some {cls:=.type "tuple",dict:=D,data:=.seq f I,slots:=F} /\
    R (.ok (.ret (.bool (gl r z)))) s) :=
 .of_wp λprog w A R s h=>by
  obtain ⟨hp,g,d,tk,os⟩:=s;obtain ⟨hl,hb,h⟩:=h
  have f2:=AutoSeq1.sub_tuple_tuple
  have z1:i.size=r.length:=by rw [← G.length];simp
  have z2:f.size=z.length:=by rw [← H.length];simp
  wp_walk using wpAny_loadPart' hl,wpAny_loadPart' hb,wpAny_forIn_list _ (λrest b s'=>b.1=none/\s'=⟨hp,g,d,tk,os⟩/\∃(vs C:ü) (j o:ù),rest=vs.zip C /\
   IntsAre vs j/\IntsAre C o/\j.length+f.size=o.length+i.size/\R (.ok (.ret (.bool (gl j o)))) ⟨hp,g,d,tk,os⟩) _
  case turn =>
   rintro ⟨y,x⟩ rest b s' ⟨hb',rfl,vs,C,j,o,hz,hvi,hwi,hlen,hR⟩
   cases hvi with
   | nil=>rw [List.zip_nil_left] at hz;cases hz
   | cons a t hvi' =>
    cases hwi with
    | nil=>rw [List.zip_nil_right] at hz;cases hz
    | cons c u hwi' =>
     rw [List.zip_cons_cons] at hz
     injection hz with hyx hrest
     injection hyx with hy hx
     subst hy hx
     rw [uu] at hR
     simp only [List.length_cons] at hlen
     obtain ⟨e,he,hiff⟩:=zk A.in1 ⟨hp,g,d,tk,os⟩ a t c u
     refine ε (he prog w _ _ ?_)
     cases e with
     | true =>
      rw [Ź (hiff.mp rfl)] at hR
      wp_walk
      exact ⟨ϱ,ϱ,_,_,_,_,hrest,hvi',hwi',ω,hR⟩
     | false =>
      rw [ž (λq=>absurd (hiff.mpr q) Ÿ)] at hR
      have hri:=xJ A.in1 ⟨hp,g,d,tk,os⟩ a t c u prog w
      wp_walk using hri
      exact ⟨_,ϱ,by simpa using hR⟩
  case fin =>
   rintro ⟨b1,b2⟩ s' ⟨hb',rfl,vs,C,j,o,hz,hvi,hwi,hlen,hR⟩
   simp only at hb'
   subst hb'
   have hv:gl j o=decide (i.size<f.size):=by
    cases hvi with
    | nil =>
     cases hwi with
     | nil =>
      simp only [List.length_nil] at hlen
      rw [pB]
      exact (Γ ω).symm
     | cons c u hw =>
      simp only [List.length_nil,List.length_cons] at hlen
      rw [ou]
      exact (τ ω).symm
    | cons a t hv =>
     cases hwi with
     | nil =>
      simp only [List.length_nil,List.length_cons] at hlen
      rw [ox]
      exact (Γ ω).symm
     | cons c u hw =>
      rw [List.zip_cons_cons] at hz
      cases hz
   rw [hv] at hR
   wp_walk
   exact ⟨_,ϱ,by simpa [Builtin.Tuple.tupleCompareSizes] using hR⟩
  case h =>
   exact ⟨ϱ,ϱ,i.toList,f.toList,r,z,ϱ,G,H,ω,h⟩
end
section
variable {prog:ê}{w:è}{A:æ}{E:Ă}{s:ë}
def ur{l b:é}{e d:ì}{j o:ù}{Q:Ă}(K:IsTup s.heap l e)(hb:IsTup s.heap b d)(L:IntsAre e.toList j)(O:IntsAre d.toList o)
  (P:A.units<cLine)(h:Q (.bool (gl j o)) s):wpAny (model prog w) A (compareOp .Lt (.ref l) (.ref b)) Q E s:=by
 obtain ⟨⟨H,dd,y,I⟩,z,C,n,D⟩:=id K
 obtain ⟨⟨G,q,r,u⟩,f,g,J,i⟩:=id hb
 simp only at C D g i
 subst C D g i
 exact richCompare_meets_room (op:=.Lt) ⟨_,z,ϱ⟩ ⟨_,f,ϱ⟩ PySem.F.slot_tuple_lt PySem.F.entry_tuple_lt (PySem.F.args_tuple_lt_2 _ _) (oT l b e d n J dd q I u j o L O)
  ⟨z,f,show Value.bool (gl j o)≠Value.notImplemented/\Q (.bool (gl j o)) s from ⟨(λx=>nomatch x),h⟩⟩ P
def A9{t b:é}{vs d:ü}{Q:Ă}(C:IsTup s.heap t vs.toArray)(hb:IsTup s.heap b d.toArray)(z:vs≠[])
  (h1:d=[]->Q (.ref t) s)(D:d≠[]->Q (.ref s.heap.objs.size) {s with heap:=s.heap.push {cls:=.type "tuple",data:=.seq (vs++d).toArray}})
  (hsz:vs.length+d.length<=sizeLine):wpAny (model prog w) A (binaryOp .Add (.ref t) (.ref b)) Q E s:=by
 obtain ⟨⟨cls,dd,data,q⟩,l,r,n,u⟩:=id C
 obtain ⟨⟨x,g,o,h⟩,f,i,y,j⟩:=id hb
 simp only at r u i j
 subst r u i j
 have e:vs.toArray++d.toArray=(vs++d).toArray:=by simp
 by_cases hw:d=[]
 .exact concat_meets ⟨_,l,ϱ⟩ ⟨_,f,ϱ⟩ noFill_tuple_add seq_tuple_add PySem.F.slot_tuple_add PySem.F.entry_tuple_add (PySem.F.args_tuple_add_2 _ _)
   (tuple_addW1 t b vs.toArray d.toArray n y dd g q h (by simpa using z) (by simp [hw])) ⟨l,f,h1 hw⟩
 .refine concat_meets ⟨_,l,ϱ⟩ ⟨_,f,ϱ⟩ noFill_tuple_add seq_tuple_add PySem.F.slot_tuple_add PySem.F.entry_tuple_add (PySem.F.args_tuple_add_2 _ _)
   (tuple_addW2 t b vs.toArray d.toArray n y dd g q h (by simpa using z) (by simpa using hw) (by rw [List.size_toArray,List.size_toArray];exact hsz)) ⟨l,f,?_⟩
  rw [e]
  exact D hw
def sIx(n d:Nat):Option Int->Nat
 | none=>d
 | some v=>if v<0 then (v+(n:Int)).toNat else min v.toNat n
def u7(n d k:Nat):sIx n d (some (k:Int))=min k n:=by
 show (if (k:Int)<0 then ((k:Int)+(n:Int)).toNat else min (k:Int).toNat n)=min k n
 rw [ž ω,ř]
end
end HT
namespace L2
open PySem PySem.Spec PyProof.Rows
abbrev TO:=St->Hp->(Option Int->Hp->Prop)->Prop
def PO(X:Cx)(e:Option á)(t:TO):Prop :=
 ∀(pins:ă) (s:ë) (σ:St) (H:Hp) (Q:Option Int->Hp->Prop),Inv X pins σ H s->t σ H Q ->
  wpAny (model X.prog X.w) X.A (evalPart e X.env) (λu s'=>∃o H',Inv X pins σ H' s'/\IsPart u o/\Q o H') X.xe s
def DB(t:TE):TO:=fun σ H Q=>t σ H λx H1=>∃i,x=.int i/\Q (some i) H1
def oB{b:ù}:∀{us:ü},Vals (b.map V.int) us->IntsAre us b:=by
 induction b with
 | nil=>intro us r;rw [List.map_nil] at r;cases r;exact .nil
 | cons n b ih =>
  intro us r
  rw [ű] at r
  cases r with
  | cons r1 r2 =>
   obtain ⟨t,e⟩:=r1
   subst e
   exact .cons n t (ih r2)
section
variable {X:Cx}{e:á}{te:TE}{lo hi:Option á}{tl th:TO}{pos p2:Pos}
def iO(h:PE X e te):PO X (some e) (DB te):=by
 intro b s σ H Q I g
 rw [evalPart_some]
 refine thn (h b s σ H _ I g) λu j ⟨x,H1,d,f,q1⟩=>?_
 obtain ⟨i,rfl,q⟩:=q1
 obtain ⟨t,rfl⟩:=f
 exact ⟨some i,H1,d,.int i t,q⟩
def SlR(X:Cx)(r:V->Option Int->Option Int->Hp->VK->Prop):Prop :=
 ∀(pins:ă) (s:ë) (σ:St) (H:Hp) (x:V) (v vl vu:å) (lo hi:Option Int) (sl:é) (Q:VK),Inv X pins σ H s->RelV x v->s.heap.IsSliceOf sl vl vu .none->IsPart vl lo->IsPart vu hi->r x lo hi H Q ->
  ∃T id,typeLookup (.type T) "__getitem__"=pure (some (.builtin id))/\s.TypeIs v T/\wpAny (model X.prog X.w) X.A (getItem v (.ref sl)) (EP X pins σ Q) X.xe s
def tSl(r:V->Option Int->Option Int->Hp->VK->Prop)(te:TE)(tl th:TO):TE:=fun σ H Q=>te σ H λx H1=>tl σ H1 λl H2=>th σ H2 λu H3=>r x l u H3 Q
def nQ{r:V->Option Int->Option Int->Hp->VK->Prop}(W:SlR X r)(Y:PE X e te)(Z:PO X lo tl)(hu:PO X hi th):PE X (.Subscript e (.Slice lo hi none p2) pos) (tSl r te tl th):=by
 intro d s σ H Q I h
 refine Subscript_ (thn (Y d s σ H _ I h) λv D ⟨x,H1,F,G,q1⟩=>?_)
 refine wpAny_Slice (thn (Z d D σ H1 _ F q1) λg J ⟨l,K,L,O,q2⟩=>thn (hu d J σ K _ L q2) λi f ⟨u,j,P,U,q3⟩=>?_)
 rw [evalPart_none]
 refine π ?_
 have C:Inv X d σ j {f with heap:=f.heap.push {cls:=.type "slice",data:=.fields #[g,i,.none]}}:=P.kept (t':=f.toks) λb ob q=>ρ _ q
 obtain ⟨T,id,o,y,z⟩:=W d {f with heap:=f.heap.push {cls:=.type "slice",data:=.fields #[g,i,.none]}} σ j x v g i l u f.heap.objs.size Q C G (Heap.IsSliceOf.new ..) O U q3
 show wpAny (model X.prog X.w) X.A (subscriptTail e (.Slice lo hi none p2) v (.ref f.heap.objs.size)) (EP X d σ Q) X.xe {f with heap:=f.heap.push {cls:=.type "slice",data:=.fields #[g,i,.none]}}
 exact tail_any (ops:=[.ref f.heap.objs.size,v]) y o z (by with_unfolding_all rfl)
def kM(xs:à V)(lo hi:Option Int):à V:=(xs.drop (HT.sIx xs.length 0 lo)).take (HT.sIx xs.length xs.length hi-HT.sIx xs.length 0 lo)
def sR(xs:à V)(lo hi:Option Int):(kM xs lo hi).length<=xs.length:=by
 unfold kM
 rw [ĺ,List.length_drop]
 omega
def Bs(K:ä):R2:=λx y H Q=>∃a b xs ys,x=.ref a/\y=.ref b/\SqT K H a xs/\SqT K H b ys/\xs≠[]/\xs.length+ys.length<=sizeLine /\
 (ys=[]->Q (.ref a) H)/\(ys≠[]->∀p,H p=none->Q (.ref p) (upd H p (.tup (xs++ys))))
def Vals.nil_iff{xs:à V}{us:ü}(r:Vals xs us):us=[]↔xs=[]:=by
 cases r with
 | nil=>simp
 | cons _ _=>simp
def Ag:OpR X (binaryOp .Add) (Bs X.K):=by
 intro i s σ H x y v u Q I G J h
 obtain ⟨a,b,j,l,rfl,rfl,r,hb,C,f,q1,q2⟩:=h
 cases G
 cases J
 obtain ⟨D,e,F,_⟩:=I.tuple r
 obtain ⟨g,d,p2,_⟩:=I.tuple hb
 refine HT.A9 F p2 (λz=>C (e.nil_iff.mp z)) (λz=>⟨.ref a,H,I,ϱ,q1 (d.nil_iff.mp z)⟩) (λz=>?_) (by rw [← e.length,← d.length];exact f)
 refine ⟨.ref s.heap.objs.size,_,I.laid (t':=s.toks) (o:=.tup (j++l)) (λb L q=>ρ _ q) (ι _) ?_,ϱ,q2 (λw=>z (d.nil_iff.mpr w)) _ (I.hok.fresh (ι _))⟩
 exact ⟨by rw [Ž];exact f,_,e.append d,IsTup.new _ _⟩
end
def ixN(n:Nat)(i:Int):Option Nat:=if 0<=i then (if i<n then some i.toNat else none) else if -(n:Int)<=i then some (i+n).toNat else none
def atI{α:Type}(xs:à α)(i:Int):Option α:=(ixN xs.length i).bind λj=>xs[j]?
def vv{n:Nat}{i:Int}{j:Nat}(h:ixN n i=some j):seqIndex? i n=some j/\j<n/\-(n:Int)<=i/\i<n:=by
 unfold ixN at h
 by_cases h0:0<=i
 .rw [Ź h0] at h
  by_cases h1:i<n
  .rw [Ź h1] at h
   have e:i.toNat=j:=Δ h
   exact ⟨by rw [seqIndex_of h0 h1,e],ω,ω,h1⟩
  .rw [ž h1] at h;cases h
 .rw [ž h0] at h
  by_cases h1:-(n:Int)<=i
  .rw [Ź h1] at h
   have e:(i+n).toNat=j:=Δ h
   exact ⟨by rw [seqIndex_neg ω h1,e],ω,h1,ω⟩
  .rw [ž h1] at h;cases h
def rn{α:Type}{xs:à α}{i:Int}{v:α}(h:atI xs i=some v):∃j,seqIndex? i xs.length=some j/\xs[j]?=some v/\j<xs.length/\-(xs.length:Int)<=i/\i<xs.length:=by
 unfold atI at h
 cases e:ixN xs.length i with
 | none=>rw [e] at h;cases h
 | some j =>
  rw [e] at h
  obtain ⟨h1,b,d,f⟩:=vv e
  exact ⟨j,h1,h,b,d,f⟩
def br{α:Type}{xs:à α}{j:Nat}{v:α}(h:xs[j]?=some v):atI xs (j:Int)=some v:=by
 have b:j<xs.length:=(ż.mp h).1
 have e:ixN xs.length (j:Int)=some j:=by
  unfold ixN
  rw [if_pos ω,if_pos ω];simp
 unfold atI;rw [e];exact h
def Bc(b:á):Prop:=∀o i,subscripted b false o i=operate [o,i] (getItem o i)
def IxR(X:Cx)(r:R2):Prop :=
 ∀(value slice:á) (pins:ă) (s:ë) (σ:St) (H:Hp) (x y:V) (v u:å) (Q:VK),Inv X pins σ H s->RelV x v->RelV y u->r x y H Q ->
  subscripted slice false v u=operate [v,u] (getItem v u)->wpAny (model X.prog X.w) X.A (subscriptTail value slice v u) (EP X pins σ Q) X.xe s
def MtR(X:Cx)(id:String)(r:V->à V->Hp->VK->Prop):Prop :=
 ∀(pins:ă) (s:ë) (σ:St) (H:Hp) (x:V) (xs:à V) (v:å) (us:ü) (Q:VK),Inv X pins σ H s->RelV x v->Vals xs us->r x xs H Q ->
  wpAny (model X.prog X.w) X.A (call (.builtin id) (v::us)) (EP X pins σ Q) X.xe s
section
variable {X:Cx}{a b:á}{ta tb:TE}{pos:Pos}
def ay{r:R2}(l:IxR X r)(o:PE X a ta)(hb:PE X b tb)(w:Bc b):PE X (.Subscript a b pos) (tOp r ta tb):=by
 intro d s σ H Q I h
 exact Subscript_ (Dj o hb I h λv u e x y f g i j q=>l a b d e σ f x y v u Q g i j q (w _ _))
inductive XXL (K:ä) (x y:V) (H:Hp) (Q:VK):Prop|mk p xs i v:x=.ref p->y=.int i->SqL K H p xs->atI xs i=some v->Q v H->XXL K x y H Q
def cH(K:ä):R2:=λx y H Q=>XXL K x y H Q
inductive XXT (K:ä) (x y:V) (H:Hp) (Q:VK):Prop|mk p xs i v:x=.ref p->y=.int i->SqT K H p xs->atI xs i=some v->Q v H->XXT K x y H Q
def a9(K:ä):R2:=λx y H Q=>XXT K x y H Q
def DW:R2:=λx y H Q=>∃z i c,x=.str z/\y=.int i/\z.length<=sizeLine/\atI z.cps.toList i=some c/\Q (.str ⟨#[c]⟩) H
def aI:IxR X (cH X.K):=by
 intro l o b s σ H x y v u Q I W Y h D
 obtain ⟨p,Z,i,z,rfl,rfl,F,G,q⟩:=h
 cases W
 obtain ⟨t,rfl⟩:=Y
 obtain ⟨d,r,e,hz⟩:=I.list F
 obtain ⟨j,h1,J,h3,L,O⟩:=rn G
 obtain ⟨w,C,f⟩:=r.get J
 have P:=r.length
 have hn:=kz
 have fin:EP X b σ Q w s:=⟨z,H,I,f,q⟩
 by_cases h0:0<=i
 .have g:i.toNat=j:=by
   rw [seqIndex_of h0 O] at h1
   exact Δ h1
  exact item_listR e.isList h0 ω (by rw [g];simpa using C) fin D
 .have g:(i+(d.toArray.size:Int)).toNat=j:=by
   rw [seqIndex_neg ω L] at h1
   rw [ŵ,← P]
   exact Δ h1
  exact subscriptTail_builtinR (x:=w) e.isList.typeIs slot_list_getitem.lookup
   (wpAny_getItem_list_neg (Q:=λr U=>r=w/\EP X b σ Q r U) e.isList ω (by rw [List.size_toArray]<;>omega) ω (by rw [g];simpa using C) ⟨ϱ,fin⟩) D
def aC:IxR X (a9 X.K):=by
 intro e f b s σ H x y v u Q I L O h P
 obtain ⟨p,U,i,z,rfl,rfl,l,o,q⟩:=h
 cases L
 obtain ⟨t,rfl⟩:=O
 obtain ⟨C,r,g,W⟩:=I.tuple l
 obtain ⟨j,h1,D,Y,Z,h5⟩:=rn o
 obtain ⟨w,F,d⟩:=r.get D
 have G:=r.length
 have hn:=kz
 have fin:EP X b σ Q w s:=⟨z,H,I,d,q⟩
 exact subscriptTail_builtinR (x:=w) g.typeIs slot_tuple_getitem.lookup
  (getItem_tuple (j:=j) (Q:=λr J=>r=w/\EP X b σ Q r J) g ω ω (by rw [List.size_toArray,← G];exact h1) (by simpa using F) ⟨ϱ,fin⟩) P
def yV:IxR X DW:=by
 intro b d e s σ H x y v u Q I D F h G
 obtain ⟨z,i,c,rfl,rfl,J,f,q⟩:=h
 obtain ⟨t,rfl⟩:=D
 obtain ⟨K,rfl⟩:=F
 obtain ⟨j,h1,g,L,l,o⟩:=rn f
 have r:z.cps.toList.length=z.length:=by simp [Str.length]
 rw [r] at h1 l o
 have O:=kz
 exact tail_any (typeIs_str s z t) slot_str_getitem.lookup (getItem_str (c:=c) (by
  have w:decide (i < -(2 ^ 63:Int))=false:=Γ ω
  have C:decide (i≥2 ^ 63)=false:=Γ ω
  rw [w,C,Bool.or_false]) (by rw [h1];simpa using g) ⟨.str ⟨#[c]⟩,H,I.tok _,⟨_,ϱ⟩,q⟩) G
def um(its:ü)(n j:Nat)(u:å):Obj.mapSeq (·.setIfInBounds j u) {cls:=.type "list",data:=.seq its.toArray n}={cls:=.type "list",data:=.seq (its.set j u).toArray n}:=by
 simp [Obj.mapSeq]
def Inv.lst{b:ă}{σ:St}{H:Hp}{s:ë}{p:é}{xs:à V}(I:Inv X b σ H s)(h:H p=some (.lst xs)) :
  ∃(its:ü) (n:Nat),Vals xs its/\s.heap.get? p=some {cls:=.type "list",data:=.seq its.toArray n}/\xs.length<=sizeLine:=by
 obtain ⟨z,its,n,r,e⟩:=I.hok p _ h
 exact ⟨its,n,r,e,z⟩
def Inv.lstUpd{d:ă}{σ:St}{H:Hp}{s:ë}{p:é}{xs ys:à V}{its its':ü}{n g:Nat}{f:Obj->Obj}(I:Inv X d σ H s)(h:H p=some (.lst xs))
  (i:s.heap.get? p=some {cls:=.type "list",data:=.seq its.toArray n})(hf:f {cls:=.type "list",data:=.seq its.toArray n}={cls:=.type "list",data:=.seq its'.toArray g})(r:Vals ys its')(hz:ys.length<=sizeLine)(t:Nat) :
  Inv X d σ (upd H p (.lst ys)) {s with heap:=s.heap.update p f,toks:=t}:=by
 have e:(s.heap.update p f).get? p=some {cls:=.type "list",data:=.seq its'.toArray g}:=by
  rw [ľ f i (by rw [hf]<;>rfl),hf]
 refine I.write (x:=p) (e:=p) (by rw [h];trivial) (.inl rfl) (λb u hb q=>(ŧ _ _ (Ne.symm hb)).trans q) ⟨_,e⟩ ?_
 exact ⟨hz,its',g,r,e⟩
def DV:V->V->V->Hp->(Hp->Prop)->Prop:=λo i v H Q=>∃p xs k j,o=.ref p/\i=.int k/\H p=some (.lst xs)/\ixN xs.length k=some j/\Q (upd H p (.lst (xs.set j v)))
def xz:Ev X DV:=by
 intro d s σ H o i v O P u Q I F G J h
 obtain ⟨p,z,k,j,rfl,rfl,l,C,q⟩:=h
 cases F
 obtain ⟨t,rfl⟩:=G
 obtain ⟨b,n,r,e,D⟩:=I.lst l
 obtain ⟨h1,K,w,x⟩:=vv C
 have f:=r.length
 have L:=kz
 have y:Inv X d σ (upd H p (.lst (z.set j v))) {s with heap:=s.heap.update p (Obj.mapSeq (·.setIfInBounds j u))} :=
  I.lstUpd l e (um b n j u) (r.set J j) (by rw [List.length_set];exact D) s.toks
 by_cases h0:0<=k
 .have g:k.toNat=j:=by
   rw [seqIndex_of h0 x] at h1
   exact Δ h1
  exact PySem.W.ki_setAt e h0 ω (by rw [ŵ,← f];exact x) (by rw [g];exact ⟨_,y,q⟩)
 .have g:(k+(b.toArray.size:Int)).toNat=j:=by
   rw [seqIndex_neg ω w] at h1
   rw [ŵ,← f]
   exact Δ h1
  exact PySem.W.ki_setBack e ω (by rw [ŵ,← f];exact w) ω (by rw [g];exact ⟨_,y,q⟩)
def qF(lo b:Option Int)(n:Nat):(sliceBounds lo b none n).1=((HT.sIx n 0 lo:Nat):Int)/\(sliceBounds lo b none n).2.1=((HT.sIx n n b:Nat):Int)/\(sliceBounds lo b none n).2.2=1:=by
 refine ⟨?_,?_,ϱ⟩
 .cases lo with
  | none=>simp [sliceBounds,HT.sIx]
  | some i =>
   simp only [sliceBounds,HT.sIx,Option.getD_none,show (1:Int)>0 by decide,if_true]
   by_cases h:i<0
   .simp only [h,if_true]<;>omega
   .simp only [h,if_false]<;>omega
 .cases b with
  | none=>simp [sliceBounds,HT.sIx]
  | some i =>
   simp only [sliceBounds,HT.sIx,Option.getD_none,show (1:Int)>0 by decide,if_true]
   by_cases h:i<0
   .simp only [h,if_true]<;>omega
   .simp only [h,if_false]<;>omega
def oU(its:ü)(lo b:Option Int):slicePick its.toArray lo b none=((its.drop (HT.sIx its.length 0 lo)).take (HT.sIx its.length its.length b-HT.sIx its.length 0 lo)).toArray:=by
 obtain ⟨h1,d,e⟩:=qF lo b its.toArray.size
 unfold slicePick
 rw [h1,d,e]
 simp only [sliceRange_one,pick_run,List.size_toArray]<;>rfl
def EI(K:ä):V->Option Int->Option Int->Hp->VK->Prop:=λx lo hi H Q=>∃a xs,x=.ref a/\SqL K H a xs/\∀p,H p=none->Q (.ref p) (upd H p (.lst (kM xs lo hi)))
def uZ:SlR X (EI X.K):=by
 intro i s σ H x v F G lo f J Q I w y z C h
 obtain ⟨a,d,rfl,j,q⟩:=h
 cases w
 obtain ⟨l,r,g,u⟩:=I.list j
 have e:=r.length
 refine ⟨"list",_,slot_list_getitem.lookup,g.isList.typeIs,?_⟩
 refine wpAny_getItem_list_slice g.isList y z C .none (by simp) ?_ (by rw [List.size_toArray]<;>omega)
 rw [oU,← e]
 refine ⟨.ref s.heap.objs.size,_,I.laid (t':=s.toks) (o:=.lst (kM d lo f)) (λb D q=>ρ _ q) (ι _) ?_,ϱ,q _ (I.hok.fresh (ι _))⟩
 exact ⟨Λ (sR d lo f) u,_,0,(r.drop (HT.sIx d.length 0 lo)).take (HT.sIx d.length d.length f-HT.sIx d.length 0 lo),ψ _ rfl⟩
def bc:du X (.builtin "len") (λxs H Q=>∃p ys,xs=[.ref p]/\(SqL X.K H p ys\/SqT X.K H p ys)/\Q (.int ys.length) H):=by
 intro g s σ H xs o Q I r h
 obtain ⟨p,ys,rfl,hq,q⟩:=h
 obtain ⟨u,rfl,i⟩:=dm r
 cases i
 have l:=kz
 rcases hq with hq | hq
 .obtain ⟨d,e,f,j⟩:=I.list hq
  have b:=e.length
  exact Calls.call_len_list f.isList (by simp only [List.size_toArray]<;>omega) ⟨.int ys.length,H,I.tok _,⟨s.toks+1,by rw [List.size_toArray,b]⟩,q⟩
 .obtain ⟨d,e,f,j⟩:=I.tuple hq
  have b:=e.length
  exact len_tuple f (by simp only [List.size_toArray]<;>omega) ⟨.int ys.length,H,I.tok _,⟨s.toks+1,by rw [List.size_toArray,b]⟩,q⟩
def bX:du X (.builtin "len") (λxs H Q=>∃z,xs=[.str z]/\z.length<=sizeLine/\Q (.int z.length) H):=by
 intro b s σ H xs f Q I r h
 obtain ⟨z,rfl,d,q⟩:=h
 obtain ⟨u,rfl,t,rfl⟩:=dm r
 have e:=kz
 exact len_str ω ⟨.int z.length,H,I.tok _,⟨_,ϱ⟩,q⟩
def gT:du X (.type "list") (λxs H Q=>∃p ys,xs=[.ref p]/\(SqL X.K H p ys\/SqT X.K H p ys)/\∀l,H l=none->Q (.ref l) (upd H l (.lst ys))):=by
 intro y s σ H xs J Q I r h
 obtain ⟨p,ys,rfl,hq,q⟩:=h
 obtain ⟨u,rfl,G⟩:=dm r
 cases G
 have fin:∀(d:ü),Vals ys d->ys.length<=sizeLine->∀(f:ã) (i:Nat),(∀b o',s.heap.get? b=some o'->f.get? b=some o') ->
   f.get? s.heap.objs.size=some {cls:=.type "list",dict:=none,data:=.seq d.toArray i,slots:=#[]}->EP X y σ Q (.ref s.heap.objs.size) {s with heap:=f}:=λd g j f i kp e =>
  ⟨.ref s.heap.objs.size,_,I.laid (t':=s.toks) kp (ι _) (show ObjOk X.prog X.w _ f _ (.lst ys) from ⟨j,d,i,g,e⟩),ϱ,q _ (I.hok.fresh (ι _))⟩
 rcases hq with hq | hq
 .obtain ⟨d,g,z,j⟩:=I.list hq
  have x:=g.length
  obtain ⟨o,C,D,n,F⟩:=z.isList
  exact call_list_seq p (.inl rfl) C D F (λf i kp e=>fin d g j f i kp e) (by simp only [List.size_toArray]<;>omega)
 .obtain ⟨d,g,z,j⟩:=I.tuple hq
  have x:=g.length
  obtain ⟨o,C,D,n,F⟩:=z
  exact call_list_seq p (.inr rfl) C D F (λf i kp e=>fin d g j f i kp e) (by simp only [List.size_toArray]<;>omega)
def cQ:du X (.type "tuple") (λxs H Q=>∃p ys,xs=[.ref p]/\((SqL X.K H p ys/\∀l,H l=none->Q (.ref l) (upd H l (.tup ys)))\/(SqT X.K H p ys/\Q (.ref p) H))):=by
 intro d s σ H xs F Q I r h
 obtain ⟨p,ys,rfl,h⟩:=h
 obtain ⟨u,rfl,C⟩:=dm r
 cases C
 rcases h with ⟨hq,q⟩ | ⟨hq,q⟩
 .obtain ⟨f,i,j,x⟩:=I.list hq
  have y:=i.length
  refine call_tuple_list j.isList (λg kp=>?_) (by simp only [List.size_toArray]<;>omega)
  have z:Inv X d σ H {s with heap:=g}:=I.kept (t':=s.toks) kp
  have D:Inv X d σ (upd H g.objs.size (.tup ys)) {s with heap:=g.push {cls:=.type "tuple",data:=.seq f.toArray}} :=
   z.laid (t':=s.toks) (λb o e=>ρ _ e) (ι _) (show ObjOk X.prog X.w _ _ _ (.tup ys) from ⟨x,f,i,IsTup.new _ _⟩)
  exact ⟨.ref g.objs.size,_,D,ϱ,q _ (z.hok.fresh (ι _))⟩
 .obtain ⟨f,i,j,x⟩:=I.tuple hq
  exact call_tuple_same j ⟨.ref p,H,I,ϱ,q⟩
def tyV(K:ä)(T:String)(x:V)(H:Hp):Prop:=match x with
 | .str _=>T="str"
 | .int _=>T="int"
 | .ref p=>(T="list"/\∃xs,SqL K H p xs)\/(T="tuple"/\∃o,K.lookup p=some o/\o.cls=.type "tuple"/\o.dict=none) \/
   (T="dict"/\((∃kvs,H p=some (.dK kvs))\/∃kvs,H p=some (.dT kvs)))\/(T="set"/\∃S n,H p=some (.set S n))
 | _=>False
def wY{b:ă}{σ:St}{H:Hp}{s:ë}{T:String}{x:V}{v:å}(I:Inv X b σ H s)(r:RelV x v)(d:tyV X.K T x H) :
  s.TypeIs v T/\∀a,v=.ref a->∃ob,s.heap.get? a=some ob/\ob.dict=none:=by
 cases x with
 | str z =>
  obtain ⟨t,rfl⟩:=r
  cases (show T="str" from d)
  exact ⟨typeIs_str s z t,λ_ e=>nomatch e⟩
 | int i =>
  obtain ⟨t,rfl⟩:=r
  cases (show T="int" from d)
  exact ⟨typeIs_int s i t,λ_ e=>nomatch e⟩
 | ref p =>
  cases r
  rcases d with ⟨rfl,xs,hq⟩ | ⟨rfl,o,hk,hc,f⟩ | ⟨rfl,hk⟩ | ⟨rfl,S,n,hk⟩
  .obtain ⟨j,_,h,_⟩:=I.list hq
   refine ⟨h.isList.typeIs,λa e=>?_⟩
   cases e
   obtain ⟨o,n,e,c,f,_⟩:=h
   exact ⟨o,e,f⟩
  .refine ⟨⟨o,I.kIn p o hk,hc⟩,λa e=>?_⟩
   cases e
   exact ⟨o,I.kIn _ o hk,f⟩
  .have z:∃o,s.heap.get? p=some o/\o.ExactDict:=by
    rcases hk with ⟨kvs,hk⟩ | ⟨kvs,hk⟩
    .obtain ⟨_,_,_,_,o,_,_,e,ex,_⟩:=I.hok p _ hk
     exact ⟨o,e,ex⟩
    .obtain ⟨_,_,_,_,o,_,_,e,ex,_⟩:=I.hok p _ hk
     exact ⟨o,e,ex⟩
   obtain ⟨o,e,ex⟩:=z
   refine ⟨⟨o,e,ex.1⟩,λa g=>?_⟩
   cases g
   exact ⟨o,e,ex.2.1⟩
  .obtain ⟨o,_,_,_,e,ex,_⟩:=I.hok p _ hk
   refine ⟨⟨o,e,ex.1⟩,λa g=>?_⟩
   cases g
   exact ⟨o,e,ex.2.1⟩
 | _=>exact False.elim d
def DM(K:ä)(T:String)(r:V->à V->Hp->VK->Prop)(to:TE):TE:=fun σ H Q=>to σ H λx H1=>tyV K T x H1/\r x [] H1 Q
def tBM(K:ä)(T:String)(r:V->à V->Hp->VK->Prop)(to:TE)(t:TA):TE:=fun σ H Q=>to σ H λx H1=>tyV K T x H1/\t σ H1 λxs H2=>r x xs H2 Q
variable {o e:á}{es:õ}{to:TE}{t:TA}{name:Str}{apos cpos:Pos}{T id:String}{r:V->à V->Hp->VK->Prop}
def Cl(w:PlainAttrs T)(f:Slot T name id)(g:typeOf (.builtin id)=pure (.type "method_descriptor"))(y:MtR X id r)(z:PE X o to)
  (d:attributeBase o name X.env (eval o X.env)=eval o X.env:=by rfl)(e:(apos.endLine==cpos.line)=true:=by rfl):PE X (.Call (.Attribute o name apos) [] [] cpos) (DM X.K T r to):=by
 intro b s σ H Q I h
 refine wpAny_Call_method0_late d e (thn (z b s σ H _ I h) λv q ⟨x,H1,i,j,u,q1⟩=>?_)
 obtain ⟨h1,l⟩:=wY i j u
 exact ⟨T,id,w,f,g,h1,l,Ū rfl (PySem.evalArgs_none (y b q σ H1 x [] v [] Q i j .nil q1))⟩
def iu(O:PlainAttrs T)(i:Slot T name id)(l:typeOf (.builtin id)=pure (.type "method_descriptor"))(P:MtR X id r)(U:PE X o to)(W:PA X (e::es) t)
  (f:attributeBase o name X.env (eval o X.env)=eval o X.env:=by rfl)
  (j:((backTo cpos (starEach (e::es) X.env)).all (λx=>!x.1)&&(backToKw cpos (keywordEach [] X.env)).all (λx=>x.1.isSome)
   && decide ((e::es).length+([]:à Keyword).length+(if ([]:à Keyword).isEmpty then 0 else 1)<30))=true:=by rfl)
  (g:(apos.endLine==cpos.line)=true:=by rfl) (Y:starEach (e::es) X.env=(false,eval e X.env)::starEach es X.env:=by rfl) (d:(backTo cpos (starEach es X.env)).any (·.1)=false:=by rfl) :
  PE X (.Call (.Attribute o name apos) (e::es) [] cpos) (tBM X.K T r to t):=by
 intro b s σ H Q I h
 refine wpAny_Call_method_late f j g rfl (thn (U b s σ H _ I h) λv z ⟨x,H1,u,w,C,q1⟩=>?_)
 obtain ⟨h1,y⟩:=wY u w C
 refine ⟨T,id,O,i,l,h1,y,?_⟩
 have q:=W cpos b z σ H1 _ u q1
 rw [Y] at q ⊢
 refine Ū (by show (false||(backTo cpos (starEach es X.env)).any (·.1))=false;rw [d]<;>rfl) (Ŋ ?_)
 exact thn q λD F ⟨vs,G,J,L,q2⟩=>P b F σ G x vs v D Q J w L q2
end
def MtM(X:Cx)(id:String)(r:V->à V->Hp->VK->Prop):Prop :=
 ∀(pins:ă) (s:ë) (σ:St) (H:Hp) (x:V) (xs:à V) (v:å) (us:ü) (Q:VK),Inv X pins σ H s->RelV x v->Vals xs us->r x xs H Q ->
  wpAny (model X.prog X.w) X.A (call (.builtin id) (v::us)) (EP X pins σ Q) X.xe s
theorem Vals.one:∀{x:V} {us:ü},Vals [x] us->∃u,us=[u]/\RelV x u
 | _,_,.cons r .nil=>⟨_,rfl,r⟩
def Vals.two{x y:V}{us:ü}(h:Vals [x,y] us):∃u v,us=[u,v]/\RelV x u/\RelV y v:=by cases h with|cons r h=>cases h with|cons q h=>cases h;exact ⟨_,_,rfl,r,q⟩
theorem Vals.rep{xs:à V}{us:ü}(h:Vals xs us):∀k:Nat,Vals (List.replicate k xs).flatten (List.replicate k us).flatten
 | 0=>.nil
 | k+1=>by
  rw [Ġ,Ġ,List.flatten_cons,List.flatten_cons]
  exact Vals.append h (Vals.rep h k)
theorem qe(its:ü):∀(k:Nat) (b:ü),
  List.foldl (λx1 x2=>x1++x2) b.toArray (List.replicate k its.toArray)=(b++(List.replicate k its).flatten).toArray
 | 0,b=>by simp
 | k+1,b=>by
  have e:b.toArray++its.toArray=(b++its).toArray:=by simp
  have e2:(b++its)++(List.replicate k its).flatten=b++(List.replicate (k+1) its).flatten:=by
   rw [Ġ,List.flatten_cons,œ]
  rw [← e2,← qe its k (b++its),← e,Ġ,List.foldl_cons]
section
variable {X:Cx}{pins:ă}{σ:St}{H:Hp}{s:ë}{l b:é}{xs ys zs:à V}
def Inv.lset{its its':ü}{n:Nat}{f:ì->ì}{t':Nat}(I:Inv X pins σ H s)(d:H l=some (.lst xs))
  (e:s.heap.get? l=some {cls:=.type "list",data:=.seq its.toArray n})(hf:f its.toArray=its'.toArray)(g:Vals ys its')(hz:ys.length<=sizeLine) :
  Inv X pins σ (upd H l (.lst ys)) {s with heap:=s.heap.update l (Obj.mapSeq f),toks:=t'}:=by
 have q:=PySem.IsL.update e f
 rw [hf] at q
 refine I.write (x:=l) (e:=l) (by rw [d];exact trivial) (.inl rfl) (λh u hb b=>(ŧ s.heap (Obj.mapSeq f) (Ne.symm hb)).trans b) ⟨_,q⟩ ?_
 exact ⟨hz,its',_,g,q⟩
def Inv.lnew{its:ü}{t':Nat}(I:Inv X pins σ H s)(hv:Vals ys its)(hz:ys.length<=sizeLine) :
  Inv X pins σ (upd H s.heap.objs.size (.lst ys)) {s with heap:=s.heap.push {cls:=.type "list",data:=.seq its.toArray},toks:=t'} :=
 I.laid (λ_ _ q=>ρ _ q) (ι _) ⟨hz,its,0,hv,ψ _ rfl⟩
def Inv.fresh(I:Inv X pins σ H s):H s.heap.objs.size=none:=I.hok.fresh (ι _)
def Inv.lstM(I:Inv X pins σ H s)(b:H l=some (.lst xs)):xs.length<=sizeLine/\∃(its:ü) (n:Nat),Vals xs its/\xs.length=its.length/\s.heap.get? l=some {cls:=.type "list",data:=.seq its.toArray n}:=by
 obtain ⟨z,its,n,r,e⟩:=I.hok l _ b
 exact ⟨z,its,n,r,r.length,e⟩
def yM{n:Nat}(h:n<=sizeLine):Builtin.List.listTooLong n=false:=by
 unfold Builtin.List.listTooLong
 exact Γ ω
end
section
variable {X:Cx}
def z4:V->à V->Hp->VK->Prop:=λx vs H Q=>∃l xs y,x=.ref l/\vs=[y]/\H l=some (.lst xs)/\xs.length<sizeLine/\Q .non (upd H l (.lst (xs++[y])))
def fh:MtM X "list.append" z4:=by
 intro f s σ H x vs v D Q I i j h
 obtain ⟨l,o,y,rfl,rfl,d,w,q⟩:=h
 cases i
 obtain ⟨u,rfl,g⟩:=j.one
 obtain ⟨z,b,n,r,C,e⟩:=I.lstM d
 refine call_meets F.slot_list_append ⟨_,e,ϱ⟩ F.entry_list_append (F.args_list_append_2 _ _) (PySem.list_append l b.toArray n u (by rw [ŵ];omega)) ⟨e,?_⟩
 refine ⟨.non,_,I.lset (its':=b++[u]) d e (by simp) (r.append (.cons g .nil)) ?_,ϱ,q⟩
 rw [Ž,List.length_singleton]
 omega
def EJ:R2:=λx y H Q=>∃l k xs,x=.ref l/\y=.int k/\H l=some (.lst xs)/\-(2 ^ 63)<=k/\k<2 ^ 63/\xs.length*k.toNat<=sizeLine /\
 ∀p,H p=none->Q (.ref p) (upd H p (.lst (List.replicate k.toNat xs).flatten))
def AL{α:Type}(xs:à α)(k:Nat):(List.replicate k xs).flatten.length=k*xs.length:=by
 induction k with
 | zero=>simp
 | succ k ih=>rw [Ġ,List.flatten_cons,Ž,ih,Nat.succ_mul,Nat.add_comm]
def Cq:OpR X (binaryOp .Mult) EJ:=by
 intro D s σ H x y v u Q I P W h
 obtain ⟨l,k,Y,rfl,rfl,G,h1,J,C,q⟩:=h
 cases P
 obtain ⟨t,rfl⟩:=W
 obtain ⟨z,b,n,r,K,e⟩:=I.lstM G
 have f:b.toArray.size*k.toNat<=sizeLine:=by rw [ŵ,← K];exact C
 have g:¬b.toArray.size*k.toNat>(2 ^ 63-1)/8:=by
  have:(sizeLine:Nat)<=(2 ^ 63-1)/8:=by decide
  omega
 have i:¬(!Builtin.List.listFitsIndex k)=true:=by
  rw [fitsIndex_both h1 J]
  exact Ÿ
 have d:¬Builtin.List.listTooLong (b.toArray.size*k.toNat)=true:=by
  rw [yM f]
  exact Ÿ
 have j:List.foldl (λo w=>o++w) #[] (List.replicate (if b.toArray.isEmpty=true then 0 else k.toNat) b.toArray)=(List.replicate k.toNat b).flatten.toArray:=by
  have L:∀m:Nat,List.foldl (λo w=>o++w) #[] (List.replicate m b.toArray)=(List.replicate m b).flatten.toArray:=λm=>by
   have:=qe b m []
   rw [List.nil_append] at this
   exact this
  rw [L]
  cases b with
  | nil=>simp
  | cons a r'=>rw [if_neg (by simp)]
 refine wpAny_binaryOp_repeat_ref (T:="list") (U:="int") ζ ⟨_,e,ϱ⟩ (λO=>typeIs_int O k t) noFill_list_mul F.fills_int_mul F.slot_int_rmul repeat_list F.slot_int_index.lookup
  (call_meets F.slot_int_rmul (typeIs_int s k t) F.entry_int_rmul (F.args_int_rmul_2 _ _) (int___rmul___int_list k t l b.toArray n)
   ⟨e,ϱ,⟨_,e,ϱ⟩,call_meets F.slot_list_mul ⟨_,e,ϱ⟩ F.entry_list_mul (F.args_list_mul_2 _ _) (AutoListH.list___mul___list_int_3 l b.toArray n k t i g d) ⟨e,?_⟩⟩)
 rw [j]
 exact ⟨.ref _,_,I.lnew (t':=s.toks) (r.rep k.toNat) (by rw [AL,Nat.mul_comm];exact C),ϱ,q _ I.fresh⟩
end
end L2
namespace Att
open PySem PySem.W PySem.Calls PyProof.Rows
def lO{P:Params}{h:ã}:∀(d:ù) (vs:ü),WellAll P h vs (d.map WData.int)->IntsAre vs d:=by
 intro d
 induction d with
 | nil =>
  intro vs w
  rw [List.map_nil] at w
  cases w
  exact .nil
 | cons n d ih =>
  intro vs w
  rw [ű] at w
  cases w with
  | cons a b =>
   cases a
   exact .cons _ _ (ih _ b)
def v6{l:OpenLaw}{n:Nat}(z:l.most=some n){P:Params}{h:ã}{args:à WData}{b:ü}
  (e:l.row.toRowW.claim.pre args=true)(o:WellAll P h b args) :
  ∃a vs ns,b=[Value.ref a]/\args=[WData.list (ns.map WData.int)]/\h.get? a=some {cls:=.type "list",data:=.seq vs.toArray}/\IntsAre vs ns/\ns.length<=n:=by
 have j:WShape.hasAll [] args [.list .int]=true:=(pre_splitW e).1
 have u:l.pre.holds [] {args:=args}=true:=(pre_splitW e).2
 obtain ⟨d,r,rfl,h1,w⟩:=hasAllW_cons j
 obtain rfl:=hasAllW_nil w
 obtain ⟨C,rfl,x⟩:=hasW_list h1
 obtain ⟨ns,rfl⟩:=items_int x
 have f:ns.length<=n:=by
  unfold OpenLaw.pre at u
  have g:(WTm.not (.lt (.lit (.int (n:Int))) (.len (.arg 0)))).holds [] {args:=[.list (ns.map .int)]}=true:=by
   have g:=(holds_andW u).1
   rw [z] at g
   exact g
  have i:=condW_of g (w_not (w_lt w_lit (w_len_list (w_arg rfl))))
  rw [ν] at i
  refine Nat.le_of_not_lt λq=>?_
  have y:(n:Int)<((ns.length:Nat):Int):=by omega
  first
   | (rw [τ y] at i;exact absurd i ζ)
   | (simp at i;omega)
 cases o with
 | cons w1 w2 =>
  cases w2
  cases w1 with
  | list ho hall=>exact ⟨_,_,ns,rfl,rfl,ho,lO ns _ hall,f⟩
def v8(l:OpenLaw)(args:à WData):l.row.toRowW.claim.post args (.bool true) args=true :=
 postW_of (r:=l.row.toRowW) (X:=(true==true))
  (show WShape.has [] (.bool true) .bool=true by first | rfl | decide | simp [WShape.has,WShape.arms,WShape.armsAll])
  (show (WTm.eq .res (.lit (.bool true))).value [] {args:=args,res:=some (.bool true),after:=args}=some (.bool (true==true)) from w_eq_bool (w_res rfl) w_lit) rfl
def sW{l:OpenLaw}{n:Nat}{q:ê}{loose:ú}{XP:(ā)->ã->Prop}{YP:è->ã->Prop}{d:DefRec}
  (hn:l.most=some n)(I:d.params.defaults=[])
  (call:∀(w:è) (z b:ë) (mg C:ā) (j:é) (o:Obj) (pm y g:å) (a:é) (vs:ü) (x:ù),
   Ground q loose [] XP w z mg C b.heap->YP w b.heap ->
   b.heap.get? j=some o->o.data=.func (docDef d.name d.params d.body d.scope pm y g)->b.heap.CodeRec y d.name->mg d.name=some (.ref j) ->
   b.heap.get? a=some {cls:=.type "list",data:=.seq vs.toArray}->IntsAre vs x->x.length<=n->b.gens=#[] ->
   codeAny (model l.prog w) callerA (.call (.ref j) ⟨[.ref a],[]⟩) (λr s'=>r=.ok (.ret (.bool true))/\OldK b.heap s'.heap/\s'.os=b.os/\AllBare s'.gens) b) :
  WalkO q loose XP YP l.row.toRowW d [] (λf vs=>PySem.call f vs):=by
 intro w z b mg C G Y j o pm y g Z kV ho hd D J F hg K L as u O a3 H a4
 obtain rfl:Z=.none:=Dflts.none J I
 obtain rfl:kV=.none:=Dflts.noKw J
 obtain ⟨a,vs,x,rfl,rfl,h,e,i⟩:=v6 hn u H
 refine enter_call (Ė (call w z b mg C j o pm y g a vs x G Y ho (fd_plain hd) D F h e i hg) λr s' W=>?_)
 obtain ⟨rfl,P,Q,U⟩:=W
 exact ⟨.inl ⟨.bool true,.bool true,[],ϱ,λ_=>rfl,.bool true,v8 l _,λ_=>⟨List.Pairwise.nil,λ_ X=>(nomatch X)⟩⟩,P,Q,U⟩
section
variable {prog:ê}{w:è}{A:æ}{E:Ă}{s:ë}{K:ä}
def iz(h:ã):ã:={h with objs:=#[]}
def gE(h:ã)(b:é):(iz h).get? b=none:=by
 cases e:(iz h).get? b with
 | none=>rfl
 | some o=>exact absurd (η e) (ŝ _)
def jj(h:ã)(L d:é):ă:=(List.range h.objs.size).filterMap λa=>if a=L\/a=d then none else (h.get? a).map λo=>(a,o)
def mem_ledger{h:ã}{L d a:é}{o:Obj}:(a,o)∈jj h L d↔a≠L/\a≠d/\h.get? a=some o:=by
 unfold jj
 rw [ė]
 constructor
 .rintro ⟨b,_,e⟩
  split at e
  .cases e
  .rename_i hb
   obtain ⟨l,f,g⟩:=ų.mp e
   cases g
   exact ⟨λq=>hb (.inl q),λq=>hb (.inr q),f⟩
 .rintro ⟨i,j,f⟩
  refine ⟨a,ŗ.mpr (η f),?_⟩
  rw [ž (show ¬(a=L\/a=d) from λq=>q.elim i j),f]<;>rfl
def Da{h:ã}{L:é}{m:ā}(n:h.Ns L m):Fr (iz h) L h m :=
 ⟨n,λb o e=>(by rw [gE] at e;cases e),ϖ _⟩
end
end Att
namespace L2
open PySem PySem.Spec PyProof.Rows
theorem pK:∀{vs:ü} {ns:ù},IntsAre vs ns->Vals (ns.map V.int) vs
 | _,_,.nil=>.nil
 | _,_,.cons n t h=>.cons ⟨t,rfl⟩ (pK h)
def inClass(s:â)(j:Nat):â:=match s with
 | .ClassDef _ _ _ body _ _ _ _ _ _ _=>body.getD j (.Pass ⟨0,0,0,0⟩)
 | _=>.Pass ⟨0,0,0,0⟩
def defArgs(s:â):Arguments:=match s with
 | .FunctionDef _ a _ _ _ _ _ _ _ _=>a
 | _=>{posonlyargs:=[],args:=[],vararg:=none,kwonlyargs:=[],kw_defaults:=[],kwarg:=none,defaults:=[]}
def defBody(s:â):à â:=match s with
 | .FunctionDef _ _ b _ _ _ _ _ _ _=>b
 | _=>[]
def defScope(s:â):Scope:=match s with
 | .FunctionDef _ _ _ _ _ _ sc _ _ _=>sc
 | _=>{kind:=.function,names:=[],isGenerator:=false,isCoroutine:=false}
abbrev CX0:CXT:=λ_ _ _ _ _ _=>False
abbrev E0:XK:=λ_ _ _=>False
def be{X:Cx}:dO CX0 X E0:=λ_ _ _ _ _ _ _ h=>h.elim
structure Fun(K:ä)(x qual:Str)(st:â)(f:é)(fd:ç):Prop where
 ex:∃(oc:å) (od:Option é) (kV doc pm:å) (an:Option é) (cdv ct:å) (osl:Array (î)),
  fd=PySem.W.fnOf x qual (defArgs st) (defBody st) (defScope st) .none kV doc pm an cdv ct/\K.lookup f=some ⟨oc,od,.func fd,osl⟩/\PySem.W.codeIn K cdv qual=true
 kp:PySem.W.keepIn K (.ref f)=true
section
variable {P:ê}{w:è}{K:ä}{mg:ā}{base:ã}
def Fun.ok{x d:Str}{st:â}{f:é}{l:ç}{N ps:ú}{k:Nat}{sp:Sp}(F:Fun K x d st f l)(S:ao N ps (defScope st))(len:∀vs H Q E,sp vs H Q E->vs.length=ps.length)
  (g:∀(e:å) (A:æ) (b:ö) (s:ë) (H:Hp) (vs:à V) (Q:VK) (E:XK),Room k (A.deeper (envOfC d (defScope st) s.heap.objs.size f e))->sp vs H Q E ->
   ∃t,PSs (sQ CX0 P w K mg base N d (defScope st) f e A b s H E).nox (defBody st) t/\t {nx:=λ_ H'=>Q .non H',rt:=Q} (start N vs) H):FnOk P w K mg base CX0 (k+1) f l ps sp:=by
 obtain ⟨z,C,kV,o,pm,an,e,D,r,rfl,u,i⟩:=F.ex
 refine BG u i S len λA b s H vs Q E y j=>?_
 obtain ⟨t,h,q⟩:=g e A b s H vs Q E y j
 exact ⟨t,h.nox,q⟩
def Fun.oj{x qual:Str}{st:â}{f:é}{fd:ç}{N ps:ú}{k:Nat}{sp:Sp}(F:Fun K x qual st f fd)(S:ao N ps (defScope st))
  (hbody:∀(cdv:å) (A:æ) (outer:ö) (s:ë) (H:Hp) (vs:à V) (Q:VK) (E:XK),Room k (A.deeper (envOfC qual (defScope st) s.heap.objs.size f cdv))->sp vs H Q E ->
   ∃t,PSs (sQ CX0 P w K mg base N qual (defScope st) f cdv A outer s H E).nox (defBody st) t/\t {nx:=λ_ H'=>Q .non H',rt:=Q} (start N vs) H) (len:∀vs H Q E,sp vs H Q E->vs.length=ps.length:=by intros;rename_i h;cases h;subst_vars;rfl):FnOk P w K mg base CX0 (k+1) f fd ps sp:=F.ok S len hbody
def Fun.binds{x b:Str}{st:â}{f:é}{i:ç}{ps:ú}(F:Fun K x b st f i)
  (h:∀(kV d pm:å) (an:Option é) (e g:å) (us:ü),us.length=ps.length->bindArgs (PySem.W.fnOf x b (defArgs st) (defBody st) (defScope st) .none kV d pm an e g) ⟨us,[]⟩=pure (ps.zip us)):Binds K i ps []:=by
 obtain ⟨o,q,kV,d,pm,an,e,g,j,rfl,r,l⟩:=F.ex
 exact .all (h kV d pm an e g)
def qZ{x qual:Str}{st:â}{f:é}{oc:å}{od an:Option é}{osl:Array (î)}{kV doc pm cdv ct:å}(l:K.lookup f=some ⟨oc,od,.func (PySem.W.fnOf x qual (defArgs st) (defBody st) (defScope st) .none kV doc pm an cdv ct),osl⟩)
  (c:PySem.W.codeIn K cdv qual=true)(k:PySem.W.keepIn K (.ref f)=true):Fun K x qual st f (PySem.W.fnOf x qual (defArgs st) (defBody st) (defScope st) .none kV doc pm an cdv ct):=⟨⟨oc,od,kV,doc,pm,an,cdv,ct,osl,ϱ,l,c⟩,k⟩
end
def fe{n:Nat}(h:n<=1000):n<sizeLine:=Š h ζ
section
variable {X:Cx}
def pv(i:Nat){x:Str}{pos:Pos}(hN:X.N[i]?=some x:=by rfl)(hv:Vis X.env.scope x:=by first | exact Or.inl rfl | exact Or.inr (Or.inl rfl) | exact Or.inr (Or.inr rfl))(hd:(x==("__debug__":Str))=false:=by decide)
  (hcd:(x==("__classdict__":Str))=false:=by decide):PE X (.Name x pos) (qq i):=ua hN hv hd hcd
end
def aU{A B:Prop}(h:B):if false=true then A else B:=by
 rw [ž Ÿ]
 exact h
def cr{A B:Prop}(h:A):if true=true then A else B:=by
 rw [Ź rfl]
 exact h
def bD{c A B:Prop} [Decidable c](h1:c->A)(b:¬c->B):if c then A else B:=by
 by_cases h:c
 .rw [Ź h]
  exact h1 h
 .rw [ž h]
  exact b h
def Bz{c A B:Prop} [Decidable c](b:c)(h:B):if (!decide c)=true then A else B:=by
 rw [τ b]
 exact aU h
def Same(H H':Hp):Prop:=∀b o,H b=some o->H' b=some o
def Same.refl(H:Hp):Same H H:=λ_ _ h=>h
def Same.trans{H H1 H2:Hp}(a:Same H H1)(b:Same H1 H2):Same H H2:=λc o h=>b c o (a c o h)
def Same.free{H H':Hp}(e:Same H H'){l:é}(h:H' l=Option.none):H l=Option.none:=by
 cases q:H l with
 | none=>rfl
 | some o =>
  rw [e l o q] at h
  cases h
def Same.seq{K:ä}{H H':Hp}{a:é}{xs:à V}(e:Same H H')(h:SqL K H a xs):SqL K H' a xs:=by
 rcases h with (h | ⟨o,h⟩) | h
 .exact .inl (.inl (e _ _ h))
 .exact .inl (.inr ⟨o,e _ _ h⟩)
 .exact .inr h
end L2
section
set_option maxHeartbeats 0
open PySem PySem.W PyProof.Rows
lay_quick PySem.Challenge.pw_pactroom_k55_who_waited_goes_on
namespace Q
noncomputable section
noncomputable abbrev ab:Value:=Value.bool true
noncomputable abbrev nU:Value:=Value.bool false
noncomputable abbrev G{α:Type}(l:List α):Array α:=Array.mk l
noncomputable abbrev I{α:Type}:Array α:=Array.mk []
noncomputable abbrev K:Value:=Value.none
noncomputable abbrev r(n:Nat):Value:=Value.ref n
noncomputable abbrev Z(n:Nat):Option Value:=some (Value.ref n)
noncomputable abbrev u(a:Int)(n:Nat):Value:=Value.int a n
noncomputable abbrev A(q:Str)(n:Nat):Value:=Value.str q n
noncomputable abbrev t(P:Params)(q:Str)(n:Nat)(v:Value):DictEntry:=DictEntry.mk (PyData.keyHash P q) (Value.str q n) v
noncomputable abbrev e(o:Obj)(a b:BT):BT:=.node o a b
noncomputable abbrev g(o:Obj):BT:=.node o .nil .nil
noncomputable abbrev s3(l:List Nat):Str:=@Str.mk (Array.mk l)
noncomputable def nP:Nat->Nat->List Nat:=fun k=>Nat.rec (fun _=>[]) (fun _ f n=>bif n.beq 0 then [] else n%128::f (n/128)) k
noncomputable abbrev x(n:Nat):Str:=@Str.mk (Array.mk (nP 999 n))
abbrev nS:=x 35350842279982780
abbrev aV:=x 2357460733860917196365705647
abbrev hq:=x 53901867955744735
abbrev hy:=x 53901559791857631
abbrev L:=x 286908004805551803757820965104
abbrev au:=x 421105403244511
abbrev hx:=x 113039760542812094607327
abbrev ho:=x 883130438894441148383
abbrev hr:=x 53901488956436447
abbrev hw:=x 30344151541145318921183520387039
abbrev hP:=x 14469218985635115783729119
abbrev hz:=x 53901559540068319
abbrev hB:=x 883122557733039566815
abbrev bi:=x 29219126239
abbrev hA:=x 22438715602
abbrev hE:=x 314961130710099
abbrev a7:=x 226031564
abbrev a4:=x 211317458
abbrev be:=x 232288973
abbrev bc:=x 3498214716483
abbrev bf:=x 452440402491372
abbrev bb:=x 8277558478232940752
abbrev bg:=x 456806767081422
abbrev a0:=x 3463298922446
abbrev a9:=x 456806792589527
abbrev a6:=x 4018155108302
abbrev a8:=x 31096109004
abbrev hD:=x 9852148735968327477039162336552523458509
abbrev hR:=x 771200664775530178509
abbrev hG:=x 771639167501794076621
abbrev hF:=x 5803756897170679757
abbrev hC:=x 372306437449676
abbrev hL:=x 20297311810
abbrev hQ:=x 372134630433488
abbrev hM:=x 18665907412
abbrev bh:=x 57336776418130409
abbrev aY:=x 957993226293602710258
abbrev a2:=x 487352597740009
abbrev bd:=x 3944333472466
abbrev hH:=x 77016281100972308752576328605828966349
abbrev hN:=x 2870549177427
abbrev aC:=x 236550739
abbrev bj:=x 63498605718876867
abbrev aZ:=x 63498605704179924
abbrev a1:=x 63498605722890957
abbrev bk:=x 496082857196243
abbrev bl:=x 63498605704361159
abbrev a3:=x 496082857046593
abbrev cU:=x 107
abbrev bW:=x 211317490
abbrev cJ:=x 232289005
abbrev hO:=x 3498214716515
abbrev af:=x 883123151916293124063
abbrev an:=x 286677238029438057227736379632
abbrev aG:=x 14469089781839015725264863
abbrev ae:=x 30344074158132277796980072755167
abbrev M:=x 53902074141372383
abbrev ao:=x 211530987
abbrev bQ:=x 3497399218914
abbrev bV:=x 3982185314275
abbrev br:=x 211498996
abbrev ag:=x 133454983862861831018029446609853876543483871
abbrev H:=x 215692019
abbrev hI:=x 31381566694
abbrev hT:=x 245166316
abbrev c5:=x 1852061164990093336914753484
abbrev c2:=x 7268149382618871756
abbrev hK:=x 30815173231
abbrev oa:=x 31379191905
abbrev c1:=x 120169722130345171154892
abbrev n8:=x 3807976961271
abbrev c0:=x 136826845531393429665740
abbrev c3:=x 7267050180228741068
abbrev ba:=x 53902072520191967
abbrev aQ:=x 113039831549272488013791
abbrev cY:=x 7268149382604157650
abbrev c9:=x 7268149382625129165
abbrev c6:=x 119081359484622508422211
abbrev aH:=x 36729369500489608925993064001776
abbrev hJ:=x 14945
abbrev cS:=x 30344170127197689232326175045582
abbrev az:=x 286810982541006021921510846704
abbrev bP:=x 1767905
abbrev bY:=x 213481830
abbrev bR:=x 3978445748851
abbrev bq:=x 3465723654882
abbrev aJ:=x 211497704
abbrev aK:=x 456806792589559
abbrev bN:=x 64624441721337064
abbrev bS:=x 1068961890188247380712
abbrev bO:=x 2241775565932076634914582775
abbrev bU:=x 1968700103150748936189931767
abbrev cW:=x 237063829118731947127252514764
abbrev cV:=x 7775330028857391052
abbrev cX:=x 938903019227241314252
abbrev ar:=x 112
abbrev X:=x 226031596
abbrev c4:=x 17497389445352292810815436
abbrev cT:=x 27321202288
abbrev c7:=x 15242413828805995120883660
abbrev eg:=x 930176740795350579148
abbrev dp:=x 2009057520397120133052037068
abbrev pG:=x 240808176
abbrev pK:=x 27048637537
abbrev eb:=x 284221300444570252130846832588
abbrev eu:=x 4701344111645558562526489667499980
abbrev d1:=x 9859433206425764766027637528252208707532
abbrev d8:=x 8658434620072236276574768932157811914700
abbrev py:=x 31110885616
abbrev pm:=x 27881272436
abbrev aA:=x 36702114105103104032799375028464
abbrev hW:=x 232387827
abbrev cO:=x 3944329476846
abbrev cf:=x 3978724962544
abbrev ci:=x 68604088087507698
abbrev b6:=x 1069111071925903848178
abbrev cb:=x 1105640911514562491122
abbrev aD:=x 135526128861644586513138
abbrev ck:=x 1068672569199639950066
abbrev cj:=x 245248756
abbrev dX:=x 30344170127197689232252353409746
abbrev du:=x 2239823032340562386324320978
abbrev hX:=x 236548836
abbrev er:=x 38620668193374044242816710243026
abbrev oC:=x 31115227376
abbrev dJ:=x 601856028142896514749776892190552786
abbrev dx:=x 622420499637819896904922423998575314
abbrev pA:=x 31379192435
abbrev pd:=x 509276531061990
abbrev en:=x 76294427930033547883232881270010180306
abbrev dM:=x 255570157
abbrev qd:=x 31102465267
abbrev dR:=x 601609173053571134981422008013189842
abbrev oy:=x 213577972
abbrev dB:=x 8648
abbrev pg:=x 1800947
abbrev pO:=x 1089736
abbrev pJ:=x 213759207
abbrev ok:=x 1651297
abbrev pq:=x 1417672
abbrev pV:=x 243103344
abbrev hU:=x 86
abbrev oz:=x 211383022
abbrev aw:=x 27355084776
abbrev U:=x 7340233137581554291
abbrev aL:=x 226029794
abbrev aM:=x 213695219
abbrev T:=x 443304203876467
abbrev dY:=x 939913555950404467283
abbrev dF:=x 7766386514046057043
abbrev aS:=x 211529960
abbrev aT:=x 57912369945981174
abbrev di:=x 252208490167425953714132318803
abbrev dN:=x 7766324597797517907
abbrev ec:=x 7342511827917044307
abbrev dL:=x 15231816462629950096767571
abbrev bL:=x 27352724599
abbrev cu:=x 228274915
abbrev dq:=x 497158883364006940380097204371272387
abbrev dl:=x 252306123992128336559777460931
abbrev dH:=x 2084773505370203727553294548
abbrev dO:=x 67701701065164502231488002642434257108
abbrev ep:=x 4088759597854377613483047260975316
abbrev dK:=x 2084773505370203727572005581
abbrev es:=x 67701701065164502231488002642452968141
abbrev ea:=x 4088759597854377613483047279686349
abbrev dG:=x 1964012
abbrev dg:=x 219804904
abbrev dm:=x 3884053776281304221719509409168083
abbrev dU:=x 1971141593688502629373278931
abbrev dA:=x 16287293010704716621642451
abbrev ez:=x 528919539571597673683500020644149971
abbrev dw:=x 31943434358237325105336306858707
abbrev et:=x 2084773505370203727553475783
abbrev ek:=x 67701701065164502231488002642434438343
abbrev d2:=x 1970990510712305318935508167
abbrev dd:=x 4088759597854377613483047261156551
abbrev bK:=x 4015504750305
abbrev d9:=x 3884053776281304221719509409018433
abbrev ew:=x 16287293010704716621492801
abbrev ev:=x 528919539571597673683500020644000321
abbrev dy:=x 16287163162920260275352129
abbrev dr:=x 31943434358237325105336306709057
abbrev aR:=x 48973926788046249527542427999064169742605124144641629007109899201594388716
abbrev bw:=x 63498605733705296
abbrev bG:=x 63498605701984974
abbrev bx:=x 8127822628021367538
abbrev bz:=x 8127822628023513325
abbrev bv:=x 61880093449466093
abbrev bt:=x 31096354775
abbrev bu:=x 31351993427
abbrev bF:=x 27075836499
abbrev bH:=x 17644825835431594263344735
abbrev bA:=x 135526128861644626359903
abbrev bD:=x 8127822628061214303
abbrev bB:=x 7268114108346037855
abbrev bI:=x 1078262421209535247967
abbrev bE:=x 929675765462320313951
abbrev bs:=x 929671802959852762719
abbrev bC:=x 1962220
abbrev ey:=x 497158883364006940380097204386100816
abbrev dn:=x 67701701065164502231488002642463782480
abbrev dI:=x 4088759597854377613483047290500688
abbrev dE:=x 497158883364006940380097204354380494
abbrev ee:=x 67701701065164502231488002642432062158
abbrev d6:=x 4088759597854377613483047258780366
abbrev eh:=x 211597303
abbrev pD:=x 3944367338220
abbrev oD:=x 509719678253806
abbrev aq:=x 286813249378374891756615954672
abbrev b2:=x 496627013578996
abbrev cv:=x 226277367
abbrev cy:=x 496082924074980
abbrev co:=x 65732096642724086
abbrev ce:=x 56760251912532723
abbrev cc:=x 32692007666
abbrev ct:=x 27057010533
abbrev cm:=x 226177271
abbrev cw:=x 234436469
abbrev b3:=x 136698355041827924015084
abbrev cr:=x 232569588
abbrev cz:=x 27354756195
abbrev b0:=x 56782830551169513
abbrev cN:=x 27075836531
abbrev hZ:=x 213612520
abbrev aN:=x 1964018
abbrev ed:=x 237063829118731947127252760535
abbrev dt:=x 2184188704391103801739491287
abbrev bm:=x 31351993459
abbrev b8:=x 105
abbrev dC:=x 995178386087793702871
abbrev qt:=x 3463330820343
abbrev df:=x 2181795773446237927142897623
abbrev oA:=x 31354026340
abbrev el:=x 289092818307083619630451570647
abbrev ei:=x 249634227893298687374027175895
abbrev dV:=x 143780970258048166442967
abbrev pE:=x 27057027430
abbrev dj:=x 118997990777176473778135
abbrev ej:=x 994738159224218236887
abbrev em:=x 1031062496172635371479
abbrev o7:=x 236550771
abbrev dc:=x 601205723465367189201265013313812439
abbrev ds:=x 1022851866703939024855
abbrev pt:=x 220016880
abbrev d7:=x 120307490047131924608983
abbrev dW:=x 930176740795350824919
abbrev d3:=x 2009057520397120133052282839
abbrev db:=x 249733529796180699608185092055
abbrev pQ:=x 509719722391393
abbrev qp:=x 3982723938660
abbrev o8:=x 31096109036
abbrev ow:=x 456806759117552
abbrev bn:=x 36734125856334366233994152440048
abbrev ca:=x 211530483
abbrev cl:=x 7267050193399183346
abbrev b1:=x 15240108847187309675492076
abbrev dS:=x 237063829118731947127508399187
abbrev d4:=x 8637844124545414227
abbrev qk:=x 14324
abbrev pY:=x 213694445
abbrev ef:=x 930320904362193941587
abbrev d5:=x 31960824749096926766850020832339
abbrev d0:=x 67026707544217350801881948878097970259
abbrev pc:=x 4016813453548
abbrev oP:=x 243136498
abbrev oB:=x 245084915
abbrev ax:=x 36694685270099448213092886442224
abbrev cx:=x 236548843
abbrev cg:=x 948836330216535651427
abbrev b7:=x 513532019552995
abbrev b5:=x 930182424755072348899
abbrev b4:=x 447977914972911
abbrev cs:=x 243135214
abbrev cp:=x 27076163554
abbrev ch:=x 245168108
abbrev cq:=x 29774967522
abbrev b9:=x 8413708331612057847
abbrev cd:=x 504879545580009
abbrev h3:=x 31098352355
abbrev eA:=x 237063829118731947123232242259
abbrev dQ:=x 1040352815269461654099
abbrev ex:=x 4173026311717557474609756852746835
abbrev dZ:=x 2258537706935242377007757907
abbrev de:=x 4090985567884304945803956789475923
abbrev dv:=x 1970227705998257193844505171
abbrev eo:=x 1069319981266848217683
abbrev dh:=x 119082226654358604905043
abbrev dD:=x 1078260743630992472659
abbrev dz:=x 130951692029974636165715
abbrev dk:=x 37003880573293067687623799634515
abbrev dP:=x 2220483723965933134162721363
abbrev p3:=x 3981119714018
abbrev om:=x 242825061
abbrev pF:=x 31110822767
abbrev pW:=x 509274079392498
abbrev pi:=x 31096254711
abbrev od:=x 3463312095223
abbrev h2:=x 137989276334399845594719
abbrev hV:=x 3702244537951
abbrev hY:=x 7843466381129971295
abbrev h1:=x 8781323754941216351
abbrev o4:=x 513532042442335
abbrev ov:=x 7270427996206954079
abbrev da:=x 8426683116990002783
abbrev ql:=x 1068531250619429189215
abbrev pB:=x 252284354984113546057943119455
abbrev oS:=x 1067958212234506171999
abbrev p8:=x 1068462615392771667551
abbrev pS:=x 930318659325649253983
abbrev oM:=x 3874043229791
noncomputable abbrev ay:Value:=(@Value.type SL.s2766695959194262286x5)
noncomputable abbrev cQ:Value:=(@Value.type SL.s5856160107412720595x4)
noncomputable abbrev nM:Value:=(@Value.type SL.s658472552662922059x5)
noncomputable abbrev Y:Value:=(@Value.type SL.s14018661285674007319x4)
noncomputable abbrev hp:Value:=(@Value.builtin SL.s7097527257260152453x26)
noncomputable abbrev nO:Value:=(@Value.type SL.s7174869446012820540x8)
noncomputable abbrev hn:Value:=(@Value.type SL.s11030030927630378310x26)
noncomputable abbrev nK:Value:=(@Value.builtin SL.s10062305145149207511x16)
noncomputable abbrev ah:Value:=(@Value.type SL.s17162191345867700912x4)
noncomputable abbrev V:Value:=(@Value.type SL.s2742458400755230247x6)
noncomputable abbrev ap:Value:=(@Value.builtin SL.s11443829558043349243x14)
noncomputable abbrev hS:Value:=(@Value.type SL.s14755015743595814543x17)
noncomputable abbrev n1:Value:=(@Value.builtin SL.s6511155373996960695x17)
noncomputable abbrev n4:Value:=(@Value.builtin SL.s12411053484034534018x21)
noncomputable abbrev n2:Value:=(@Value.builtin SL.s10220274742760427390x26)
noncomputable abbrev n7:Value:=(@Value.type SL.s4290257624100764138x5)
noncomputable abbrev nX:Value:=(@Value.builtin SL.s4860613602091757760x24)
noncomputable abbrev bp:Value:=(@Value.type SL.s6070975301684473832x10)
noncomputable abbrev bX:Value:=(@Value.type SL.s5946037652744460706x9)
noncomputable abbrev bT:Value:=(@Value.type SL.s4278001404047624695x13)
noncomputable abbrev bZ:Value:=(@Value.builtin SL.s4209523147560561109x18)
noncomputable abbrev aa:Program:=PySem.Challenge.pw_pactroom_k55_who_waited_goes_on
noncomputable abbrev aW:Program:=PySem.W.Fast.tw6054521032398142656
theorem bM:aa=aW:=PySem.W.Fast.te6054521032398142656
noncomputable def R(i:Nat):Stmt:=aW.main.body.getD i (.Pass ⟨0,0,0,0⟩)
noncomputable def J(i:Nat):Stmt:=aa.main.body.getD i (.Pass ⟨0,0,0,0⟩)
noncomputable def y(k j:Nat):Stmt:=L2.inClass (R k) j
noncomputable def F(k j:Nat):Stmt:=L2.inClass (J k) j
noncomputable abbrev cP(a b:Str)(s:Stmt):=FuncData.mk a b (L2.defArgs s) (.stmts (L2.defBody s)) (L2.defScope s)
section
variable (P:Params)
def h:=Obj.mk ay none (Data.seq I 0) I
def z:=Obj.mk K none (Data.fields I) I
def aj(x0:Str)(x1:Nat)(x2:Nat)(x3:Nat)(x4:Int)(x5:Nat)(x6:Nat)(x7:Int)(x8:Nat):=Obj.mk cQ none (Data.fields (G [A x0 x1,A x0 x2,A aV x3,u x4 0,u 0 0,u 0 0,u 0 0,u 0 0,r x5,nU,u 181 0,r x6,K,K,K,K,u x7 0,u x4 0,A aV x8])) I
def cR:=aj nS 182 183 184 1 11 12 185 186
def ai(x0:Nat)(x1:Nat)(x2:Str)(x3:Nat):=Obj.mk nM none Data.plain (G [Z x0,Z 3,Z x1,none,some (A x2 x3),none,Z 0])
def cZ:=ai 13 3 hq 164
def ht:=e (boot_o_0 P) (e (boot_o_1 P) (e (boot_o_3 P) (g (boot_o_7 P)) (g h)) (e (boot_o_5 P) (g (boot_o_9 P)) (g cR))) (e (boot_o_2 P) (e (boot_o_4 P) (g (boot_o_8 P)) (g z)) (e (boot_o_6 P) (g (boot_o_10 P)) (g cZ)))
def nV:=ht P
def nQ:=ht P
def p9:=Obj.mk Y none (Data.dict (G [t P hy 165 (A L 671),t P au 166 K,t P hx 167 K,t P ho 168 hp,t P hr 169 K,t P hw 170 (r 6),t P hP 171 (r 4),t P hz 173 (A aV 172),t P hB 174 K,t P bi 193 (r 21),t P hA 205 (r 22),t P hE 212 (r 26),t P a7 275 (r 71),t P a4 298 (r 92),t P be 321 (r 111),t P bc 344 (r 130),t P bf 351 (r 139),t P bb 371 (r 149),t P bg 387 (r 162),t P a0 403 (r 174),t P a9 419 (r 186),t P a6 444 (r 205),t P a8 548 (r 282),t P hD 552 (u 400 551),t P hR 554 (u 2000 553),t P hG 556 (u 2000 555),t P hF 558 (u 8 557),t P hC 560 (u 100000 559),t P hL 562 (u 32 561),t P hQ 564 (u 37 563),t P hM 566 (u 126 565),t P bh 573 (r 293),t P aY 579 (r 298),t P a2 587 (r 305),t P bd 670 (r 364),t P hH 674 (u 40 673),t P hN 696 (r 369),t P aC 761 (r 421),t P bj 795 (r 449),t P aZ 834 (r 482),t P a1 873 (r 515),t P bk 929 (r 560),t P bl 975 (r 600),t P a3 1033 (r 647)]) 44) I
def qP:=Obj.mk K none (Data.fields (G [u 1 0,u 0 0,r 20,u 7 0,u 0 0,r 32,u 26 0,u 0 0,r 81,u 30 0,u 0 0,r 100,u 34 0,u 0 0,r 119,u 38 0,u 0 0,r 138,u 45 0,u 0 0,r 145,u 47 0,u 0 0,r 158,u 49 0,u 0 0,r 170,u 51 0,u 0 0,r 182,u 53 0,u 0 0,r 194,u 58 0,u 0 0,r 213,u 120 0,u 0 0,r 292,u 122 0,u 0 0,r 297,u 132 0,u 0 0,r 304,u 135 0,u 0 0,r 311,u 202 0,u 0 0,r 375,u 221 0,u 0 0,r 431,u 229 0,u 0 0,r 457,u 239 0,u 0 0,r 490,u 249 0,u 0 0,r 523,u 267 0,u 0 0,r 568,u 280 0,u 0 0,r 608])) I
def N(x0:Str)(x1:Nat):=Obj.mk ay none (Data.seq (G [A x0 x1]) 0) I
def e0:=N cU 190
def B(x0:Str)(x1:Str)(x2:Stmt):=Obj.mk K none (Data.func (cP x0 x1 x2 0 [] K K K K none K K 0)) I
def ix:=B bi bi (R 0)
def E(x0:Str)(x1:Nat)(x2:Str)(x3:Nat)(x4:Nat)(x5:Int)(x6:Int)(x7:Nat)(x8:Nat)(x9:Nat)(x10:Nat)(x11:Nat)(x12:Int)(x13:Nat):=Obj.mk cQ none (Data.fields (G [A x0 x1,A x2 x3,A aV x4,u x5 0,u x6 0,u 0 0,u 0 0,u 3 0,r x7,ab,u 181 0,r x8,K,r x9,r x10,r x11,u x12 0,u x5 0,A aV x13])) I
def eB:=E bi 187 bi 188 189 1 1 15 16 17 18 19 191 192
def C(x0:Str)(x1:Str)(x2:Stmt)(x3:Str)(x4:Nat)(x5:Nat):=Obj.mk nO none (Data.func (cP x0 x1 x2 3 [] K K K (A x3 x4) none (r x5) K 0)) I
def ic:=C bi bi (R 0) hq 164 20
def eI:=Obj.mk Y none (Data.dict (G [t P bW 196 (u 0 197),t P cJ 198 (u 1 199),t P hO 200 (u 2 201)]) 3) I
def ad(x0:Str)(x1:Nat)(x2:Str)(x3:Nat):=Obj.mk ay none (Data.seq (G [A x0 x1,A x2 x3]) 0) I
def eH:=ad bW 206 bW 207
def eY:=ad bW 208 cJ 209
def eD:=ad cJ 210 bW 211
def eS:=Obj.mk ay none (Data.seq (G [r 23,r 24,r 25]) 0) I
def O:=Obj.mk hn none (Data.fields (G [nK,ah])) I
def cD(x0:Nat)(x1:Str)(x2:Nat)(x3:Nat)(x4:Str)(x5:Nat)(x6:Nat)(x7:Int)(x8:Nat)(x9:Nat)(x10:Nat)(x11:Str)(x12:Nat)(x13:Nat)(x14:Str)(x15:Nat)(x16:Nat)(x17:Str)(x18:Nat)(x19:Nat)(x20:Str)(x21:Nat)(x22:Nat)(x23:Nat)(x24:Nat):=Obj.mk Y none (Data.dict (G [t P af x0 (A x1 x2),t P aG x3 (A x4 x5),t P ae x6 (u x7 x8),t P M x9 (r x10),t P x11 x12 (r x13),t P x14 x15 (r x16),t P x17 x18 (r x19),t P x20 x21 (r x22),t P ag x23 (r x24)]) 9) I
def io:=cD P 220 an 194 222 a7 221 224 7 223 233 40 ao 240 47 bQ 249 54 bV 258 61 br 265 68 268 69
def cA(x0:Int)(x1:Nat)(x2:Int)(x3:Nat)(x4:Int)(x5:Nat)(x6:Int)(x7:Nat)(x8:Int)(x9:Nat):=Obj.mk K none (Data.fields (G [u x0 0,u 4 0,r x1,u x2 0,u 4 0,r x3,u x4 0,u 4 0,r x5,u x6 0,u 4 0,r x7,u x8 0,u 4 0,r x9])) I
def it:=cA 9 39 13 46 16 53 20 60 24 67
def iu:=aj a7 215 216 217 7 30 31 218 219
def iw:=ai 32 29 an 194
def ak(x0:Str)(x1:Nat)(x2:Str)(x3:Nat)(x4:Str)(x5:Nat):=Obj.mk ay none (Data.seq (G [A x0 x1,A x2 x3,A x4 x5]) 0) I
def eP:=ak H 228 hI 229 hT 230
def ib:=B M c5 (y 4 0)
def eJ:=E M 225 c5 226 227 9 3 34 35 36 37 38 231 232
def iq:=C M c5 (y 4 0) an 194 39
def eN:=N H 237
def ii:=B ao c2 (y 4 1)
def eE:=E ao 234 c2 235 236 13 1 41 42 43 44 45 238 239
def iv:=C ao c2 (y 4 1) an 194 46
def eL:=ak H 244 hK 245 oa 246
def h4:=B bQ c1 (y 4 2)
def eV:=E bQ 241 c1 242 243 16 2 48 49 50 51 52 247 248
def ie:=C bQ c1 (y 4 2) an 194 53
def eU:=ak H 253 hK 254 n8 255
def ig:=B bV c0 (y 4 3)
def eO:=E bV 250 c0 251 252 20 2 55 56 57 58 59 256 257
def id:=C bV c0 (y 4 3) an 194 60
def eC:=N H 262
def im:=B br c3 (y 4 4)
def eG:=E br 259 c3 260 261 24 1 62 63 64 65 66 263 264
def iy:=C br c3 (y 4 4) an 194 67
def eQ:=ad hI 266 hT 267
def eW:=Obj.mk Y none (Data.dict (G [t P af 220 (A an 194),t P ae 224 (u 7 223),t P M 233 (r 40),t P ao 240 (r 47),t P bQ 249 (r 54),t P bV 258 (r 61),t P br 265 (r 68),t P ag 268 (r 69),t P ba 270 (r 72),t P aQ 272 (r 73),t P au 273 K]) 4) I
def eF:=Obj.mk ah none (Data.cls (ClassData.mk a7 [V] [r 71,V] 70 a7 true [] [r 92,r 111,r 130] false none false)) (G [none,none,some (A a7 213),some (A a7 221),some ap,some ab])
def bo(x0:Nat)(x1:Nat):=Obj.mk hS none (Data.fields (G [A ba x0,r x1,n1,n4])) I
def eZ:=bo 269 71
def a5(x0:Nat)(x1:Nat):=Obj.mk hS none (Data.fields (G [A aQ x0,r x1,n2,K])) I
def eK:=a5 271 71
def al(x0:Nat):=Obj.mk n7 none (Data.fields (G [r x0,r x0,r x0])) I
def ih:=al 71
def am(x0:Nat):=Obj.mk hn none (Data.fields (G [nX,r x0])) I
def ip:=am 71
def cL(x0:Nat):=Obj.mk ay none (Data.seq (G [r x0]) 0) I
def aU:=cL 71
def cH(x0:Nat)(x1:Str)(x2:Nat)(x3:Nat)(x4:Str)(x5:Nat)(x6:Nat)(x7:Int)(x8:Nat)(x9:Str)(x10:Nat)(x11:Nat)(x12:Nat)(x13:Nat):=Obj.mk Y none (Data.dict (G [t P af x0 (A x1 x2),t P aG x3 (A x4 x5),t P ae x6 (u x7 x8),t P x9 x10 (r x11),t P ag x12 (r x13)]) 5) I
def h7:=cH P 283 an 194 285 a4 284 287 26 286 ao 294 89 295 90
def cG(x0:Int)(x1:Nat):=Obj.mk K none (Data.fields (G [u x0 0,u 4 0,r x1])) I
def h6:=cG 28 88
def ik:=aj a4 278 279 280 26 79 80 281 282
def il:=ai 81 78 an 194
def eX:=N H 291
def ij:=B ao cY (y 5 0)
def eM:=E ao 288 cY 289 290 28 1 83 84 85 86 87 292 293
def ia:=C ao cY (y 5 0) an 194 88
def cM(x0:Nat)(x1:Str)(x2:Nat)(x3:Nat)(x4:Int)(x5:Nat)(x6:Str)(x7:Nat)(x8:Nat)(x9:Nat)(x10:Nat)(x11:Nat):=Obj.mk Y none (Data.dict (G [t P af x0 (A x1 x2),t P ae x3 (u x4 x5),t P x6 x7 (r x8),t P ag x9 (r x10),t P au x11 K]) 2) I
def eT:=cM P 283 an 194 287 26 286 ao 294 89 295 90 296
def eR:=Obj.mk ah none (Data.cls (ClassData.mk a4 [r 71] [r 92,r 71,V] 91 a4 true [] [] false none false)) (G [Z 76,none,some (A a4 276),some (A a4 284),some ap,some ab])
def h8:=al 92
def h9:=am 92
def h5:=cH P 306 an 194 308 be 307 310 30 309 ao 317 108 318 109
def ir:=cG 32 107
def iW:=aj be 301 302 303 30 98 99 304 305
def lN:=ai 100 97 an 194
def hk:=N H 314
def kg:=B ao c9 (y 6 0)
def fb:=E ao 311 c9 312 313 32 1 102 103 104 105 106 315 316
def jd:=C ao c9 (y 6 0) an 194 107
def fj:=cM P 306 an 194 310 30 309 ao 317 108 318 109 319
def fG:=Obj.mk ah none (Data.cls (ClassData.mk be [r 71] [r 111,r 71,V] 110 be true [] [] false none false)) (G [Z 95,none,some (A be 299),some (A be 307),some ap,some ab])
def lw:=al 111
def jG:=am 111
def js:=cH P 329 an 194 331 bc 330 333 34 332 ao 340 127 341 128
def iO:=cG 36 126
def jr:=aj bc 324 325 326 34 117 118 327 328
def ly:=ai 119 116 an 194
def f2:=N H 337
def lZ:=B ao c6 (y 7 0)
def gV:=E ao 334 c6 335 336 36 1 121 122 123 124 125 338 339
def mt:=C ao c6 (y 7 0) an 194 126
def g2:=cM P 329 an 194 333 34 332 ao 340 127 341 128 342
def gl:=Obj.mk ah none (Data.cls (ClassData.mk bc [r 71] [r 130,r 71,V] 129 bc true [] [] false none false)) (G [Z 114,none,some (A bc 322),some (A bc 330),some ap,some ab])
def mZ:=al 130
def kG:=am 130
def gw:=N br 348
def nl:=B bf bf (R 8)
def hm:=E bf 345 bf 346 347 38 1 133 134 135 136 137 349 350
def kq:=C bf bf (R 8) an 194 138
def g7:=Obj.mk ay none (Data.seq (G [bp]) 0) I
def cK(x0:Nat)(x1:Nat)(x2:Str)(x3:Nat)(x4:Nat)(x5:Int)(x6:Nat)(x7:Nat)(x8:Nat):=Obj.mk Y none (Data.dict (G [t P af x0 (A aH 352),t P aG x1 (A x2 x3),t P ae x4 (u x5 x6),t P ag x7 (r x8)]) 4) I
def kX:=cK P 361 363 bb 362 365 45 364 366 147
def iG:=aj bb 356 357 358 45 143 144 359 360
def kd:=ai 145 142 aH 352
def gB:=Obj.mk Y none (Data.dict (G [t P af 361 (A aH 352),t P ae 365 (u 45 364),t P ag 366 (r 147),t P aQ 368 (r 150),t P au 369 K]) 3) I
def gd:=Obj.mk ah none (Data.cls (ClassData.mk bb [bp] [r 149,bp,bX,bT,V] 148 bb true [] [r 162,r 174,r 186,r 205] false none false)) (G [Z 140,none,some (A bb 354),some (A bb 362),some bZ,some ab])
def ft:=a5 367 149
def kl:=al 149
def iZ:=am 149
def aF:=cL 149
def jW:=cK P 379 381 bg 380 383 47 382 384 160
def jj:=aj bg 374 375 376 47 156 157 377 378
def jn:=ai 158 155 aH 352
def c8(x0:Nat)(x1:Nat)(x2:Int)(x3:Nat)(x4:Nat)(x5:Nat)(x6:Nat):=Obj.mk Y none (Data.dict (G [t P af x0 (A aH 352),t P ae x1 (u x2 x3),t P ag x4 (r x5),t P au x6 K]) 2) I
def fU:=c8 P 379 383 47 382 384 160 385
def go:=Obj.mk ah none (Data.cls (ClassData.mk bg [r 149] [r 162,r 149,bp,bX,bT,V] 161 bg true [] [] false none false)) (G [Z 153,none,some (A bg 372),some (A bg 380),some bZ,some ab])
def jE:=al 162
def lS:=am 162
def mW:=cK P 395 397 a0 396 399 49 398 400 172
def iQ:=aj a0 390 391 392 49 168 169 393 394
def jM:=ai 170 167 aH 352
def fh:=c8 P 395 399 49 398 400 172 401
def gs:=Obj.mk ah none (Data.cls (ClassData.mk a0 [r 149] [r 174,r 149,bp,bX,bT,V] 173 a0 true [] [] false none false)) (G [Z 165,none,some (A a0 388),some (A a0 396),some bZ,some ab])
def iK:=al 174
def k4:=am 174
def mK:=cK P 411 413 a9 412 415 51 414 416 184
def mL:=aj a9 406 407 408 51 180 181 409 410
def jf:=ai 182 179 aH 352
def fH:=c8 P 411 415 51 414 416 184 417
def gR:=Obj.mk ah none (Data.cls (ClassData.mk a9 [r 149] [r 186,r 149,bp,bX,bT,V] 185 a9 true [] [] false none false)) (G [Z 177,none,some (A a9 404),some (A a9 412),some bZ,some ab])
def j4:=al 186
def mc:=am 186
def np:=cH P 427 aH 352 429 a6 428 431 53 430 M 439 202 441 203
def l6:=cG 55 201
def je:=aj a6 422 423 424 53 192 193 425 426
def kh:=ai 194 191 aH 352
def e2:=ad H 435 hJ 436
def mP:=B M cS (y 14 0)
def gq:=E M 432 cS 433 434 55 2 196 197 198 199 200 437 438
def kQ:=C M cS (y 14 0) aH 352 201
def fy:=N hJ 440
def fo:=cM P 427 aH 352 431 53 430 M 439 202 441 203 442
def fa:=Obj.mk ah none (Data.cls (ClassData.mk a6 [r 149] [r 205,r 149,bp,bX,bT,V] 204 a6 true [] [] false none false)) (G [Z 189,none,some (A a6 420),some (A a6 428),some bZ,some ab])
def kZ:=al 205
def kz:=am 205
def i3:=Obj.mk Y none (Data.dict (G [t P af 454 (A az 445),t P aG 456 (A a8 455),t P ae 458 (u 58 457),t P M 465 (r 221),t P bP 471 (r 226),t P bY 477 (r 231),t P bR 486 (r 238),t P bq 495 (r 245),t P aJ 501 (r 250),t P aK 507 (r 255),t P bN 518 (r 262),t P bS 524 (r 267),t P bO 530 (r 272),t P bU 539 (r 279),t P ag 541 (r 280)]) 15) I
def lp:=Obj.mk K none (Data.fields (G [u 60 0,u 4 0,r 220,u 63 0,u 4 0,r 225,u 71 0,u 4 0,r 230,u 77 0,u 4 0,r 237,u 80 0,u 4 0,r 244,u 86 0,u 4 0,r 249,u 89 0,u 4 0,r 254,u 92 0,u 4 0,r 261,u 100 0,u 4 0,r 266,u 103 0,u 4 0,r 271,u 106 0,u 4 0,r 278])) I
def lA:=aj a8 449 450 451 58 211 212 452 453
def kI:=ai 213 210 az 445
def fL:=N H 462
def lh:=B M cW (y 16 0)
def gz:=E M 459 cW 460 461 60 1 215 216 217 218 219 463 464
def km:=C M cW (y 16 0) az 445 220
def ko:=B bP cV (y 16 1)
def av(x0:Str)(x1:Nat)(x2:Str)(x3:Nat)(x4:Nat)(x5:Int)(x6:Int)(x7:Nat)(x8:Nat)(x9:Nat)(x10:Int)(x11:Nat):=Obj.mk cQ none (Data.fields (G [A x0 x1,A x2 x3,A aV x4,u x5 0,u x6 0,u 0 0,u 0 0,u 3 0,r x7,ab,u 181 0,r x8,K,K,K,r x9,u x10 0,u x5 0,A aV x11])) I
def g4:=av bP 466 cV 467 468 63 3 222 223 224 469 470
def mG:=C bP cV (y 16 1) az 445 225
def iS:=B bY cX (y 16 2)
def gU:=av bY 472 cX 473 474 71 2 227 228 229 475 476
def jF:=C bY cX (y 16 2) az 445 230
def gh:=ak H 481 ar 482 X 483
def nj:=B bR c4 (y 16 3)
def fM:=E bR 478 c4 479 480 77 3 232 233 234 235 236 484 485
def lz:=C bR c4 (y 16 3) az 445 237
def fT:=ak H 490 ar 491 cT 492
def lL:=B bq c7 (y 16 4)
def fE:=E bq 487 c7 488 489 80 2 239 240 241 242 243 493 494
def jo:=C bq c7 (y 16 4) az 445 244
def m8:=B aJ eg (y 16 5)
def gf:=av aJ 496 eg 497 498 86 1 246 247 248 499 500
def mi:=C aJ eg (y 16 5) az 445 249
def jO:=B aK dp (y 16 6)
def gS:=av aK 502 dp 503 504 89 1 251 252 253 505 506
def lm:=C aK dp (y 16 6) az 445 254
def bJ(x0:Str)(x1:Nat)(x2:Str)(x3:Nat)(x4:Str)(x5:Nat)(x6:Str)(x7:Nat)(x8:Str)(x9:Nat):=Obj.mk ay none (Data.seq (G [A x0 x1,A x2 x3,A x4 x5,A x6 x7,A x8 x9]) 0) I
def fk:=bJ H 511 cT 512 pG 513 cU 514 pK 515
def iA:=B bN eb (y 16 7)
def f8:=E bN 508 eb 509 510 92 2 256 257 258 259 260 516 517
def mV:=C bN eb (y 16 7) az 445 261
def kD:=B bS eu (y 16 8)
def gg:=av bS 519 eu 520 521 100 1 263 264 265 522 523
def ni:=C bS eu (y 16 8) az 445 266
def m3:=B bO d1 (y 16 9)
def gT:=av bO 525 d1 526 527 103 1 268 269 270 528 529
def nf:=C bO d1 (y 16 9) az 445 271
def fY:=ak H 534 ar 535 cU 536
def kt:=B bU d8 (y 16 10)
def gm:=E bU 531 d8 532 533 106 2 273 274 275 276 277 537 538
def kU:=C bU d8 (y 16 10) az 445 278
def gW:=N py 540
def fP:=Obj.mk Y none (Data.dict (G [t P af 454 (A az 445),t P ae 458 (u 58 457),t P M 465 (r 221),t P bP 471 (r 226),t P bY 477 (r 231),t P bR 486 (r 238),t P bq 495 (r 245),t P aJ 501 (r 250),t P aK 507 (r 255),t P bN 518 (r 262),t P bS 524 (r 267),t P bO 530 (r 272),t P bU 539 (r 279),t P ag 541 (r 280),t P ba 543 (r 283),t P aQ 545 (r 284),t P au 546 K]) 4) I
def fz:=Obj.mk ah none (Data.cls (ClassData.mk a8 [V] [r 282,V] 281 a8 true [] [] false none false)) (G [none,none,some (A a8 447),some (A a8 455),some ap,some ab])
def fe:=bo 542 282
def gJ:=a5 544 282
def lQ:=al 282
def li:=am 282
def gA:=N pm 570
def iB:=B bh bh (R 26)
def fJ:=E bh 567 bh 568 569 120 1 287 288 289 290 291 571 572
def iT:=C bh bh (R 26) aA 549 292
def ln:=B aY aY (R 27)
def gL:=av aY 574 aY 575 576 122 1 294 295 296 577 578
def j6:=C aY aY (R 27) aA 549 297
def gF:=ad hW 583 cO 584
def mB:=B a2 a2 (R 28)
def gC:=E a2 580 a2 581 582 132 1 299 300 301 302 303 585 586
def kY:=C a2 a2 (R 28) aA 549 304
def mO:=Obj.mk Y none (Data.dict (G [t P af 595 (A aA 549),t P aG 597 (A bd 596),t P ae 599 (u 135 598),t P M 607 (r 319),t P cf 615 (r 326),t P ci 624 (r 333),t P b6 633 (r 340),t P cb 641 (r 347),t P aD 650 (r 354),t P ck 660 (r 361),t P ag 663 (r 362)]) 11) I
def kc:=Obj.mk K none (Data.fields (G [u 137 0,u 4 0,r 318,u 141 0,u 4 0,r 325,u 147 0,u 4 0,r 332,u 157 0,u 4 0,r 339,u 171 0,u 4 0,r 346,u 177 0,u 4 0,r 353,u 190 0,u 4 0,r 360])) I
def iV:=aj bd 590 591 592 135 309 310 593 594
def lP:=ai 311 308 aA 549
def hh:=ad H 603 cj 604
def jH:=B M dX (y 29 0)
def gQ:=E M 600 dX 601 602 137 2 313 314 315 316 317 605 606
def kb:=C M dX (y 29 0) aA 549 318
def ff:=ad H 611 hW 612
def iU:=B cf du (y 29 1)
def gK:=E cf 608 du 609 610 141 2 320 321 322 323 324 613 614
def ng:=C cf du (y 29 1) aA 549 325
def g6:=ak H 619 hX 620 cO 621
def m4:=B ci er (y 29 2)
def fq:=E ci 616 er 617 618 147 2 327 328 329 330 331 622 623
def mp:=C ci er (y 29 2) aA 549 332
def gY:=ak H 628 hX 629 oC 630
def iN:=B b6 dJ (y 29 3)
def gM:=E b6 625 dJ 626 627 157 2 334 335 336 337 338 631 632
def jw:=C b6 dJ (y 29 3) aA 549 339
def he:=ad H 637 cO 638
def lf:=B cb dx (y 29 4)
def f3:=E cb 634 dx 635 636 171 1 341 342 343 344 345 639 640
def ki:=C cb dx (y 29 4) aA 549 346
def e8:=ak H 645 pA 646 pd 647
def no:=B aD en (y 29 5)
def hb:=E aD 642 en 643 644 177 1 348 349 350 351 352 648 649
def lx:=C aD en (y 29 5) aA 549 353
def aI(x0:Str)(x1:Nat)(x2:Str)(x3:Nat)(x4:Str)(x5:Nat)(x6:Str)(x7:Nat):=Obj.mk ay none (Data.seq (G [A x0 x1,A x2 x3,A x4 x5,A x6 x7]) 0) I
def fg:=aI H 654 dM 655 bq 656 qd 657
def kr:=B ck dR (y 29 6)
def f7:=E ck 651 dR 652 653 190 2 355 356 357 358 359 658 659
def j3:=C ck dR (y 29 6) aA 549 360
def fB:=ad cT 661 cj 662
def hf:=Obj.mk Y none (Data.dict (G [t P af 595 (A aA 549),t P ae 599 (u 135 598),t P M 607 (r 319),t P cf 615 (r 326),t P ci 624 (r 333),t P b6 633 (r 340),t P cb 641 (r 347),t P aD 650 (r 354),t P ck 660 (r 361),t P ag 663 (r 362),t P ba 665 (r 365),t P aQ 667 (r 366),t P au 668 K]) 4) I
def f5:=Obj.mk ah none (Data.cls (ClassData.mk bd [V] [r 364,V] 363 bd true [] [] false none false)) (G [none,none,some (A bd 588),some (A bd 596),some ap,some ab])
def fA:=bo 664 364
def gc:=a5 666 364
def i7:=al 364
def mI:=am 364
def hl:=Obj.mk Y none (Data.dict (G [t P oy 675 (A dB 676),t P cJ 677 (A dB 678),t P pg 679 (A pO 680),t P pJ 681 (A dB 682),t P ok 683 (A pq 684),t P pV 685 (A hU 686),t P oz 687 (A hU 688)]) 7) I
def m0:=Obj.mk Y none (Data.dict (G [t P af 704 (A L 671),t P aG 706 (A aC 705),t P ae 708 (u 202 707),t P aw 715 (r 383),t P X 722 (r 390),t P U 731 (r 397),t P aL 739 (r 404),t P aM 746 (r 411),t P T 753 (r 418),t P ag 754 (r 419)]) 10) I
def mq:=Obj.mk K none (Data.fields (G [u 204 0,u 4 0,r 382,u 207 0,u 4 0,r 389,u 210 0,u 4 0,r 396,u 213 0,u 4 0,r 403,u 216 0,u 4 0,r 410,u 219 0,u 4 0,r 417])) I
def kv:=aj aC 699 700 701 202 373 374 702 703
def ky:=ai 375 372 L 671
def fW:=N H 712
def mz:=B aw dY (y 33 0)
def fZ:=E aw 709 dY 710 711 204 1 377 378 379 380 381 713 714
def lq:=C aw dY (y 33 0) L 671 382
def gb:=N H 719
def i5:=B X dF (y 33 1)
def gX:=E X 716 dF 717 718 207 1 384 385 386 387 388 720 721
def jt:=C X dF (y 33 1) L 671 389
def e9:=ak H 726 aS 727 aT 728
def iE:=B U di (y 33 2)
def fK:=E U 723 di 724 725 210 3 391 392 393 394 395 729 730
def j2:=C U di (y 33 2) L 671 396
def fi:=ad H 735 aT 736
def k9:=B aL dN (y 33 3)
def fc:=E aL 732 dN 733 734 213 2 398 399 400 401 402 737 738
def jX:=C aL dN (y 33 3) L 671 403
def gi:=N H 743
def jZ:=B aM ec (y 33 4)
def gk:=E aM 740 ec 741 742 216 1 405 406 407 408 409 744 745
def lG:=C aM ec (y 33 4) L 671 410
def g5:=N H 750
def kT:=B T dL (y 33 5)
def fR:=E T 747 dL 748 749 219 1 412 413 414 415 416 751 752
def jQ:=C T dL (y 33 5) L 671 417
def gE:=Obj.mk Y none (Data.dict (G [t P af 704 (A L 671),t P ae 708 (u 202 707),t P aw 715 (r 383),t P X 722 (r 390),t P U 731 (r 397),t P aL 739 (r 404),t P aM 746 (r 411),t P T 753 (r 418),t P ag 754 (r 419),t P ba 756 (r 422),t P aQ 758 (r 423),t P au 759 K]) 4) I
def rd:=Obj.mk ah none (Data.cls (ClassData.mk aC [V] [r 421,V] 420 aC true [] [r 449,r 560] false none false)) (G [none,none,some (A aC 697),some (A aC 705),some ap,some ab])
def e5:=bo 755 421
def fI:=a5 757 421
def jg:=al 421
def lg:=am 421
def aO:=cL 421
def m1:=Obj.mk Y none (Data.dict (G [t P af 769 (A L 671),t P aG 771 (A bj 770),t P ae 773 (u 221 772),t P M 782 (r 439),t P aw 789 (r 446),t P ag 792 (r 447)]) 6) I
def mR:=Obj.mk K none (Data.fields (G [u 223 0,u 4 0,r 438,u 227 0,u 4 0,r 445])) I
def kB:=aj bj 764 765 766 221 429 430 767 768
def lk:=ai 431 428 L 671
def gI:=ak H 777 bL 778 cu 779
def lE:=B M dq (y 34 0)
def f9:=E M 774 dq 775 776 223 3 433 434 435 436 437 780 781
def nk:=C M dq (y 34 0) L 671 438
def f1:=N H 786
def kf:=B aw dl (y 34 1)
def gP:=E aw 783 dl 784 785 227 1 440 441 442 443 444 787 788
def mw:=C aw dl (y 34 1) L 671 445
def fd:=ad cu 790 bL 791
def fX:=Obj.mk Y none (Data.dict (G [t P af 769 (A L 671),t P ae 773 (u 221 772),t P M 782 (r 439),t P aw 789 (r 446),t P ag 792 (r 447),t P au 793 K]) 2) I
def ga:=Obj.mk ah none (Data.cls (ClassData.mk bj [r 421] [r 449,r 421,V] 448 bj true [] [r 482,r 515,r 600,r 647] false none false)) (G [Z 426,none,some (A bj 762),some (A bj 770),some ap,some ab])
def ls:=al 449
def lv:=am 449
def aE:=cL 449
def cI(x0:Nat)(x1:Nat)(x2:Str)(x3:Nat)(x4:Nat)(x5:Int)(x6:Nat)(x7:Str)(x8:Nat)(x9:Nat)(x10:Nat)(x11:Nat)(x12:Nat)(x13:Nat)(x14:Nat)(x15:Nat):=Obj.mk Y none (Data.dict (G [t P af x0 (A L 671),t P aG x1 (A x2 x3),t P ae x4 (u x5 x6),t P x7 x8 (r x9),t P U x10 (r x11),t P T x12 (r x13),t P ag x14 (r x15)]) 7) I
def jB:=cI P 803 805 aZ 804 807 229 806 X 814 465 823 472 830 479 831 480
def cF(x0:Int)(x1:Nat)(x2:Int)(x3:Nat)(x4:Int)(x5:Nat):=Obj.mk K none (Data.fields (G [u x0 0,u 4 0,r x1,u x2 0,u 4 0,r x3,u x4 0,u 4 0,r x5])) I
def ji:=cF 231 464 234 471 237 478
def iY:=aj aZ 798 799 800 229 455 456 801 802
def iJ:=ai 457 454 L 671
def gp:=N H 811
def jp:=B X dH (y 35 0)
def g1:=E X 808 dH 809 810 231 1 459 460 461 462 463 812 813
def nd:=C X dH (y 35 0) L 671 464
def f6:=ak H 818 aS 819 aT 820
def i4:=B U dO (y 35 1)
def e6:=E U 815 dO 816 817 234 3 466 467 468 469 470 821 822
def lJ:=C U dO (y 35 1) L 671 471
def fr:=N H 827
def jq:=B T ep (y 35 2)
def fx:=E T 824 ep 825 826 237 1 473 474 475 476 477 828 829
def i8:=C T ep (y 35 2) L 671 478
def cE(x0:Nat)(x1:Nat)(x2:Int)(x3:Nat)(x4:Str)(x5:Nat)(x6:Nat)(x7:Nat)(x8:Nat)(x9:Nat)(x10:Nat)(x11:Nat)(x12:Nat)(x13:Nat):=Obj.mk Y none (Data.dict (G [t P af x0 (A L 671),t P ae x1 (u x2 x3),t P x4 x5 (r x6),t P U x7 (r x8),t P T x9 (r x10),t P ag x11 (r x12),t P au x13 K]) 2) I
def fV:=cE P 803 807 229 806 X 814 465 823 472 830 479 831 480 832
def fF:=Obj.mk ah none (Data.cls (ClassData.mk aZ [r 449] [r 482,r 449,r 421,V] 481 aZ true [] [] false none false)) (G [Z 452,none,some (A aZ 796),some (A aZ 804),some ap,some ab])
def kE:=al 482
def lR:=am 482
def m5:=cI P 842 844 a1 843 846 239 845 X 853 498 862 505 869 512 870 513
def lr:=cF 241 497 244 504 247 511
def jb:=aj a1 837 838 839 239 488 489 840 841
def nm:=ai 490 487 L 671
def gZ:=N H 850
def iI:=B X dK (y 36 0)
def hi:=E X 847 dK 848 849 241 1 492 493 494 495 496 851 852
def lH:=C X dK (y 36 0) L 671 497
def gj:=ak H 857 aS 858 aT 859
def jl:=B U es (y 36 1)
def gG:=E U 854 es 855 856 244 3 499 500 501 502 503 860 861
def mv:=C U es (y 36 1) L 671 504
def gn:=N H 866
def kL:=B T ea (y 36 2)
def gD:=E T 863 ea 864 865 247 1 506 507 508 509 510 867 868
def mE:=C T ea (y 36 2) L 671 511
def hj:=cE P 842 846 239 845 X 853 498 862 505 869 512 870 513 871
def e7:=Obj.mk ah none (Data.cls (ClassData.mk a1 [r 449] [r 515,r 449,r 421,V] 514 a1 true [] [] false none false)) (G [Z 485,none,some (A a1 835),some (A a1 843),some ap,some ab])
def ms:=al 515
def j9:=am 515
def l4:=cD P 881 L 671 883 bk 882 885 249 884 895 531 aw 902 538 X 909 545 U 915 550 T 922 557 926 558
def iz:=cA 251 530 256 537 259 544 262 549 265 556
def mT:=aj bk 876 877 878 249 521 522 879 880
def jU:=ai 523 520 L 671
def e1:=aI H 889 bL 890 dG 891 dg 892
def kC:=B M dm (y 37 0)
def hc:=E M 886 dm 887 888 251 4 525 526 527 528 529 893 894
def ml:=C M dm (y 37 0) L 671 530
def gr:=N H 899
def lM:=B aw dU (y 37 1)
def fw:=E aw 896 dU 897 898 256 1 532 533 534 535 536 900 901
def jC:=C aw dU (y 37 1) L 671 537
def fn:=N H 906
def mj:=B X dA (y 37 2)
def fv:=E X 903 dA 904 905 259 1 539 540 541 542 543 907 908
def kP:=C X dA (y 37 2) L 671 544
def jR:=B U ez (y 37 3)
def fl:=av U 910 ez 911 912 262 3 546 547 548 913 914
def mY:=C U ez (y 37 3) L 671 549
def g3:=N H 919
def kK:=B T dw (y 37 4)
def fO:=E T 916 dw 917 918 265 1 551 552 553 554 555 920 921
def mf:=C T dw (y 37 4) L 671 556
def hg:=ak dg 923 dG 924 bL 925
def g9:=Obj.mk Y none (Data.dict (G [t P af 881 (A L 671),t P ae 885 (u 249 884),t P M 895 (r 531),t P aw 902 (r 538),t P X 909 (r 545),t P U 915 (r 550),t P T 922 (r 557),t P ag 926 (r 558),t P au 927 K]) 2) I
def fu:=Obj.mk ah none (Data.cls (ClassData.mk bk [r 421] [r 560,r 421,V] 559 bk true [] [] false none false)) (G [Z 518,none,some (A bk 874),some (A bk 882),some ap,some ab])
def iF:=al 560
def jY:=am 560
def mA:=Obj.mk Y none (Data.dict (G [t P af 937 (A L 671),t P aG 939 (A bl 938),t P ae 941 (u 267 940),t P X 948 (r 576),t P U 957 (r 583),t P aM 964 (r 590),t P T 971 (r 597),t P ag 972 (r 598)]) 8) I
def k1:=Obj.mk K none (Data.fields (G [u 269 0,u 4 0,r 575,u 272 0,u 4 0,r 582,u 275 0,u 4 0,r 589,u 278 0,u 4 0,r 596])) I
def m6:=aj bl 932 933 934 267 566 567 935 936
def jv:=ai 568 565 L 671
def gO:=N H 945
def iM:=B X et (y 38 0)
def e3:=E X 942 et 943 944 269 1 570 571 572 573 574 946 947
def nb:=C X et (y 38 0) L 671 575
def f4:=ak H 952 aS 953 aT 954
def nn:=B U ek (y 38 1)
def fp:=E U 949 ek 950 951 272 3 577 578 579 580 581 955 956
def kp:=C U ek (y 38 1) L 671 582
def gH:=N H 961
def jN:=B aM d2 (y 38 2)
def gx:=E aM 958 d2 959 960 275 1 584 585 586 587 588 962 963
def lW:=C aM d2 (y 38 2) L 671 589
def fN:=N H 968
def kR:=B T dd (y 38 3)
def f0:=E T 965 dd 966 967 278 1 591 592 593 594 595 969 970
def lD:=C T dd (y 38 3) L 671 596
def g8:=Obj.mk Y none (Data.dict (G [t P af 937 (A L 671),t P ae 941 (u 267 940),t P X 948 (r 576),t P U 957 (r 583),t P aM 964 (r 590),t P T 971 (r 597),t P ag 972 (r 598),t P au 973 K]) 2) I
def g0:=Obj.mk ah none (Data.cls (ClassData.mk bl [r 449] [r 600,r 449,r 421,V] 599 bl true [] [] false none false)) (G [Z 563,none,some (A bl 930),some (A bl 938),some ap,some ab])
def k5:=al 600
def k0:=am 600
def mb:=cD P 983 L 671 985 a3 984 987 280 986 997 616 X 1004 623 U 1013 630 aL 1021 637 T 1028 644 1030 645
def mU:=cA 282 615 286 622 289 629 292 636 295 643
def mu:=aj a3 978 979 980 280 606 607 981 982
def md:=ai 608 605 L 671
def e4:=aI H 991 bL 992 cu 993 bK 994
def jJ:=B M d9 (y 39 0)
def gv:=E M 988 d9 989 990 282 4 610 611 612 613 614 995 996
def kk:=C M d9 (y 39 0) L 671 615
def fs:=N H 1001
def k2:=B X ew (y 39 1)
def gu:=E X 998 ew 999 1000 286 1 617 618 619 620 621 1002 1003
def kW:=C X ew (y 39 1) L 671 622
def fC:=ak H 1008 aS 1009 aT 1010
def kM:=B U ev (y 39 2)
def fm:=E U 1005 ev 1006 1007 289 3 624 625 626 627 628 1011 1012
def l0:=C U ev (y 39 2) L 671 629
def ha:=ad H 1017 aT 1018
def lj:=B aL dy (y 39 3)
def gy:=E aL 1014 dy 1015 1016 292 2 631 632 633 634 635 1019 1020
def lB:=C aL dy (y 39 3) L 671 636
def fQ:=N H 1025
def jm:=B T dr (y 39 4)
def fD:=E T 1022 dr 1023 1024 295 1 638 639 640 641 642 1026 1027
def kn:=C T dr (y 39 4) L 671 643
def gN:=N bK 1029
def hd:=Obj.mk Y none (Data.dict (G [t P af 983 (A L 671),t P ae 987 (u 280 986),t P M 997 (r 616),t P X 1004 (r 623),t P U 1013 (r 630),t P aL 1021 (r 637),t P T 1028 (r 644),t P ag 1030 (r 645),t P au 1031 K]) 2) I
def fS:=Obj.mk ah none (Data.cls (ClassData.mk a3 [r 449] [r 647,r 449,r 421,V] 646 a3 true [] [] false none false)) (G [Z 603,none,some (A a3 976),some (A a3 984),some ap,some ab])
def ld:=al 647
def l3:=am 647
def qf:=e (boot_o_0 P) (e (boot_o_1 P) (e (p9 P) (e (boot_o_7 P) (e h (e it (e z (e mt (e lm (g gD) .nil) (e lq (g z) .nil)) (e (np P) (e kb (g e3) .nil) (g fd))) (e aU (e jn (e h (g mj) .nil) (g h)) (e z (e h (g mU) .nil) (g i8)))) (e iv (e h (e h (e gT (g e1) .nil) (g z)) (e kz (e z (g h) .nil) (g jp))) (e fG (e iK (e mB (g (g9 P)) .nil) (g kB)) (e h (e i7 (g kW) .nil) (g h))))) (e eH (e eJ (e eF (e gw (e h (g O) .nil) (e h (g fS) .nil)) (e h (e h (g kp) .nil) (g h))) (e z (e (mW P) (e z (g h) .nil) (g fI)) (e jF (e kr (g gv) .nil) (g (m5 P))))) (e h (e ij (e kl (e kU (g h) .nil) (g gi)) (e h (e he (g (g8 P)) .nil) (g e6))) (e jr (e jf (e iV (g k1) .nil) (g nk)) (e z (e kv (g h) .nil) (g jl)))))) (e h (e ix (e z (e eG (e mZ (e h (g e7) .nil) (e h (g fD) .nil)) (e kh (e h (g f4) .nil) (g lv))) (e ir (e jE (e iB (g z) .nil) (g h)) (e h (e h (g z) .nil) (g kE)))) (e h (e h (e h (e fY (g ml) .nil) (g fc)) (e h (e gM (g kR) .nil) (g z))) (e O (e (mK P) (e O (g aE) .nil) (g gI)) (e lL (e O (g h) .nil) (g h))))) (e h (e eN (e ip (e kq (e ni (g mT) .nil) (g iE)) (e fy (e m4 (g h) .nil) (g h))) (e fb (e jM (e h (g kK) .nil) (g O)) (e h (e (hf P) (g fs) .nil) (g nm)))) (e ig (e (eT P) (e (jW P) (e fe (g h) .nil) (g lG)) (e lh (e ki (g aE) .nil) (g fr))) (e f2 (e j4 (e hh (g z) .nil) (g h)) (e h (e fW (g lj) .nil) (g z))))))) (e (boot_o_5 P) (e (boot_o_9 P) (e e0 (e iw (e h (e (g2 P) (e z (g h) .nil) (e z (g h) .nil)) (e l6 (e z (g h) .nil) (g ga))) (e (h5 P) (e (fU P) (e gA (g kP) .nil) (g fR)) (e g4 (e hb (g md) .nil) (g (fV P))))) (e z (e ik (e iG (e h (g kC) .nil) (g h)) (e O (e h (g fN) .nil) (g nd))) (e jG (e aF (e kY (g iF) .nil) (g h)) (e fT (e (hl P) (g z) .nil) (g hi))))) (e eD (e h (e eK (e nl (e kD (g h) .nil) (e e9 (g l3) .nil)) (e gq (e g6 (g z) .nil) (g iY))) (e h (e z (e gL (g g3) .nil) (g lg)) (e z (e j3 (g h) .nil) (g lr)))) (e eU (e ia (e aF (e (fP P) (g fw) .nil) (g jZ)) (e fL (e lf (g k5) .nil) (g h))) (e h (e (fH P) (e h (g jv) .nil) (g z)) (e gf (e h (g ha) .nil) (g mv)))))) (e cR (e ic (e h (e eQ (e h (e f8 (g j9) .nil) (e gX (g gN) .nil)) (e z (e gK (g nn) .nil) (g O))) (e lN (e aF (e iT (g fl) .nil) (g rd)) (e iS (e fg (g h) .nil) (g aE)))) (e eV (e eX (e gd (e kt (g z) .nil) (g h)) (e lA (e h (g lD) .nil) (g h))) (e h (e z (e h (g (mA P)) .nil) (g lE)) (e jo (e h (g fm) .nil) (g gj))))) (e (io P) (e ii (e O (e O (e z (g h) .nil) (g j2)) (e fa (e mp (g gx) .nil) (g gp))) (e h (e (fh P) (e gF (g mf) .nil) (g h)) (e fM (e fA (g k2) .nil) (g z)))) (e id (e h8 (e z (e lQ (g fn) .nil) (g z)) (e km (e z (g (mb P)) .nil) (g jq))) (e lZ (e aF (e jH (g h) .nil) (g gP)) (e jO (e mz (g lB) .nil) (g h)))))))) (e (boot_o_2 P) (e (boot_o_4 P) (e (boot_o_8 P) (e z (e iu (e eC (e h (e h (g mE) .nil) (e h (g fQ) .nil)) (e h (e h (g nb) .nil) (g (fX P)))) (e O (e h (e z (g fv) .nil) (g kT)) (e ko (e no (g mu) .nil) (g h)))) (e h (e h6 (e z (e nf (g h) .nil) (g fi)) (e h (e gY (g z) .nil) (g g1))) (e lw (e k4 (e gC (g fu) .nil) (g lk)) (e z (e mI (g h) .nil) (g iI))))) (e eY (e iq (e eZ (e h (e z (g (l4 P)) .nil) (e z (g ld) .nil)) (e mP (e z (g h) .nil) (g ji))) (e hk (e h (e ln (g z) .nil) (g jg)) (e h (e f7 (g kk) .nil) (g h)))) (e z (e eM (e iZ (e gW (g lM) .nil) (g h)) (e z (e h (g g0) .nil) (g lJ))) (e ly (e h (e lP (g m6) .nil) (g h)) (e m8 (e ky (g z) .nil) (g gG)))))) (e qP (e eB (e eP (e iy (e kG (e iA (g ms) .nil) (e i5 (g kn) .nil)) (e h (e iU (g h) .nil) (g aE))) (e iW (e lS (e fJ (g jR) .nil) (g (gE P))) (e z (e z (g e4) .nil) (g lR)))) (e h4 (e z (e (gB P) (e h (g h) .nil) (g jX)) (e lp (e jw (g f0) .nil) (g f6))) (e (js P) (e h (e (mO P) (g O) .nil) (g h)) (e fE (e (m0 P) (g kM) .nil) (g z))))) (e O (e h (e aU (e g7 (e h (g jU) .nil) (g fK)) (e (fo P) (e fq (g jN) .nil) (g z))) (e jd (e h (e z (g fO) .nil) (g (m1 P))) (e nj (e f5 (g h) .nil) (g h)))) (e eO (e eR (e h (e gJ (g z) .nil) (g h)) (e gz (e h (g O) .nil) (g h))) (e h (e mc (e h (g gO) .nil) (g kf)) (e z (e h (g gy) .nil) (g gn))))))) (e (boot_o_6 P) (e (boot_o_10 P) (e h (e h (e im (e gl (e fk (g (hj P)) .nil) (e gb (g jm) .nil)) (e je (e ff (g z) .nil) (g ls))) (e h (e go (e h (g h) .nil) (g jQ)) (e mG (e lx (g h) .nil) (g fF)))) (e eL (e il (e kd (e z (g hc) .nil) (g k9)) (e (i3 P) (e iN (g h) .nil) (g h))) (e aU (e O (e h (g jY) .nil) (g z)) (e h (e h (g fC) .nil) (g lH))))) (e eS (e z (e ih (e hm (e gg (g iz) .nil) (g h)) (e kQ (e h (g gH) .nil) (g iJ))) (e kg (e iQ (e j6 (g h) .nil) (g aO)) (e gh (e fB (g z) .nil) (g jb)))) (e h (e h (e O (e fz (g jC) .nil) (g gk)) (e h (e f3 (g k0) .nil) (g z))) (e z (e gR (e z (g h) .nil) (g f1)) (e mi (e z (g h) .nil) (g h)))))) (e cZ (e (eI P) (e ib (e (eW P) (e z (e mV (g aO) .nil) (e jt (g (hd P)) .nil)) (e e2 (e ng (g fp) .nil) (g (jB P)))) (e h (e O (e h (g mY) .nil) (g e5)) (e gU (e h (g jJ) .nil) (g O)))) (e ie (e h (e ft (e gm (g gr) .nil) (g z)) (e kI (e z (g h) .nil) (g i4))) (e iO (e mL (e kc (g h) .nil) (g f9)) (e h (e mq (g l0) .nil) (g h))))) (e h (e eE (e (h7 P) (e (kX P) (e m3 (g z) .nil) (g h)) (e kZ (e h (g lW) .nil) (g h))) (e (fj P) (e gs (e h (g hg) .nil) (g mR)) (e lz (e gc (g gu) .nil) (g gZ)))) (e h (e h9 (e jj (e li (g h) .nil) (g g5)) (e h (e e8 (g h) .nil) (g fx))) (e gV (e O (e gQ (g iM) .nil) (g mw)) (e gS (e fZ (g h) .nil) (g kL))))))))
def h0:=Obj.mk Y none (Data.dict (G [t P hy 165 (A aR 1516),t P au 166 K,t P hx 167 K,t P ho 168 hp,t P hr 169 K,t P hw 170 (r 6),t P hP 171 (r 4),t P hz 173 (A aV 172),t P hB 174 K,t P bi 193 (r 21),t P hA 205 (r 22),t P hE 212 (r 26),t P a7 275 (r 71),t P a4 298 (r 92),t P be 321 (r 111),t P bc 344 (r 130),t P bf 351 (r 139),t P bb 371 (r 149),t P bg 387 (r 162),t P a0 403 (r 174),t P a9 419 (r 186),t P a6 444 (r 205),t P a8 548 (r 282),t P hD 552 (u 400 551),t P hR 554 (u 2000 553),t P hG 556 (u 2000 555),t P hF 558 (u 8 557),t P hC 560 (u 100000 559),t P hL 562 (u 32 561),t P hQ 564 (u 37 563),t P hM 566 (u 126 565),t P bh 573 (r 293),t P aY 579 (r 298),t P a2 587 (r 305),t P bd 670 (r 364),t P hH 674 (u 40 673),t P hN 696 (r 369),t P aC 761 (r 421),t P bj 795 (r 449),t P aZ 834 (r 482),t P a1 873 (r 515),t P bk 929 (r 560),t P bl 975 (r 600),t P a3 1033 (r 647),t P bw 1074 (r 680),t P bG 1115 (r 713),t P bx 1121 (r 720),t P aD 1130 (r 727),t P bz 1138 (r 734),t P bv 1147 (r 741),t P bt 1327 (r 859),t P bu 1393 (r 906),t P bF 1515 (r 1002),t P bH 1525 (r 1013),t P bA 1532 (r 1020),t P bD 1543 (r 1027),t P bB 1553 (r 1034),t P bI 1566 (r 1041),t P bE 1572 (r 1046),t P bs 1578 (r 1051),t P bC 1584 (r 1056)]) 61) I
def qO:=Obj.mk K none (Data.fields (G [u 1 0,u 0 0,r 20,u 7 0,u 0 0,r 32,u 26 0,u 0 0,r 81,u 30 0,u 0 0,r 100,u 34 0,u 0 0,r 119,u 38 0,u 0 0,r 138,u 45 0,u 0 0,r 145,u 47 0,u 0 0,r 158,u 49 0,u 0 0,r 170,u 51 0,u 0 0,r 182,u 53 0,u 0 0,r 194,u 58 0,u 0 0,r 213,u 120 0,u 0 0,r 292,u 122 0,u 0 0,r 297,u 132 0,u 0 0,r 304,u 135 0,u 0 0,r 311,u 202 0,u 0 0,r 375,u 221 0,u 0 0,r 431,u 229 0,u 0 0,r 457,u 239 0,u 0 0,r 490,u 249 0,u 0 0,r 523,u 267 0,u 0 0,r 568,u 280 0,u 0 0,r 608,u 297 0,u 0 0,r 655,u 307 0,u 0 0,r 688,u 319 0,u 0 0,r 719,u 325 0,u 0 0,r 726,u 335 0,u 0 0,r 733,u 349 0,u 0 0,r 740,u 354 0,u 0 0,r 747,u 439 0,u 0 0,r 869,u 462 0,u 0 0,r 916,u 524 0,u 0 0,r 1012,u 528 0,u 0 0,r 1019,u 532 0,u 0 0,r 1026,u 541 0,u 0 0,r 1033,u 548 0,u 0 0,r 1040,u 556 0,u 0 0,r 1045,u 565 0,u 0 0,r 1050,u 583 0,u 0 0,r 1055])) I
def mm:=Obj.mk ah none (Data.cls (ClassData.mk aC [V] [r 421,V] 420 aC true [] [r 449,r 560,r 680,r 713] false none false)) (G [none,none,some (A aC 697),some (A aC 705),some ap,some ab])
def rJ:=cI P 1041 1043 bw 1042 1045 297 1044 M 1053 663 1062 670 1069 677 1071 678
def qS:=cF 299 662 302 669 305 676
def sE:=aj bw 1036 1037 1038 297 653 654 1039 1040
def rx:=ai 655 652 L 671
def jx:=ad H 1049 bK 1050
def st:=B M ey (y 40 0)
def l1:=E M 1046 ey 1047 1048 299 2 657 658 659 660 661 1051 1052
def sB:=C M ey (y 40 0) L 671 662
def ju:=ak H 1057 aS 1058 aT 1059
def rU:=B U dn (y 40 1)
def i9:=E U 1054 dn 1055 1056 302 3 664 665 666 667 668 1060 1061
def q4:=C U dn (y 40 1) L 671 669
def kA:=N H 1066
def rD:=B T dI (y 40 2)
def kj:=E T 1063 dI 1064 1065 305 1 671 672 673 674 675 1067 1068
def qU:=C T dI (y 40 2) L 671 676
def k6:=N bK 1070
def i0:=cE P 1041 1045 297 1044 M 1053 663 1062 670 1069 677 1071 678 1072
def ja:=Obj.mk ah none (Data.cls (ClassData.mk bw [r 421] [r 680,r 421,V] 679 bw true [] [] false none false)) (G [Z 650,none,some (A bw 1034),some (A bw 1042),some ap,some ab])
def sz:=al 680
def q8:=am 680
def ry:=cI P 1082 1084 bG 1083 1086 307 1085 M 1094 696 1103 703 1110 710 1112 711
def sF:=cF 309 695 312 702 317 709
def rt:=aj bG 1077 1078 1079 307 686 687 1080 1081
def sl:=ai 688 685 L 671
def mN:=ad H 1090 bK 1091
def rF:=B M dE (y 41 0)
def jA:=E M 1087 dE 1088 1089 309 2 690 691 692 693 694 1092 1093
def rY:=C M dE (y 41 0) L 671 695
def lV:=ak H 1098 aS 1099 aT 1100
def qX:=B U ee (y 41 1)
def i1:=E U 1095 ee 1096 1097 312 3 697 698 699 700 701 1101 1102
def rQ:=C U ee (y 41 1) L 671 702
def l2:=N H 1107
def r9:=B T d6 (y 41 2)
def jT:=E T 1104 d6 1105 1106 317 1 704 705 706 707 708 1108 1109
def sI:=C T d6 (y 41 2) L 671 709
def jz:=N bK 1111
def iR:=cE P 1082 1086 307 1085 M 1094 696 1103 703 1110 710 1112 711 1113
def jh:=Obj.mk ah none (Data.cls (ClassData.mk bG [r 421] [r 713,r 421,V] 712 bG true [] [] false none false)) (G [Z 683,none,some (A bG 1075),some (A bG 1083),some ap,some ab])
def so:=al 713
def q0:=am 713
def se:=B bx bx (R 42)
def lK:=av bx 1116 bx 1117 1118 319 1 716 717 718 1119 1120
def sJ:=C bx bx (R 42) L 671 719
def na:=ak eh 1125 pD 1126 cO 1127
def sm:=B aD aD (R 43)
def me:=E aD 1122 aD 1123 1124 325 2 721 722 723 724 725 1128 1129
def rX:=C aD aD (R 43) L 671 726
def kJ:=ad eh 1134 oD 1135
def q9:=B bz bz (R 44)
def kw:=E bz 1131 bz 1132 1133 335 2 728 729 730 731 732 1136 1137
def sK:=C bz bz (R 44) L 671 733
def jP:=ak bL 1142 dG 1143 dg 1144
def rs:=B bv bv (R 45)
def mg:=E bv 1139 bv 1140 1141 349 3 735 736 737 738 739 1145 1146
def r3:=C bv bv (R 45) L 671 740
def sn:=Obj.mk Y none (Data.dict (G [t P af 1157 (A aq 1148),t P aG 1159 (A bt 1158),t P ae 1161 (u 354 1160),t P M 1172 (r 755),t P b2 1181 (r 762),t P cv 1193 (r 769),t P cy 1206 (r 776),t P co 1216 (r 783),t P ce 1226 (r 790),t P cc 1232 (r 795),t P ct 1242 (r 802),t P cm 1254 (r 809),t P cw 1265 (r 816),t P b3 1274 (r 823),t P cr 1282 (r 830),t P cz 1292 (r 837),t P aJ 1299 (r 844),t P aK 1306 (r 851),t P b0 1312 (r 856),t P ag 1320 (r 857)]) 20) I
def q1:=Obj.mk K none (Data.fields (G [u 356 0,u 4 0,r 754,u 367 0,u 4 0,r 761,u 372 0,u 4 0,r 768,u 383 0,u 4 0,r 775,u 392 0,u 4 0,r 782,u 396 0,u 4 0,r 789,u 399 0,u 4 0,r 794,u 408 0,u 4 0,r 801,u 415 0,u 4 0,r 808,u 418 0,u 4 0,r 815,u 421 0,u 4 0,r 822,u 424 0,u 4 0,r 829,u 427 0,u 4 0,r 836,u 430 0,u 4 0,r 843,u 433 0,u 4 0,r 850,u 436 0,u 4 0,r 855])) I
def rZ:=aj bt 1152 1153 1154 354 745 746 1155 1156
def sH:=ai 747 744 aq 1148
def kH:=bJ H 1165 cN 1166 hZ 1167 dM 1168 aN 1169
def ss:=B M ed (y 47 0)
def nc:=E M 1162 ed 1163 1164 356 4 749 750 751 752 753 1170 1171
def sy:=C M ed (y 47 0) aq 1148 754
def mD:=ak H 1176 aN 1177 br 1178
def r4:=B b2 dt (y 47 1)
def ka:=E b2 1173 dt 1174 1175 367 2 756 757 758 759 760 1179 1180
def rq:=C b2 dt (y 47 1) aq 1148 761
def j0:=Obj.mk ay none (Data.seq (G [A H 1185,A bm 1186,A ar 1187,A b8 1188,A aS 1189,A cj 1190]) 0) I
def rS:=B cv dC (y 47 2)
def mx:=E cv 1182 dC 1183 1184 372 6 763 764 765 766 767 1191 1192
def rP:=C cv dC (y 47 2) aq 1148 768
def k3:=bJ H 1197 bm 1198 ar 1199 qt 1200 bq 1201
def mC:=ad H 1202 ar 1203
def rr:=B cy df (y 47 3)
def m9:=E cy 1194 df 1195 1196 383 4 770 771 772 773 774 1204 1205
def q7:=C cy df (y 47 3) aq 1148 775
def m7:=aI H 1210 ar 1211 cu 1212 oA 1213
def sC:=B co el (y 47 4)
def kV:=E co 1207 el 1208 1209 392 3 777 778 779 780 781 1214 1215
def ra:=C co el (y 47 4) aq 1148 782
def iC:=aI H 1220 bm 1221 ar 1222 b8 1223
def rz:=B ce ei (y 47 5)
def kF:=E ce 1217 ei 1218 1219 396 4 784 785 786 787 788 1224 1225
def sx:=C ce ei (y 47 5) aq 1148 789
def rA:=B cc dV (y 47 6)
def ma:=av cc 1227 dV 1228 1229 399 4 791 792 793 1230 1231
def r8:=C cc dV (y 47 6) aq 1148 794
def mF:=aI H 1236 bm 1237 ar 1238 pE 1239
def su:=B ct dj (y 47 7)
def mo:=E ct 1233 dj 1234 1235 408 3 796 797 798 799 800 1240 1241
def sw:=C ct dj (y 47 7) aq 1148 801
def kN:=Obj.mk ay none (Data.seq (G [A H 1246,A bm 1247,A ar 1248,A b8 1249,A aS 1250,A cj 1251]) 0) I
def rb:=B cm ej (y 47 8)
def lF:=E cm 1243 ej 1244 1245 415 6 803 804 805 806 807 1252 1253
def ro:=C cm ej (y 47 8) aq 1148 808
def mS:=bJ H 1258 bm 1259 ar 1260 b8 1261 cj 1262
def rL:=B cw em (y 47 9)
def jD:=E cw 1255 em 1256 1257 418 5 810 811 812 813 814 1263 1264
def ru:=C cw em (y 47 9) aq 1148 815
def mn:=ak H 1269 ar 1270 o7 1271
def r2:=B b3 dc (y 47 10)
def mQ:=E b3 1266 dc 1267 1268 421 3 817 818 819 820 821 1272 1273
def rf:=C b3 dc (y 47 10) aq 1148 822
def mX:=ad H 1278 bm 1279
def sv:=B cr ds (y 47 11)
def jc:=E cr 1275 ds 1276 1277 424 2 824 825 826 827 828 1280 1281
def rW:=C cr ds (y 47 11) aq 1148 829
def m2:=aI H 1286 bm 1287 ar 1288 pt 1289
def sj:=B cz d7 (y 47 12)
def j8:=E cz 1283 d7 1284 1285 427 4 831 832 833 834 835 1290 1291
def rC:=C cz d7 (y 47 12) aq 1148 836
def i6:=N H 1296
def sh:=B aJ dW (y 47 13)
def jI:=E aJ 1293 dW 1294 1295 430 1 838 839 840 841 842 1297 1298
def ri:=C aJ dW (y 47 13) aq 1148 843
def l8:=N H 1303
def r6:=B aK d3 (y 47 14)
def lU:=E aK 1300 d3 1301 1302 433 1 845 846 847 848 849 1304 1305
def sA:=C aK d3 (y 47 14) aq 1148 850
def sr:=B b0 db (y 47 15)
def k8:=av b0 1307 db 1308 1309 436 2 852 853 854 1310 1311
def r5:=C b0 db (y 47 15) aq 1148 855
def jK:=Obj.mk ay none (Data.seq (G [A pQ 1313,A qp 1314,A hZ 1315,A o8 1316,A dM 1317,A ow 1318,A cN 1319]) 0) I
def i2:=Obj.mk Y none (Data.dict (G [t P af 1157 (A aq 1148),t P ae 1161 (u 354 1160),t P M 1172 (r 755),t P b2 1181 (r 762),t P cv 1193 (r 769),t P cy 1206 (r 776),t P co 1216 (r 783),t P ce 1226 (r 790),t P cc 1232 (r 795),t P ct 1242 (r 802),t P cm 1254 (r 809),t P cw 1265 (r 816),t P b3 1274 (r 823),t P cr 1282 (r 830),t P cz 1292 (r 837),t P aJ 1299 (r 844),t P aK 1306 (r 851),t P b0 1312 (r 856),t P ag 1320 (r 857),t P ba 1322 (r 860),t P aQ 1324 (r 861),t P au 1325 K]) 4) I
def iP:=Obj.mk ah none (Data.cls (ClassData.mk bt [V] [r 859,V] 858 bt true [] [] false none false)) (G [none,none,some (A bt 1150),some (A bt 1158),some ap,some ab])
def iL:=bo 1321 859
def iX:=a5 1323 859
def rn:=al 859
def rM:=am 859
def r7:=cD P 1337 bn 1328 1339 bu 1338 1341 439 1340 1349 877 aN 1357 884 ca 1368 891 cl 1375 898 b1 1381 903 1386 904
def re:=cA 441 876 447 883 452 890 455 897 458 902
def rk:=aj bu 1332 1333 1334 439 867 868 1335 1336
def q2:=ai 869 866 bn 1328
def mH:=ad H 1345 cN 1346
def qT:=B M dS (y 49 0)
def lC:=E M 1342 dS 1343 1344 441 2 871 872 873 874 875 1347 1348
def rO:=C M dS (y 49 0) bn 1328 876
def jL:=ad H 1353 aN 1354
def rN:=B aN d4 (y 49 1)
def kO:=E aN 1350 d4 1351 1352 447 2 878 879 880 881 882 1355 1356
def rp:=C aN d4 (y 49 1) bn 1328 883
def ku:=bJ H 1361 qk 1362 eh 1363 ar 1364 pY 1365
def sd:=B ca ef (y 49 2)
def mM:=E ca 1358 ef 1359 1360 452 5 885 886 887 888 889 1366 1367
def rv:=C ca ef (y 49 2) bn 1328 890
def lX:=N H 1372
def rE:=B cl d5 (y 49 3)
def jS:=E cl 1369 d5 1370 1371 455 1 892 893 894 895 896 1373 1374
def sg:=C cl d5 (y 49 3) bn 1328 897
def si:=B b1 d0 (y 49 4)
def j1:=av b1 1376 d0 1377 1378 458 1 899 900 901 1379 1380
def q6:=C b1 d0 (y 49 4) bn 1328 902
def lu:=aI pc 1382 oP 1383 oB 1384 cN 1385
def kS:=Obj.mk Y none (Data.dict (G [t P af 1337 (A bn 1328),t P ae 1341 (u 439 1340),t P M 1349 (r 877),t P aN 1357 (r 884),t P ca 1368 (r 891),t P cl 1375 (r 898),t P b1 1381 (r 903),t P ag 1386 (r 904),t P ba 1388 (r 907),t P aQ 1390 (r 908),t P au 1391 K]) 4) I
def lT:=Obj.mk ah none (Data.cls (ClassData.mk bu [V] [r 906,V] 905 bu true [] [] false none false)) (G [none,none,some (A bu 1330),some (A bu 1338),some ap,some ab])
def ks:=bo 1387 906
def la:=a5 1389 906
def sp:=al 906
def qY:=am 906
def rl:=Obj.mk Y none (Data.dict (G [t P af 1403 (A ax 1394),t P aG 1405 (A bF 1404),t P ae 1407 (u 462 1406),t P M 1415 (r 924),t P cx 1425 (r 931),t P cg 1433 (r 938),t P b7 1441 (r 945),t P b5 1448 (r 952),t P b4 1456 (r 959),t P cs 1463 (r 966),t P cp 1469 (r 971),t P ch 1476 (r 978),t P cq 1483 (r 985),t P b9 1492 (r 992),t P cd 1500 (r 999),t P ag 1508 (r 1000)]) 16) I
def q3:=Obj.mk K none (Data.fields (G [u 464 0,u 4 0,r 923,u 473 0,u 4 0,r 930,u 490 0,u 4 0,r 937,u 497 0,u 4 0,r 944,u 500 0,u 4 0,r 951,u 503 0,u 4 0,r 958,u 506 0,u 4 0,r 965,u 509 0,u 4 0,r 970,u 512 0,u 4 0,r 977,u 515 0,u 4 0,r 984,u 518 0,u 4 0,r 991,u 521 0,u 4 0,r 998])) I
def r0:=aj bF 1398 1399 1400 462 914 915 1401 1402
def rG:=ai 916 913 ax 1394
def k7:=ad H 1411 h3 1412
def rR:=B M eA (y 51 0)
def mr:=E M 1408 eA 1409 1410 464 2 918 919 920 921 922 1413 1414
def qV:=C M eA (y 51 0) ax 1394 923
def iH:=aI H 1419 aN 1420 hO 1421 ar 1422
def sq:=B cx dQ (y 51 1)
def lI:=E cx 1416 dQ 1417 1418 473 2 925 926 927 928 929 1423 1424
def rK:=C cx dQ (y 51 1) ax 1394 930
def lc:=ad H 1429 aN 1430
def rB:=B cg ex (y 51 2)
def jy:=E cg 1426 ex 1427 1428 490 2 932 933 934 935 936 1431 1432
def rI:=C cg ex (y 51 2) ax 1394 937
def lb:=ad H 1437 cu 1438
def sk:=B b7 dZ (y 51 3)
def my:=E b7 1434 dZ 1435 1436 497 2 939 940 941 942 943 1439 1440
def rj:=C b7 dZ (y 51 3) ax 1394 944
def j7:=N H 1445
def sD:=B b5 de (y 51 4)
def lO:=E b5 1442 de 1443 1444 500 1 946 947 948 949 950 1446 1447
def sG:=C b5 de (y 51 4) ax 1394 951
def ll:=ad H 1452 ar 1453
def rg:=B b4 dv (y 51 5)
def jV:=E b4 1449 dv 1450 1451 503 2 953 954 955 956 957 1454 1455
def rc:=C b4 dv (y 51 5) ax 1394 958
def mJ:=N H 1460
def sc:=B cs eo (y 51 6)
def iD:=E cs 1457 eo 1458 1459 506 1 960 961 962 963 964 1461 1462
def sf:=C cs eo (y 51 6) ax 1394 965
def q5:=B cp dh (y 51 7)
def l9:=av cp 1464 dh 1465 1466 509 1 967 968 969 1467 1468
def qZ:=C cp dh (y 51 7) ax 1394 970
def nh:=N H 1473
def rV:=B ch dD (y 51 8)
def kx:=E ch 1470 dD 1471 1472 512 1 972 973 974 975 976 1474 1475
def sb:=C ch dD (y 51 8) ax 1394 977
def l7:=N H 1480
def qW:=B cq dz (y 51 9)
def l5:=E cq 1477 dz 1478 1479 515 1 979 980 981 982 983 1481 1482
def rm:=C cq dz (y 51 9) ax 1394 984
def lY:=ak H 1487 ar 1488 b8 1489
def rH:=B b9 dk (y 51 10)
def j5:=E b9 1484 dk 1485 1486 518 3 986 987 988 989 990 1490 1491
def rh:=C b9 dk (y 51 10) ax 1394 991
def mh:=ad H 1496 ar 1497
def r1:=B cd dP (y 51 11)
def jk:=E cd 1493 dP 1494 1495 521 2 993 994 995 996 997 1498 1499
def sa:=C cd dP (y 51 11) ax 1394 998
def nG:=Obj.mk ay none (Data.seq (G [A p3 1501,A h3 1502,A om 1503,A pF 1504,A pW 1505,A pi 1506,A od 1507]) 0) I
def nu:=Obj.mk Y none (Data.dict (G [t P af 1403 (A ax 1394),t P ae 1407 (u 462 1406),t P M 1415 (r 924),t P cx 1425 (r 931),t P cg 1433 (r 938),t P b7 1441 (r 945),t P b5 1448 (r 952),t P b4 1456 (r 959),t P cs 1463 (r 966),t P cp 1469 (r 971),t P ch 1476 (r 978),t P cq 1483 (r 985),t P b9 1492 (r 992),t P cd 1500 (r 999),t P ag 1508 (r 1000),t P ba 1510 (r 1003),t P aQ 1512 (r 1004),t P au 1513 K]) 4) I
def nD:=Obj.mk ah none (Data.cls (ClassData.mk bF [V] [r 1002,V] 1001 bF true [] [] false none false)) (G [none,none,some (A bF 1396),some (A bF 1404),some ap,some ab])
def nq:=bo 1509 1002
def nH:=a5 1511 1002
def sO:=al 1002
def sM:=am 1002
def ns:=ad h2 1521 hV 1522
def sQ:=B bH bH (R 53)
def nz:=E bH 1518 bH 1519 1520 524 2 1007 1008 1009 1010 1011 1523 1524
def sR:=C bH bH (R 53) aR 1516 1012
def nx:=N hY 1529
def sZ:=B bA bA (R 54)
def nw:=E bA 1526 bA 1527 1528 528 1 1014 1015 1016 1017 1018 1530 1531
def sU:=C bA bA (R 54) aR 1516 1019
def nt:=bJ hY 1536 h1 1537 o4 1538 ov 1539 da 1540
def sL:=B bD bD (R 55)
def nE:=E bD 1533 bD 1534 1535 532 2 1021 1022 1023 1024 1025 1541 1542
def sX:=C bD bD (R 55) aR 1516 1026
def ny:=aI ql 1547 pB 1548 da 1549 oS 1550
def s1:=B bB bB (R 56)
def nF:=E bB 1544 bB 1545 1546 541 3 1028 1029 1030 1031 1032 1551 1552
def sY:=C bB bB (R 56) aR 1516 1033
def nC:=Obj.mk ay none (Data.seq (G [A p8 1557,A pS 1558,A oM 1559,A h2 1560,A h1 1561,A hV 1562,A da 1563]) 0) I
def sS:=B bI bI (R 57)
def nB:=E bI 1554 bI 1555 1556 548 5 1035 1036 1037 1038 1039 1564 1565
def s2:=C bI bI (R 57) aR 1516 1040
def sP:=B bE bE (R 58)
def nv:=av bE 1567 bE 1568 1569 556 6 1042 1043 1044 1570 1571
def sT:=C bE bE (R 58) aR 1516 1045
def sN:=B bs bs (R 59)
def nA:=av bs 1573 bs 1574 1575 565 6 1047 1048 1049 1576 1577
def s0:=C bs bs (R 59) aR 1516 1050
def sW:=B bC bC (R 60)
def nr:=av bC 1579 bC 1580 1581 583 1 1052 1053 1054 1582 1583
def sV:=C bC bC (R 60) aR 1516 1055
def hv:=e (boot_o_0 P) (e (boot_o_1 P) (e (h0 P) (e (boot_o_7 P) (e h (e it (e z (e mt (e lm (e gD (g nt) .nil) (g rS)) (e lq (g z) (g h))) (e (np P) (e kb (g e3) (g h)) (e fd (g rQ) (g rc)))) (e aU (e jn (e h (e mj (g nr) .nil) (g h)) (e h (g h) (g iH))) (e z (e h (g mU) (g rM)) (e i8 (g h) (g j5))))) (e iv (e h (e h (e gT (e e1 (g sS) .nil) (g ra)) (e z (g sE) (g h))) (e kz (e z (g h) (g l8)) (e jp (g lK) (g h)))) (e fG (e iK (e mB (g (g9 P)) (g jD)) (e kB (g sF) (g sk))) (e h (e i7 (g kW) (g z)) (e h (g kH) (g h)))))) (e eH (e eJ (e eF (e gw (e h (e O (g h) .nil) (g m9)) (e h (g fS) (g q6))) (e h (e h (g kp) (g z)) (e h (g jz) (g h)))) (e z (e (mW P) (e z (g h) (g rb)) (e fI (g (i0 P)) (g h))) (e jF (e kr (g gv) (g h)) (e (m5 P) (g O) (g sa))))) (e h (e ij (e kl (e kU (e h (g h) .nil) (g h)) (e gi (g sB) (g z))) (e h (e he (g (g8 P)) (g k8)) (e e6 (g rX) (g qW)))) (e jr (e jf (e iV (g k1) (g rf)) (e nk (g jA) (g lO))) (e z (e kv (g h) (g ku)) (e jl (g h) (g z))))))) (e h (e ix (e z (e eG (e mZ (e h (e e7 (g sX) .nil) (g z)) (e h (g fD) (g h))) (e kh (e h (g f4) (g sj)) (e lv (g h) (g h)))) (e ir (e jE (e iB (g z) (g h)) (e h (g rD) (g rK))) (e h (e h (g z) (g h)) (e kE (g rs) (g mh))))) (e h (e h (e h (e fY (e ml (g z) .nil) (g h)) (e fc (g jx) (g q3))) (e h (e gM (g kR) (g sA)) (e z (g na) (g h)))) (e O (e (mK P) (e O (g aE) (g mn)) (e gI (g z) (g z))) (e lL (e O (g h) (g kO)) (e h (g sy) (g sQ)))))) (e h (e eN (e ip (e kq (e ni (e mT (g h) .nil) (g m7)) (e iE (g O) (g ks))) (e fy (e m4 (g h) (g jI)) (e h (g q0) (g qZ)))) (e fb (e jM (e h (g kK) (g z)) (e O (g aO) (g h))) (e h (e (hf P) (g fs) (g qT)) (e nm (g rZ) (g nq))))) (e ig (e (eT P) (e (jW P) (e fe (e h (g s0) .nil) (g r8)) (e lG (g h) (g mr))) (e lh (e ki (g aE) (g iP)) (e fr (g h) (g z)))) (e f2 (e j4 (e hh (g z) (g h)) (e h (g lV) (g ll))) (e h (e fW (g lj) (g rv)) (e z (g h) (g nw)))))))) (e (boot_o_5 P) (e (boot_o_9 P) (e e0 (e iw (e h (e (g2 P) (e z (e h (g sL) .nil) (g rP)) (e z (g h) (g jS))) (e l6 (e z (g h) (g m2)) (e ga (g z) (g z)))) (e (h5 P) (e (fU P) (e gA (g kP) (g mo)) (e fR (g kA) (g sq))) (e g4 (e hb (g md) (g O)) (e (fV P) (g jP) (g h))))) (e z (e ik (e iG (e h (e kC (g s2) .nil) (g z)) (e h (g h) (g (rl P)))) (e O (e h (g fN) (g r6)) (e nd (g h) (g kx)))) (e jG (e aF (e kY (g iF) (g h)) (e h (g sl) (g rj))) (e fT (e (hl P) (g z) (g h)) (e hi (g ss) (g ns)))))) (e eD (e h (e eK (e nl (e kD (e h (g nF) .nil) (g h)) (e e9 (g l3) (g (kS P)))) (e gq (e g6 (g z) (g h)) (e iY (g jh) (g q5)))) (e h (e z (e gL (g g3) (g ro)) (e lg (g sz) (g jy))) (e z (e j3 (g h) (g mH)) (e lr (g h) (g (nu P)))))) (e eU (e ia (e aF (e (fP P) (e fw (g sN) .nil) (g rA)) (e jZ (g z) (g h))) (e fL (e lf (g k5) (g jK)) (e h (g z) (g rm)))) (e h (e (fH P) (e h (g jv) (g z)) (e z (g h) (g h))) (e gf (e h (g ha) (g sd)) (e mv (g ka) (g h))))))) (e cR (e ic (e h (e eQ (e h (e f8 (e j9 (g z) .nil) (g mC)) (e gX (g gN) (g si))) (e z (e gK (g nn) (g rC)) (e O (g jT) (g iD)))) (e lN (e aF (e iT (g fl) (g kN)) (e mm (g qU) (g z))) (e iS (e fg (g h) (g rk)) (e aE (g r3) (g r1))))) (e eV (e eX (e gd (e kt (e z (g nv) .nil) (g kF)) (e h (g st) (g rG))) (e lA (e h (g lD) (g z)) (e h (g sm) (g l7)))) (e h (e z (e h (g (mA P)) (g r2)) (e lE (g h) (g h))) (e jo (e h (g fm) (g h)) (e gj (g z) (g sR)))))) (e (io P) (e ii (e O (e O (e z (e h (g nC) .nil) (g sC)) (e j2 (g h) (g sp))) (e fa (e mp (g gx) (g h)) (e gp (g z) (g z)))) (e h (e (fh P) (e gF (g mf) (g h)) (e h (g (ry P)) (g lb))) (e fM (e fA (g k2) (g rO)) (e z (g h) (g sO))))) (e id (e h8 (e z (e lQ (e fn (g z) .nil) (g z)) (e z (g i9) (g h))) (e km (e z (g (mb P)) (g iX)) (e jq (g kw) (g h)))) (e lZ (e aF (e jH (g h) (g jc)) (e gP (g qX) (g rg))) (e jO (e mz (g lB) (g z)) (e h (g j0) (g h))))))))) (e (boot_o_2 P) (e (boot_o_4 P) (e (boot_o_8 P) (e z (e iu (e eC (e h (e h (e mE (g h) .nil) (g mx)) (e h (g fQ) (g rE))) (e h (e h (g nb) (g z)) (e (fX P) (g h) (g h)))) (e O (e h (e z (e fv (g sV) .nil) (g su)) (e kT (g z) (g h))) (e ko (e no (g mu) (g h)) (e h (g z) (g rh))))) (e h (e h6 (e z (e nf (e h (g nB) .nil) (g h)) (e fi (g rx) (g O))) (e h (e gY (g z) (g h)) (e g1 (g sJ) (g rV)))) (e lw (e k4 (e gC (g fu) (g ru)) (e lk (g rt) (g my))) (e z (e mI (g h) (g jL)) (e iI (g h) (g z)))))) (e eY (e iq (e eZ (e h (e z (e (l4 P) (g s1) .nil) (g q7)) (e z (g ld) (g lu))) (e mP (e z (g h) (g i6)) (e ji (g (iR P)) (g z)))) (e hk (e h (e ln (g z) (g lF)) (e jg (g ja) (g rB))) (e h (e f7 (g kk) (g z)) (e h (g (sn P)) (g nG))))) (e z (e eM (e iZ (e gW (e lM (g z) .nil) (g z)) (e h (g h) (g k7))) (e z (e h (g g0) (g r5)) (e lJ (g h) (g l5)))) (e ly (e h (e lP (g m6) (g h)) (e h (g rY) (g sG))) (e m8 (e ky (g z) (g h)) (e gG (g r4) (g nx))))))) (e qO (e eB (e eP (e iy (e kG (e iA (e ms (g h) .nil) (g k3)) (e i5 (g kn) (g z))) (e h (e iU (g h) (g j8)) (e aE (g r9) (g sc)))) (e iW (e lS (e fJ (g jR) (g z)) (e (gE P) (g kj) (g h))) (e z (e z (g e4) (g re)) (e lR (g mg) (g h))))) (e h4 (e z (e (gB P) (e h (e h (g sP) .nil) (g rz)) (e jX (g h) (g r0))) (e lp (e jw (g f0) (g h)) (e f6 (g h) (g z)))) (e (js P) (e h (e (mO P) (g O) (g h)) (e h (g mN) (g j7))) (e fE (e (m0 P) (g kM) (g rp)) (e z (g h) (g nz)))))) (e O (e h (e aU (e g7 (e h (e jU (g z) .nil) (g h)) (e fK (g (rJ P)) (g la))) (e (fo P) (e fq (g jN) (g ri)) (e z (g h) (g h)))) (e jd (e h (e z (g fO) (g mS)) (e (m1 P) (g O) (g z))) (e nj (e f5 (g h) (g lC)) (e h (g sH) (g nH))))) (e eO (e eR (e h (e gJ (e z (g h) .nil) (g h)) (e h (g rU) (g qV))) (e gz (e h (g O) (g iL)) (e h (g q9) (g lY)))) (e h (e mc (e h (g gO) (g sv)) (e kf (g h) (g h))) (e z (e h (g gy) (g h)) (e gn (g z) (g sU)))))))) (e (boot_o_6 P) (e (boot_o_10 P) (e h (e h (e im (e gl (e fk (e (hj P) (g nE) .nil) (g h)) (e gb (g jm) (g sg))) (e je (e ff (g z) (g h)) (e ls (g l2) (g mJ)))) (e h (e go (e h (g h) (g sw)) (e jQ (g h) (g lI))) (e mG (e lx (g h) (g (r7 P))) (e fF (g h) (g z))))) (e eL (e il (e kd (e z (e hc (g h) .nil) (g iC)) (e k9 (g z) (g h))) (e (i3 P) (e iN (g h) (g lU)) (e h (g z) (g sb)))) (e aU (e O (e h (g jY) (g z)) (e z (g h) (g h))) (e h (e h (g fC) (g rN)) (e lH (g nc) (g h)))))) (e eS (e z (e ih (e hm (e gg (e iz (g sY) .nil) (g z)) (e h (g aO) (g lT))) (e kQ (e h (g gH) (g sh)) (e iJ (g so) (g l9)))) (e kg (e iQ (e j6 (g h) (g h)) (e aO (g q8) (g rI))) (e gh (e fB (g z) (g h)) (e jb (g q1) (g nD))))) (e h (e h (e O (e fz (e jC (g nA) .nil) (g ma)) (e gk (g ju) (g rR))) (e h (e f3 (g k0) (g (i2 P))) (e z (g kJ) (g h)))) (e z (e gR (e z (g h) (g mX)) (e f1 (g z) (g z))) (e mi (e z (g h) (g mM)) (e h (g rq) (g sZ))))))) (e cZ (e (eI P) (e ib (e (eW P) (e z (e mV (e aO (g ny) .nil) (g rr)) (e jt (g (hd P)) (g j1))) (e e2 (e ng (g fp) (g h)) (e (jB P) (g sI) (g sf)))) (e h (e O (e h (g mY) (g h)) (e e5 (g k6) (g lc))) (e gU (e h (g jJ) (g q2)) (e O (g h) (g jk))))) (e ie (e h (e ft (e gm (e gr (g sT) .nil) (g sx)) (e z (g l1) (g h))) (e kI (e z (g h) (g sr)) (e i4 (g me) (g h)))) (e iO (e mL (e kc (g h) (g mQ)) (e f9 (g rF) (g sD))) (e h (e mq (g l0) (g z)) (e h (g mD) (g h)))))) (e h (e eE (e (h7 P) (e (kX P) (e m3 (e z (g h) .nil) (g kV)) (e h (g qS) (g qY))) (e kZ (e h (g lW) (g z)) (e h (g se) (g nh)))) (e (fj P) (e gs (e h (g hg) (g rL)) (e mR (g h) (g h))) (e lz (e gc (g gu) (g h)) (e gZ (g z) (g sM))))) (e h (e h9 (e jj (e li (e h (g sW) .nil) (g mF)) (e g5 (g q4) (g z))) (e h (e e8 (g h) (g rn)) (e fx (g sK) (g rH)))) (e gV (e O (e gQ (g iM) (g rW)) (e mw (g i1) (g jV))) (e gS (e fZ (g h) (g lX)) (e kL (g h) (g z)))))))))
def oe:=hv P
def hu:=hv P
end
noncomputable def hs(w:World)(os:OsState):SharedT:=SharedT.mk (nV w.params) 15 (@Life.mk [] [] [] 0 [] [] false I [] 0 false false false 0 [2000,10,10] false 0 true [] [] 0 false) I (@Drawn.mk 0 0 0 0) 187 os
noncomputable def cB(w:World)(os:OsState):SharedT:=SharedT.mk (nQ w.params) 15 (@Life.mk [] [] [] 0 [] [] false I [] 0 false false false 0 [2000,10,10] false 0 true [] [] 0 false) I (@Drawn.mk 0 0 0 0) 187 os
noncomputable def cn(w:World)(os:OsState):SharedT:=SharedT.mk (qf w.params) 650 (@Life.mk [] [] [] 0 [] [] false I [] 0 false false false 0 [2000,10,10] false 0 true [] [] 0 false) I (@Drawn.mk 0 0 0 0) 1034 os
noncomputable def dT(w:World)(os:OsState):SharedT:=SharedT.mk (oe w.params) 1057 (@Life.mk [] [] [] 0 [] [] false I [] 0 false false false 0 [2000,10,10] false 0 true [] [] 0 false) I (@Drawn.mk 0 0 0 0) 1585 os
noncomputable def s4(w:World)(os:OsState):SharedT:=SharedT.mk (hu w.params) 1057 (@Life.mk [] [] [] 0 [] [] false I [] 0 false false false 0 [2000,10,10] false 0 true [] [] 0 false) I (@Drawn.mk 0 0 0 0) 1585 os
noncomputable abbrev aB:Env:={scope:=aa.main.scope,locals:=mainNs,globals:=mainNs,cells:=[],code:=(r 13),frame:=some 14}
noncomputable abbrev aP:Env:={scope:=aW.main.scope,locals:=mainNs,globals:=mainNs,cells:=[],code:=(r 13),frame:=some 14}
theorem nL:behindTheImports aa=((aa.main.body.drop 0).take 40++((aa.main.body.drop 40).take 21++[])):=by kernel_rfl
theorem qK(w:World)(b:OsState):topGo treeTable aa w 11 (Z 6) 12 ⟨boot_heap w.params,Array.mk [],boot_drawn,boot_toks,b⟩ (topStub aa)=some ((hs w b).abs,⟨denote treeTable (Code.body (behindTheImports aa) aB),Code.body (behindTheImports aa) aB,(@Pos.mk 0 0 0 0),[topFrame (@Pos.mk 0 0 0 0)]⟩):=by
 rw [PySem.W.Fast.te15667345088766844465,PySem.W.Fast.te14364793385576792824,PySem.W.Fast.te11892475500146522536,bM]
 kernel_rfl
theorem qD(w:World)(b:OsState):segRun treeTable aa w 11 (Z 6) 1 1 (hs w b).abs (blockOf (behindTheImports aa) aB (Code.body (behindTheImports aa) aB) (@Pos.mk 0 0 0 0) [topFrame (@Pos.mk 0 0 0 0)])=some (Flow.next,(cB w b).abs,Code.body (behindTheImports aa) aB,(@Pos.mk 0 0 0 0)):=by
 refine segRun_of ?_
 rw [PySem.W.Fast.te10110043849684766642,PySem.W.Fast.te14364793385576792824,bM]
 kernel_rfl
theorem nR(p:Program)(b:List Stmt):∀w:World,(λos=>PySem.W.Fast.tw10110043849684766642 PySem.W.Fast.tw14364793385576792824 p w 11 (Z 6) 1 5964 (cB w os) (piecesOf ((aW.main.body.drop 0).take 40) aP (Code.body b aP) (@Pos.mk 0 0 0 0) [topFrame (@Pos.mk 0 0 0 0)]))=(λos=>some (Flow.next,cn w os,Code.body b aP,(@Pos.mk 280 0 296 17))):=byRow2 "special-get-raises" (P:=λw=>(λos=>PySem.W.Fast.tw10110043849684766642 PySem.W.Fast.tw14364793385576792824 p w 11 (Z 6) 1 5964 (cB w os) (piecesOf ((aW.main.body.drop 0).take 40) aP (Code.body b aP) (@Pos.mk 0 0 0 0) [topFrame (@Pos.mk 0 0 0 0)]))=(λos=>some (Flow.next,cn w os,Code.body b aP,(@Pos.mk 280 0 296 17)))) (λw=>by kernel_rfl) (λw=>by kernel_rfl)
theorem nN(b:List Stmt)(w:World)(d:OsState):segRun treeTable aa w 11 (Z 6) 1 5964 (cB w d).abs (piecesOf ((aa.main.body.drop 0).take 40) aB (Code.body b aB) (@Pos.mk 0 0 0 0) [topFrame (@Pos.mk 0 0 0 0)])=some (Flow.next,(cn w d).abs,Code.body b aB,(@Pos.mk 280 0 296 17)):=by
 refine segRun_of ?_
 rw [PySem.W.Fast.te10110043849684766642,PySem.W.Fast.te14364793385576792824,bM]
 exact congrFun (nR aW b w) d
theorem nT(p:Program)(b:List Stmt):∀w:World,(λos=>PySem.W.Fast.tw10110043849684766642 PySem.W.Fast.tw14364793385576792824 p w 11 (Z 6) 1 2663 (cn w os) (piecesOf ((aW.main.body.drop 40).take 21) aP (Code.body b aP) (@Pos.mk 280 0 296 17) [topFrame (@Pos.mk 0 0 0 0)]))=(λos=>some (Flow.next,dT w os,Code.body b aP,(@Pos.mk 583 0 611 65))):=λw=>by kernel_rfl
theorem nW(b:List Stmt)(w:World)(d:OsState):segRun treeTable aa w 11 (Z 6) 1 2663 (cn w d).abs (piecesOf ((aa.main.body.drop 40).take 21) aB (Code.body b aB) (@Pos.mk 280 0 296 17) [topFrame (@Pos.mk 0 0 0 0)])=some (Flow.next,(dT w d).abs,Code.body b aB,(@Pos.mk 583 0 611 65)):=by
 refine segRun_of ?_
 rw [PySem.W.Fast.te10110043849684766642,PySem.W.Fast.te14364793385576792824,bM]
 exact congrFun (nT aW b w) d
noncomputable abbrev aX:Params->Heap:=λP=>absHeap (hu P) 1057 (@Life.mk [] [] [] 0 [] [] false I [] 0 false false false 0 [2000,10,10] false 0 true [] [] 0 false)
theorem qR(b:List Stmt)(w:World)(d:OsState):topRun treeTable aa w 11 (Z 6) 2 (dT w d).abs ⟨doneF .next,Code.body b aB,(@Pos.mk 583 0 611 65),[topFrame (@Pos.mk 0 0 0 0)]⟩=some ⟨aX w.params,Array.mk [],(@Drawn.mk 0 0 0 0),1585,d⟩:=by
 rw [PySem.W.Fast.te14082659384304107361,PySem.W.Fast.te14364793385576792824,bM]
 kernel_rfl
theorem qE(w:World)(b:OsState):topRun treeTable aa w 11 (Z 6) (12+(1+(5964+(2663+2)))) ⟨boot_heap w.params,Array.mk [],boot_drawn,boot_toks,b⟩ (topStub aa)=some ⟨aX w.params,Array.mk [],(@Drawn.mk 0 0 0 0),1585,b⟩:=by
 refine go_top (qK w b) (piece_block (qD w b) ?k)
 rw [nL]
 exact piece_app (nN _ w b) (piece_app (nW _ w b) (piece_nil (qR _ w b)))
abbrev D(a b:String)(s:Stmt)(m:String)(n v:Nat):Params->Obj:=λP=>(Obj.mk (@Value.type "function") none (Data.func (cP (@Str.ofString a) (@Str.ofString b) s 3 [] K K K (@Value.str (@Str.ofString m) n) none (r v) K 0)) I)
abbrev nZ:=D "_wall" "_wall" (J 0) "__main__" 164 20
abbrev n3:=D "__init__" "Lock.__init__" (F 4 0) "pactroom.kinds" 194 39
abbrev n9:=D "kind" "Lock.kind" (F 4 1) "pactroom.kinds" 194 46
abbrev n6:=D "beside" "Lock.beside" (F 4 2) "pactroom.kinds" 194 53
abbrev n5:=D "covers" "Lock.covers" (F 4 3) "pactroom.kinds" 194 60
abbrev nY:=D "told" "Lock.told" (F 4 4) "pactroom.kinds" 194 67
abbrev n0:=D "kind" "Read.kind" (F 5 0) "pactroom.kinds" 194 88
abbrev pe:=D "kind" "Mean.kind" (F 6 0) "pactroom.kinds" 194 107
abbrev oZ:=D "kind" "Change.kind" (F 7 0) "pactroom.kinds" 194 126
abbrev pf:=D "lock_of" "lock_of" (J 8) "pactroom.kinds" 194 138
abbrev og:=D "__init__" "NoText.__init__" (F 14 0) "pactroom.errors" 352 201
abbrev p2:=D "__init__" "Locks.__init__" (F 16 0) "pactroom.locks" 445 220
abbrev oK:=D "ask" "Locks.ask" (F 16 1) "pactroom.locks" 445 225
abbrev pI:=D "free" "Locks.free" (F 16 2) "pactroom.locks" 445 230
abbrev p5:=D "stands" "Locks.stands" (F 16 3) "pactroom.locks" 445 237
abbrev o0:=D "behind" "Locks.behind" (F 16 4) "pactroom.locks" 445 244
abbrev oc:=D "held" "Locks.held" (F 16 5) "pactroom.locks" 445 249
abbrev qg:=D "waiting" "Locks.waiting" (F 16 6) "pactroom.locks" 445 254
abbrev pp:=D "hinderer" "Locks.hinderer" (F 16 7) "pactroom.locks" 445 261
abbrev pn:=D "held_pairs" "Locks.held_pairs" (F 16 8) "pactroom.locks" 445 266
abbrev pZ:=D "waiting_pairs" "Locks.waiting_pairs" (F 16 9) "pactroom.locks" 445 271
abbrev oR:=D "waiting_place" "Locks.waiting_place" (F 16 10) "pactroom.locks" 445 278
abbrev oo:=D "is_whole" "is_whole" (J 26) "pactroom.things" 549 292
abbrev p0:=D "read_thing" "read_thing" (J 27) "pactroom.things" 549 297
abbrev oL:=D "is_sign" "is_sign" (J 28) "pactroom.things" 549 304
abbrev qu:=D "__init__" "Reader.__init__" (F 29 0) "pactroom.things" 549 318
abbrev p1:=D "passes" "Reader.passes" (F 29 1) "pactroom.things" 549 325
abbrev oi:=D "read_any" "Reader.read_any" (F 29 2) "pactroom.things" 549 332
abbrev o1:=D "read_parts" "Reader.read_parts" (F 29 3) "pactroom.things" 549 339
abbrev ou:=D "read_below" "Reader.read_below" (F 29 4) "pactroom.things" 549 346
abbrev o5:=D "read_number" "Reader.read_number" (F 29 5) "pactroom.things" 549 353
abbrev qi:=D "read_signs" "Reader.read_signs" (F 29 6) "pactroom.things" 549 360
abbrev pk:=D "house" "Step.house" (F 33 0) "pactroom.steps" 671 382
abbrev oQ:=D "lock" "Step.lock" (F 33 1) "pactroom.steps" 671 389
abbrev ox:=D "step_done" "Step.step_done" (F 33 2) "pactroom.steps" 671 396
abbrev qc:=D "back" "Step.back" (F 33 3) "pactroom.steps" 671 403
abbrev po:=D "sure" "Step.sure" (F 33 4) "pactroom.steps" 671 410
abbrev o2:=D "spelled" "Step.spelled" (F 33 5) "pactroom.steps" 671 417
abbrev pL:=D "__init__" "CellStep.__init__" (F 34 0) "pactroom.steps" 671 438
abbrev oF:=D "house" "CellStep.house" (F 34 1) "pactroom.steps" 671 445
abbrev oX:=D "lock" "TakeStep.lock" (F 35 0) "pactroom.steps" 671 464
abbrev pb:=D "step_done" "TakeStep.step_done" (F 35 1) "pactroom.steps" 671 471
abbrev pj:=D "spelled" "TakeStep.spelled" (F 35 2) "pactroom.steps" 671 478
abbrev oU:=D "lock" "MeanStep.lock" (F 36 0) "pactroom.steps" 671 497
abbrev qj:=D "step_done" "MeanStep.step_done" (F 36 1) "pactroom.steps" 671 504
abbrev qq:=D "spelled" "MeanStep.spelled" (F 36 2) "pactroom.steps" 671 511
abbrev qx:=D "__init__" "SumStep.__init__" (F 37 0) "pactroom.steps" 671 530
abbrev qo:=D "house" "SumStep.house" (F 37 1) "pactroom.steps" 671 537
abbrev ps:=D "lock" "SumStep.lock" (F 37 2) "pactroom.steps" 671 544
abbrev qa:=D "step_done" "SumStep.step_done" (F 37 3) "pactroom.steps" 671 549
abbrev p6:=D "spelled" "SumStep.spelled" (F 37 4) "pactroom.steps" 671 556
abbrev pT:=D "lock" "GiveStep.lock" (F 38 0) "pactroom.steps" 671 575
abbrev ol:=D "step_done" "GiveStep.step_done" (F 38 1) "pactroom.steps" 671 582
abbrev qw:=D "sure" "GiveStep.sure" (F 38 2) "pactroom.steps" 671 589
abbrev oO:=D "spelled" "GiveStep.spelled" (F 38 3) "pactroom.steps" 671 596
abbrev o6:=D "__init__" "AddStep.__init__" (F 39 0) "pactroom.steps" 671 615
abbrev oV:=D "lock" "AddStep.lock" (F 39 1) "pactroom.steps" 671 622
abbrev ob:=D "step_done" "AddStep.step_done" (F 39 2) "pactroom.steps" 671 629
abbrev qn:=D "back" "AddStep.back" (F 39 3) "pactroom.steps" 671 636
abbrev qh:=D "spelled" "AddStep.spelled" (F 39 4) "pactroom.steps" 671 643
abbrev oE:=D "__init__" "PlusStep.__init__" (F 40 0) "pactroom.steps" 671 662
abbrev pP:=D "step_done" "PlusStep.step_done" (F 40 1) "pactroom.steps" 671 669
abbrev qr:=D "spelled" "PlusStep.spelled" (F 40 2) "pactroom.steps" 671 676
abbrev oY:=D "__init__" "NeedStep.__init__" (F 41 0) "pactroom.steps" 671 695
abbrev pu:=D "step_done" "NeedStep.step_done" (F 41 1) "pactroom.steps" 671 702
abbrev pH:=D "spelled" "NeedStep.spelled" (F 41 2) "pactroom.steps" 671 709
abbrev pa:=D "read_step" "read_step" (J 42) "pactroom.steps" 671 719
abbrev p7:=D "read_number" "read_number" (J 43) "pactroom.steps" 671 726
abbrev op:=D "made_step" "made_step" (J 44) "pactroom.steps" 671 733
abbrev qA:=D "made_sum" "made_sum" (J 45) "pactroom.steps" 671 740
abbrev pM:=D "__init__" "Works.__init__" (F 47 0) "pactroom.works" 1148 754
abbrev oW:=D "take_up" "Works.take_up" (F 47 1) "pactroom.works" 1148 761
abbrev oN:=D "work" "Works.work" (F 47 2) "pactroom.works" 1148 768
abbrev pl:=D "do_step" "Works.do_step" (F 47 3) "pactroom.works" 1148 775
abbrev pN:=D "value_at" "Works.value_at" (F 47 4) "pactroom.works" 1148 782
abbrev o9:=D "send_did" "Works.send_did" (F 47 5) "pactroom.works" 1148 789
abbrev oG:=D "ready" "Works.ready" (F 47 6) "pactroom.works" 1148 794
abbrev oh:=D "ended" "Works.ended" (F 47 7) "pactroom.works" 1148 801
abbrev pw:=D "walk" "Works.walk" (F 47 8) "pactroom.works" 1148 808
abbrev pR:=D "undo" "Works.undo" (F 47 9) "pactroom.works" 1148 815
abbrev p4:=D "lock_stands" "Works.lock_stands" (F 47 10) "pactroom.works" 1148 822
abbrev qs:=D "turn" "Works.turn" (F 47 11) "pactroom.works" 1148 829
abbrev oH:=D "chase" "Works.chase" (F 47 12) "pactroom.works" 1148 836
abbrev o3:=D "held" "Works.held" (F 47 13) "pactroom.works" 1148 843
abbrev oq:=D "waiting" "Works.waiting" (F 47 14) "pactroom.works" 1148 850
abbrev oI:=D "is_bound" "Works.is_bound" (F 47 15) "pactroom.works" 1148 855
abbrev ot:=D "__init__" "Sheet.__init__" (F 49 0) "pactroom.sheets" 1328 876
abbrev qb:=D "row" "Sheet.row" (F 49 1) "pactroom.sheets" 1328 883
abbrev pU:=D "send" "Sheet.send" (F 49 2) "pactroom.sheets" 1328 890
abbrev oj:=D "rows_told" "Sheet.rows_told" (F 49 3) "pactroom.sheets" 1328 897
abbrev oT:=D "letters_told" "Sheet.letters_told" (F 49 4) "pactroom.sheets" 1328 902
abbrev qz:=D "__init__" "Stand.__init__" (F 51 0) "pactroom.stands" 1394 923
abbrev qm:=D "keep" "Stand.keep" (F 51 1) "pactroom.stands" 1394 930
abbrev ph:=D "changes_of" "Stand.changes_of" (F 51 2) "pactroom.stands" 1394 937
abbrev pr:=D "cell_at" "Stand.cell_at" (F 51 3) "pactroom.stands" 1394 944
abbrev qe:=D "cells_told" "Stand.cells_told" (F 51 4) "pactroom.stands" 1394 951
abbrev qy:=D "outcome" "Stand.outcome" (F 51 5) "pactroom.stands" 1394 958
abbrev pX:=D "news" "Stand.news" (F 51 6) "pactroom.stands" 1394 965
abbrev oJ:=D "bound" "Stand.bound" (F 51 7) "pactroom.stands" 1394 970
abbrev pz:=D "lost" "Stand.lost" (F 51 8) "pactroom.stands" 1394 977
abbrev px:=D "begun" "Stand.begun" (F 51 9) "pactroom.stands" 1394 984
abbrev pC:=D "walked_at" "Stand.walked_at" (F 51 10) "pactroom.stands" 1394 991
abbrev pv:=D "is_over" "Stand.is_over" (F 51 11) "pactroom.stands" 1394 998
abbrev qI:=D "_law_cell_at" "_law_cell_at" (J 53) "law_pactroom_k55_who_waited_goes_on" 1516 1012
abbrev qL:=D "_law_number" "_law_number" (J 54) "law_pactroom_k55_who_waited_goes_on" 1516 1019
abbrev qG:=D "_law_step" "_law_step" (J 55) "law_pactroom_k55_who_waited_goes_on" 1516 1026
abbrev qC:=D "_law_hand" "_law_hand" (J 56) "law_pactroom_k55_who_waited_goes_on" 1516 1033
abbrev qQ:=D "_law_first" "_law_first" (J 57) "law_pactroom_k55_who_waited_goes_on" 1516 1040
abbrev qH:=D "_law_asked" "_law_asked" (J 58) "law_pactroom_k55_who_waited_goes_on" 1516 1045
abbrev qJ:=D "_law_ended" "_law_ended" (J 59) "law_pactroom_k55_who_waited_goes_on" 1516 1050
abbrev qM:=D "law" "law" (J 60) "law_pactroom_k55_who_waited_goes_on" 1516 1055
noncomputable def Kf:Params->Frag:=λP=>(nat_lit 2,boot_o_2 P)::(nat_lit 3,h0 P)::(nat_lit 15,h)::(nat_lit 17,e0)::(nat_lit 18,h)::(nat_lit 20,eB)::(nat_lit 21,nZ P)::(nat_lit 22,eI P)::(nat_lit 23,eH)::(nat_lit 24,eY)::(nat_lit 25,eD)::(nat_lit 26,eS)::(nat_lit 34,h)::(nat_lit 36,eP)::(nat_lit 37,h)::(nat_lit 39,eJ)::(nat_lit 40,n3 P)::(nat_lit 41,h)::(nat_lit 43,eN)::(nat_lit 44,h)::(nat_lit 46,eE)::(nat_lit 47,n9 P)::(nat_lit 48,h)::(nat_lit 50,eL)::(nat_lit 51,h)::(nat_lit 53,eV)::(nat_lit 54,n6 P)::(nat_lit 55,h)::(nat_lit 57,eU)::(nat_lit 58,h)::(nat_lit 60,eO)::(nat_lit 61,n5 P)::(nat_lit 62,h)::(nat_lit 64,eC)::(nat_lit 65,h)::(nat_lit 67,eG)::(nat_lit 68,nY P)::(nat_lit 69,eQ)::(nat_lit 70,eW P)::(nat_lit 71,eF)::(nat_lit 72,eZ)::(nat_lit 73,eK)::(nat_lit 76,aU)::(nat_lit 83,h)::(nat_lit 85,eX)::(nat_lit 86,h)::(nat_lit 88,eM)::(nat_lit 89,n0 P)::(nat_lit 90,h)::(nat_lit 91,eT P)::(nat_lit 92,eR)::(nat_lit 95,aU)::(nat_lit 102,h)::(nat_lit 104,hk)::(nat_lit 105,h)::(nat_lit 107,fb)::(nat_lit 108,pe P)::(nat_lit 109,h)::(nat_lit 110,fj P)::(nat_lit 111,fG)::(nat_lit 114,aU)::(nat_lit 121,h)::(nat_lit 123,f2)::(nat_lit 124,h)::(nat_lit 126,gV)::(nat_lit 127,oZ P)::(nat_lit 128,h)::(nat_lit 129,g2 P)::(nat_lit 130,gl)::(nat_lit 133,h)::(nat_lit 135,gw)::(nat_lit 136,h)::(nat_lit 138,hm)::(nat_lit 139,pf P)::(nat_lit 140,g7)::(nat_lit 147,h)::(nat_lit 148,gB P)::(nat_lit 149,gd)::(nat_lit 150,ft)::(nat_lit 153,aF)::(nat_lit 160,h)::(nat_lit 161,fU P)::(nat_lit 162,go)::(nat_lit 165,aF)::(nat_lit 172,h)::(nat_lit 173,fh P)::(nat_lit 174,gs)::(nat_lit 177,aF)::(nat_lit 184,h)::(nat_lit 185,fH P)::(nat_lit 186,gR)::(nat_lit 189,aF)::(nat_lit 196,h)::(nat_lit 198,e2)::(nat_lit 199,h)::(nat_lit 201,gq)::(nat_lit 202,og P)::(nat_lit 203,fy)::(nat_lit 204,fo P)::(nat_lit 205,fa)::(nat_lit 215,h)::(nat_lit 217,fL)::(nat_lit 218,h)::(nat_lit 220,gz)::(nat_lit 221,p2 P)::(nat_lit 222,h)::(nat_lit 225,g4)::(nat_lit 226,oK P)::(nat_lit 227,h)::(nat_lit 230,gU)::(nat_lit 231,pI P)::(nat_lit 232,h)::(nat_lit 234,gh)::(nat_lit 235,h)::(nat_lit 237,fM)::(nat_lit 238,p5 P)::(nat_lit 239,h)::(nat_lit 241,fT)::(nat_lit 242,h)::(nat_lit 244,fE)::(nat_lit 245,o0 P)::(nat_lit 246,h)::(nat_lit 249,gf)::(nat_lit 250,oc P)::(nat_lit 251,h)::(nat_lit 254,gS)::(nat_lit 255,qg P)::(nat_lit 256,h)::(nat_lit 258,fk)::(nat_lit 259,h)::(nat_lit 261,f8)::(nat_lit 262,pp P)::(nat_lit 263,h)::(nat_lit 266,gg)::(nat_lit 267,pn P)::(nat_lit 268,h)::(nat_lit 271,gT)::(nat_lit 272,pZ P)::(nat_lit 273,h)::(nat_lit 275,fY)::(nat_lit 276,h)::(nat_lit 278,gm)::(nat_lit 279,oR P)::(nat_lit 280,gW)::(nat_lit 281,fP P)::(nat_lit 282,fz)::(nat_lit 283,fe)::(nat_lit 284,gJ)::(nat_lit 287,h)::(nat_lit 289,gA)::(nat_lit 290,h)::(nat_lit 292,fJ)::(nat_lit 293,oo P)::(nat_lit 294,h)::(nat_lit 297,gL)::(nat_lit 298,p0 P)::(nat_lit 299,h)::(nat_lit 301,gF)::(nat_lit 302,h)::(nat_lit 304,gC)::(nat_lit 305,oL P)::(nat_lit 313,h)::(nat_lit 315,hh)::(nat_lit 316,h)::(nat_lit 318,gQ)::(nat_lit 319,qu P)::(nat_lit 320,h)::(nat_lit 322,ff)::(nat_lit 323,h)::(nat_lit 325,gK)::(nat_lit 326,p1 P)::(nat_lit 327,h)::(nat_lit 329,g6)::(nat_lit 330,h)::(nat_lit 332,fq)::(nat_lit 333,oi P)::(nat_lit 334,h)::(nat_lit 336,gY)::(nat_lit 337,h)::(nat_lit 339,gM)::(nat_lit 340,o1 P)::(nat_lit 341,h)::(nat_lit 343,he)::(nat_lit 344,h)::(nat_lit 346,f3)::(nat_lit 347,ou P)::(nat_lit 348,h)::(nat_lit 350,e8)::(nat_lit 351,h)::(nat_lit 353,hb)::(nat_lit 354,o5 P)::(nat_lit 355,h)::(nat_lit 357,fg)::(nat_lit 358,h)::(nat_lit 360,f7)::(nat_lit 361,qi P)::(nat_lit 362,fB)::(nat_lit 363,hf P)::(nat_lit 364,f5)::(nat_lit 365,fA)::(nat_lit 366,gc)::(nat_lit 369,hl P)::(nat_lit 377,h)::(nat_lit 379,fW)::(nat_lit 380,h)::(nat_lit 382,fZ)::(nat_lit 383,pk P)::(nat_lit 384,h)::(nat_lit 386,gb)::(nat_lit 387,h)::(nat_lit 389,gX)::(nat_lit 390,oQ P)::(nat_lit 391,h)::(nat_lit 393,e9)::(nat_lit 394,h)::(nat_lit 396,fK)::(nat_lit 397,ox P)::(nat_lit 398,h)::(nat_lit 400,fi)::(nat_lit 401,h)::(nat_lit 403,fc)::(nat_lit 404,qc P)::(nat_lit 405,h)::(nat_lit 407,gi)::(nat_lit 408,h)::(nat_lit 410,gk)::(nat_lit 411,po P)::(nat_lit 412,h)::(nat_lit 414,g5)::(nat_lit 415,h)::(nat_lit 417,fR)::(nat_lit 418,o2 P)::(nat_lit 419,h)::(nat_lit 420,gE P)::(nat_lit 421,mm)::(nat_lit 422,e5)::(nat_lit 423,fI)::(nat_lit 426,aO)::(nat_lit 433,h)::(nat_lit 435,gI)::(nat_lit 436,h)::(nat_lit 438,f9)::(nat_lit 439,pL P)::(nat_lit 440,h)::(nat_lit 442,f1)::(nat_lit 443,h)::(nat_lit 445,gP)::(nat_lit 446,oF P)::(nat_lit 447,fd)::(nat_lit 448,fX P)::(nat_lit 449,ga)::(nat_lit 452,aE)::(nat_lit 459,h)::(nat_lit 461,gp)::(nat_lit 462,h)::(nat_lit 464,g1)::(nat_lit 465,oX P)::(nat_lit 466,h)::(nat_lit 468,f6)::(nat_lit 469,h)::(nat_lit 471,e6)::(nat_lit 472,pb P)::(nat_lit 473,h)::(nat_lit 475,fr)::(nat_lit 476,h)::(nat_lit 478,fx)::(nat_lit 479,pj P)::(nat_lit 480,h)::(nat_lit 481,fV P)::(nat_lit 482,fF)::(nat_lit 485,aE)::(nat_lit 492,h)::(nat_lit 494,gZ)::(nat_lit 495,h)::(nat_lit 497,hi)::(nat_lit 498,oU P)::(nat_lit 499,h)::(nat_lit 501,gj)::(nat_lit 502,h)::(nat_lit 504,gG)::(nat_lit 505,qj P)::(nat_lit 506,h)::(nat_lit 508,gn)::(nat_lit 509,h)::(nat_lit 511,gD)::(nat_lit 512,qq P)::(nat_lit 513,h)::(nat_lit 514,hj P)::(nat_lit 515,e7)::(nat_lit 518,aO)::(nat_lit 525,h)::(nat_lit 527,e1)::(nat_lit 528,h)::(nat_lit 530,hc)::(nat_lit 531,qx P)::(nat_lit 532,h)::(nat_lit 534,gr)::(nat_lit 535,h)::(nat_lit 537,fw)::(nat_lit 538,qo P)::(nat_lit 539,h)::(nat_lit 541,fn)::(nat_lit 542,h)::(nat_lit 544,fv)::(nat_lit 545,ps P)::(nat_lit 546,h)::(nat_lit 549,fl)::(nat_lit 550,qa P)::(nat_lit 551,h)::(nat_lit 553,g3)::(nat_lit 554,h)::(nat_lit 556,fO)::(nat_lit 557,p6 P)::(nat_lit 558,hg)::(nat_lit 559,g9 P)::(nat_lit 560,fu)::(nat_lit 563,aE)::(nat_lit 570,h)::(nat_lit 572,gO)::(nat_lit 573,h)::(nat_lit 575,e3)::(nat_lit 576,pT P)::(nat_lit 577,h)::(nat_lit 579,f4)::(nat_lit 580,h)::(nat_lit 582,fp)::(nat_lit 583,ol P)::(nat_lit 584,h)::(nat_lit 586,gH)::(nat_lit 587,h)::(nat_lit 589,gx)::(nat_lit 590,qw P)::(nat_lit 591,h)::(nat_lit 593,fN)::(nat_lit 594,h)::(nat_lit 596,f0)::(nat_lit 597,oO P)::(nat_lit 598,h)::(nat_lit 599,g8 P)::(nat_lit 600,g0)::(nat_lit 603,aE)::(nat_lit 610,h)::(nat_lit 612,e4)::(nat_lit 613,h)::(nat_lit 615,gv)::(nat_lit 616,o6 P)::(nat_lit 617,h)::(nat_lit 619,fs)::(nat_lit 620,h)::(nat_lit 622,gu)::(nat_lit 623,oV P)::(nat_lit 624,h)::(nat_lit 626,fC)::(nat_lit 627,h)::(nat_lit 629,fm)::(nat_lit 630,ob P)::(nat_lit 631,h)::(nat_lit 633,ha)::(nat_lit 634,h)::(nat_lit 636,gy)::(nat_lit 637,qn P)::(nat_lit 638,h)::(nat_lit 640,fQ)::(nat_lit 641,h)::(nat_lit 643,fD)::(nat_lit 644,qh P)::(nat_lit 645,gN)::(nat_lit 646,hd P)::(nat_lit 647,fS)::(nat_lit 650,aO)::(nat_lit 657,h)::(nat_lit 659,jx)::(nat_lit 660,h)::(nat_lit 662,l1)::(nat_lit 663,oE P)::(nat_lit 664,h)::(nat_lit 666,ju)::(nat_lit 667,h)::(nat_lit 669,i9)::(nat_lit 670,pP P)::(nat_lit 671,h)::(nat_lit 673,kA)::(nat_lit 674,h)::(nat_lit 676,kj)::(nat_lit 677,qr P)::(nat_lit 678,k6)::(nat_lit 679,i0 P)::(nat_lit 680,ja)::(nat_lit 683,aO)::(nat_lit 690,h)::(nat_lit 692,mN)::(nat_lit 693,h)::(nat_lit 695,jA)::(nat_lit 696,oY P)::(nat_lit 697,h)::(nat_lit 699,lV)::(nat_lit 700,h)::(nat_lit 702,i1)::(nat_lit 703,pu P)::(nat_lit 704,h)::(nat_lit 706,l2)::(nat_lit 707,h)::(nat_lit 709,jT)::(nat_lit 710,pH P)::(nat_lit 711,jz)::(nat_lit 712,iR P)::(nat_lit 713,jh)::(nat_lit 716,h)::(nat_lit 719,lK)::(nat_lit 720,pa P)::(nat_lit 721,h)::(nat_lit 723,na)::(nat_lit 724,h)::(nat_lit 726,me)::(nat_lit 727,p7 P)::(nat_lit 728,h)::(nat_lit 730,kJ)::(nat_lit 731,h)::(nat_lit 733,kw)::(nat_lit 734,op P)::(nat_lit 735,h)::(nat_lit 737,jP)::(nat_lit 738,h)::(nat_lit 740,mg)::(nat_lit 741,qA P)::(nat_lit 749,h)::(nat_lit 751,kH)::(nat_lit 752,h)::(nat_lit 754,nc)::(nat_lit 755,pM P)::(nat_lit 756,h)::(nat_lit 758,mD)::(nat_lit 759,h)::(nat_lit 761,ka)::(nat_lit 762,oW P)::(nat_lit 763,h)::(nat_lit 765,j0)::(nat_lit 766,h)::(nat_lit 768,mx)::(nat_lit 769,oN P)::(nat_lit 770,h)::(nat_lit 772,k3)::(nat_lit 773,mC)::(nat_lit 775,m9)::(nat_lit 776,pl P)::(nat_lit 777,h)::(nat_lit 779,m7)::(nat_lit 780,h)::(nat_lit 782,kV)::(nat_lit 783,pN P)::(nat_lit 784,h)::(nat_lit 786,iC)::(nat_lit 787,h)::(nat_lit 789,kF)::(nat_lit 790,o9 P)::(nat_lit 791,h)::(nat_lit 794,ma)::(nat_lit 795,oG P)::(nat_lit 796,h)::(nat_lit 798,mF)::(nat_lit 799,h)::(nat_lit 801,mo)::(nat_lit 802,oh P)::(nat_lit 803,h)::(nat_lit 805,kN)::(nat_lit 806,h)::(nat_lit 808,lF)::(nat_lit 809,pw P)::(nat_lit 810,h)::(nat_lit 812,mS)::(nat_lit 813,h)::(nat_lit 815,jD)::(nat_lit 816,pR P)::(nat_lit 817,h)::(nat_lit 819,mn)::(nat_lit 820,h)::(nat_lit 822,mQ)::(nat_lit 823,p4 P)::(nat_lit 824,h)::(nat_lit 826,mX)::(nat_lit 827,h)::(nat_lit 829,jc)::(nat_lit 830,qs P)::(nat_lit 831,h)::(nat_lit 833,m2)::(nat_lit 834,h)::(nat_lit 836,j8)::(nat_lit 837,oH P)::(nat_lit 838,h)::(nat_lit 840,i6)::(nat_lit 841,h)::(nat_lit 843,jI)::(nat_lit 844,o3 P)::(nat_lit 845,h)::(nat_lit 847,l8)::(nat_lit 848,h)::(nat_lit 850,lU)::(nat_lit 851,oq P)::(nat_lit 852,h)::(nat_lit 855,k8)::(nat_lit 856,oI P)::(nat_lit 857,jK)::(nat_lit 858,i2 P)::(nat_lit 859,iP)::(nat_lit 860,iL)::(nat_lit 861,iX)::(nat_lit 871,h)::(nat_lit 873,mH)::(nat_lit 874,h)::(nat_lit 876,lC)::(nat_lit 877,ot P)::(nat_lit 878,h)::(nat_lit 880,jL)::(nat_lit 881,h)::(nat_lit 883,kO)::(nat_lit 884,qb P)::(nat_lit 885,h)::(nat_lit 887,ku)::(nat_lit 888,h)::(nat_lit 890,mM)::(nat_lit 891,pU P)::(nat_lit 892,h)::(nat_lit 894,lX)::(nat_lit 895,h)::(nat_lit 897,jS)::(nat_lit 898,oj P)::(nat_lit 899,h)::(nat_lit 902,j1)::(nat_lit 903,oT P)::(nat_lit 904,lu)::(nat_lit 905,kS P)::(nat_lit 906,lT)::(nat_lit 907,ks)::(nat_lit 908,la)::(nat_lit 918,h)::(nat_lit 920,k7)::(nat_lit 921,h)::(nat_lit 923,mr)::(nat_lit 924,qz P)::(nat_lit 925,h)::(nat_lit 927,iH)::(nat_lit 928,h)::(nat_lit 930,lI)::(nat_lit 931,qm P)::(nat_lit 932,h)::(nat_lit 934,lc)::(nat_lit 935,h)::(nat_lit 937,jy)::(nat_lit 938,ph P)::(nat_lit 939,h)::(nat_lit 941,lb)::(nat_lit 942,h)::(nat_lit 944,my)::(nat_lit 945,pr P)::(nat_lit 946,h)::(nat_lit 948,j7)::(nat_lit 949,h)::(nat_lit 951,lO)::(nat_lit 952,qe P)::(nat_lit 953,h)::(nat_lit 955,ll)::(nat_lit 956,h)::(nat_lit 958,jV)::(nat_lit 959,qy P)::(nat_lit 960,h)::(nat_lit 962,mJ)::(nat_lit 963,h)::(nat_lit 965,iD)::(nat_lit 966,pX P)::(nat_lit 967,h)::(nat_lit 970,l9)::(nat_lit 971,oJ P)::(nat_lit 972,h)::(nat_lit 974,nh)::(nat_lit 975,h)::(nat_lit 977,kx)::(nat_lit 978,pz P)::(nat_lit 979,h)::(nat_lit 981,l7)::(nat_lit 982,h)::(nat_lit 984,l5)::(nat_lit 985,px P)::(nat_lit 986,h)::(nat_lit 988,lY)::(nat_lit 989,h)::(nat_lit 991,j5)::(nat_lit 992,pC P)::(nat_lit 993,h)::(nat_lit 995,mh)::(nat_lit 996,h)::(nat_lit 998,jk)::(nat_lit 999,pv P)::(nat_lit 1000,nG)::(nat_lit 1001,nu P)::(nat_lit 1002,nD)::(nat_lit 1003,nq)::(nat_lit 1004,nH)::(nat_lit 1007,h)::(nat_lit 1009,ns)::(nat_lit 1010,h)::(nat_lit 1012,nz)::(nat_lit 1013,qI P)::(nat_lit 1014,h)::(nat_lit 1016,nx)::(nat_lit 1017,h)::(nat_lit 1019,nw)::(nat_lit 1020,qL P)::(nat_lit 1021,h)::(nat_lit 1023,nt)::(nat_lit 1024,h)::(nat_lit 1026,nE)::(nat_lit 1027,qG P)::(nat_lit 1028,h)::(nat_lit 1030,ny)::(nat_lit 1031,h)::(nat_lit 1033,nF)::(nat_lit 1034,qC P)::(nat_lit 1035,h)::(nat_lit 1037,nC)::(nat_lit 1038,h)::(nat_lit 1040,nB)::(nat_lit 1041,qQ P)::(nat_lit 1042,h)::(nat_lit 1045,nv)::(nat_lit 1046,qH P)::(nat_lit 1047,h)::(nat_lit 1050,nA)::(nat_lit 1051,qJ P)::(nat_lit 1052,h)::(nat_lit 1055,nr)::(nat_lit 1056,qM P)::[]
noncomputable def nJ:Nat->Nat->Nat->List Addr:=fun k=>Nat.rec (fun _ _=>[]) (fun _ f n a=>bif n.beq 0 then [] else (a+n%16)::f (n/16) (a+n%16)) k
noncomputable def Ka:List Addr:=nJ 9999 0x131131131121211212112121121211212311111121211212112121121211311212112121121211212112121121211212a111111311212112121121211212a111111311212112121121211212112121121211212112121131121211212112121121211212112128121211212112121133111121211212112127311112121121211212731111212112121121211212112127311112121121211212112127311112121131121211212112127311112121121211212731111212112121121273111121211212731111112121121211212112121121211212831111112121121211212112121121211212112128121211311212311111121211311311212113113112121121211311311212a1111212731173117311731117112123111121273111121273111121273111111212112121121211212112128111111212c12 0
theorem ke(P:Params):Ka=(Kf P).map (·.1):=by kernel_rfl
noncomputable abbrev cC:Hook:=kmHook Kf Ka ke [771,1053]
noncomputable abbrev nI:RowW:=PySem.Challenge.rw_pactroom_k55_who_waited_goes_on.row.toRowW
noncomputable abbrev lo:List Str:=[Str.ofString "RANKS",Str.ofString "SHAPES"]
noncomputable abbrev lvv:List (Str×WData):=[]
noncomputable def qv:Program:={aa with main:={aa.main with body:=[J 0,J 2,J 3,J 4,J 5,J 6,J 7,J 8,J 10,J 11,J 12,J 13,J 14,J 16,J 18,J 19,J 20,J 21,J 22,J 23,J 24,J 25,J 26,J 27,J 28,J 29,J 31,J 32,J 33,J 34,J 35,J 36,J 37,J 38,J 39,J 40,J 41,J 42,J 43,J 44,J 45,J 47,J 49,J 51,J 53,J 54,J 55,J 56,J 57,J 58,J 59,J 60]}}
noncomputable abbrev Xt:Shared->Bool:=λs=>xlAt qv lvv s&&recOk (RowW.records nI) s
theorem rT(w:World):((boot_heap w.params).isNs mainGlobals&&(G []:Array GenState).size==0,(boot_heap w.params).objs.size,(boot_heap w.params).nsMap mainGlobals "__annotations__")=(true,11,(Z 6)):=by kernel_rfl
theorem qB(w:World)(os:OsState):(staticsOk (importedModules aa.main.body) (boot_heap w.params) (aX w.params)&&namesBound aa (aX w.params)&&gensDone ⟨aX w.params,Array.mk [],(@Drawn.mk 0 0 0 0),1585,os⟩&&laidKept (boot_heap w.params) (aX w.params))=true:=by kernel_rfl
theorem qF(w:World)(os:OsState):openSeen qv lo (importedModules aa.main.body) Xt true ⟨aX w.params,Array.mk [],(@Drawn.mk 0 0 0 0),1585,os⟩=openGood qv lo:=by kernel_rfl
theorem qN(w:World)(os:OsState):Hook.obs cC ⟨aX w.params,Array.mk [],(@Drawn.mk 0 0 0 0),1585,os⟩=Hook.val cC w:=by kernel_rfl
theorem left:LeftO aa qv lo Xt (Hook.obs cC) (Hook.val cC) 17376:=LeftO.of_pieces (boot_open (by kernel_rfl) (by kernel_rfl) (λs=>by kernel_rfl)) rT qE (by decide) λw=>funext λos=>looks_pair (qB w os) (looks_pair (qF w os) (qN w os))
end
end Q
end
namespace L2
open PySem PySem.Spec PyProof.Rows
section
variable {X:Cx}
def lC:du X (.builtin "isinstance") (λxs H Q=>∃x t n b,xs=[x,.ty n]/\TyOf X.K H x t/\PySem.W.kitOne X.K t (.type n)=some b/\Q (.bl b) H):=by
 intro d s σ H xs l Q I r h
 obtain ⟨x,t,n,b,rfl,ty,e,q⟩:=h
 obtain ⟨u,f,rfl,g,i⟩:=uK r
 cases (show f=Value.type n from i)
 exact wA I g ty e λj=>⟨.bl b,H,I.tok _,ϱ,q⟩
def oo:MtR X "str.startswith" (λx vs H Q=>∃z y i,x=.str z/\vs=[.str y,.int i]/\Q (.bl (Txt.startswith3 z y i)) H):=by
 intro b s σ H x j v l Q I d r h
 obtain ⟨z,y,i,rfl,rfl,q⟩:=h
 obtain ⟨t,rfl⟩:=d
 obtain ⟨u,e,rfl,⟨f,rfl⟩,⟨g,rfl⟩⟩:=uK r
 exact SC.startswith3 ⟨.bl _,H,I,ϱ,q⟩
def pA:MtR X "str.startswith" (λx vs H Q=>∃z y,x=.str z/\vs=[.str y]/\Q (.bl (Txt.startswith z y)) H):=by
 intro b s σ H x f v g Q I d r h
 obtain ⟨z,y,rfl,rfl,q⟩:=h
 obtain ⟨t,rfl⟩:=d
 obtain ⟨u,rfl,⟨e,rfl⟩⟩:=dm r
 exact SC.startswith ⟨.bl _,H,I,ϱ,q⟩
def uj:MtR X "str.isdigit" (λx vs H Q=>∃z,x=.str z/\vs=[]/\Q (.bl (Txt.isdigit z)) H):=by
 intro b s σ H x e v f Q I d r h
 obtain ⟨z,rfl,rfl,q⟩:=h
 obtain ⟨t,rfl⟩:=d
 cases r
 exact SC.isdigit ⟨.bl _,H,I,ϱ,q⟩
def dU:du X (.type "int") (λxs H Q=>∃z n,xs=[.str z]/\PySem.intText? z=some n/\z.length<=640/\Q (.int n) H):=by
 intro b s σ H xs f Q I r h
 obtain ⟨z,n,rfl,e,d,q⟩:=h
 obtain ⟨u,rfl,⟨t,rfl⟩⟩:=dm r
 exact PySem.W.KIN.call_text e d ⟨.int n,H,I.tok _,⟨_,ϱ⟩,q⟩
def B4:SlR X (λx lo hi H Q=>∃z,x=.str z/\z.length<=sizeLine/\Q (.str (Txt.slice z lo hi)) H):=by
 intro f s σ H x v o r lo hi w Q I g d i j h
 obtain ⟨z,rfl,b,q⟩:=h
 obtain ⟨t,rfl⟩:=g
 refine ⟨"str",_,F.slot_str_getitem.lookup,typeIs_str _ _ _,?_⟩
 cases i<;>cases j
 .exact Ĝ (l:=none) (u:=none) (st:=none) d rfl (post_val_or_str ⟨Λ (Txt.slice_le z _ _) b,λe k=>⟨.str _,H,I.tok _,⟨_,ϱ⟩,q⟩⟩)
 .exact Ĝ (l:=none) (u:=some (_,_)) (st:=none) d rfl (post_val_or_str ⟨Λ (Txt.slice_le z _ _) b,λe k=>⟨.str _,H,I.tok _,⟨_,ϱ⟩,q⟩⟩)
 .exact Ĝ (l:=some (_,_)) (u:=none) (st:=none) d rfl (post_val_or_str ⟨Λ (Txt.slice_le z _ _) b,λe k=>⟨.str _,H,I.tok _,⟨_,ϱ⟩,q⟩⟩)
 .exact Ĝ (l:=some (_,_)) (u:=some (_,_)) (st:=none) d rfl (post_val_or_str ⟨Λ (Txt.slice_le z _ _) b,λe k=>⟨.str _,H,I.tok _,⟨_,ϱ⟩,q⟩⟩)
def sV(U:X.calm=true):du X (.builtin "all") (λxs H Q=>∃(p:é) (bs:à Bool),xs=[.ref p]/\SqL X.K H p (bs.map V.bl)/\Q (.bl (bs.all id)) H):=by
 intro x s σ H xs us Q I r h
 obtain ⟨p,bs,rfl,y,q⟩:=h
 obtain ⟨u,rfl,z⟩:=dm r
 cases (show u=Value.ref p from z)
 obtain ⟨b,o,C,W⟩:=I.list y
 have j:=C.isList
 have l:p<s.heap.objs.size:=by obtain ⟨_,e,_⟩:=j;exact η e
 have F:X.A.handled=none:=I.ok.hd U
 have d:bs.length=b.length:=by have:=o.length;rw [ν] at this;exact this
 refine call_all_walk (wpAny_pyIter_list j ?_)
 refine ⟨s.heap.objs.size,[s.heap.objs.size,p],[s.heap.objs.size],b.toArray.size,_,_,λi=>(bs[i]?).getD true,ϱ,Walks.list (A:=X.A.in1) F _ p (Φ l) b.toArray,
  ⟨⟨_,ψ _ rfl,ϱ,ϱ⟩,j.push _⟩,λi v G J E' L O=>?_,λh' tk P=>?_⟩
 .have f:b[i]?=some v:=by simpa using L
  have Z:i<b.length:=(ż.mp f).1
  have hb:(bs.map V.bl)[i]?=some (V.bl (bs[i]'(ω))):=by rw [Ż,ξ ω];rfl
  obtain ⟨Y,w,D⟩:=o.get hb
  rw [f] at w
  cases w
  cases (show v=Value.bool _ from D)
  have g:J ((bs[i]?).getD true) G:=O
  rw [ξ ω] at g
  exact Ŕ g
 .have e:((List.range b.toArray.size).all λi=>(bs[i]?).getD true)=bs.all id:=by
   rw [ŵ,← d];exact LSm.range_all bs
  rw [e]
  exact ⟨.bl _,H,I.kept (LSm.kept_iter P),ϱ,q⟩
end
def eG(env:Env):à (Str×NameKind)->ý->ý
 | [],cs=>cs
 | (n,k)::r,cs=>eG env r (if k==.free then match env.cells.lookup n with | some a=>(n,a)::cs | none=>cs else cs)
def lX{scope:Scope}{env:Env}(h:∀y∈scope.names,y.2=.free->∃c,env.cells.lookup y.1=some c):closureFor scope env=pure (eG env scope.names []):=by
 have d:∀(l:à (Str×NameKind)) (b:ý),(∀y∈l,y.2=.free->∃c,env.cells.lookup y.1=some c) ->
   (forIn l b (λ(x:Str×NameKind) (r:ý)=>(if (x.2==NameKind.free)=true then (do let a ← cellOf env x.1;pure (ForInStep.yield ((x.1,a)::r))) else pure (ForInStep.yield r):Sem (ForInStep (ý)))))=(pure (eG env l b):Sem _):=by
  intro l
  induction l with
  | nil=>intro b _;rfl
  | cons y r ih =>
   intro b j
   obtain ⟨n,k⟩:=y
   have i:∀z∈r,z.2=.free->∃c,env.cells.lookup z.1=some c:=λz o=>j z (Θ _ o)
   rw [List.forIn_cons]
   by_cases hk:(k==NameKind.free)=true
   .obtain ⟨c,g⟩:=j (n,k) List.mem_cons_self (by simpa using hk)
    have e:cellOf env n=pure c:=by unfold cellOf;rw [g]
    simp only [hk,if_true,e,pure_bind,eG,g]
    exact ih _ i
   .have f:(k==NameKind.free)=false:=by simpa using hk
    simp only [f,Bool.false_eq_true,if_false,pure_bind,eG]
    exact ih _ i
 have e:closureFor scope env=(forIn scope.names ([]:ý) (λ(x:Str×NameKind) (r:ý)=>(if (x.2==NameKind.free)=true then (do let a ← cellOf env x.1;pure (ForInStep.yield ((x.1,a)::r))) else pure (ForInStep.yield r):Sem (ForInStep (ý)))) >>= λb=>pure b):=by
  unfold closureFor
  rfl
 rw [e,d scope.names [] h]
 all_goals rfl
theorem kQ{env:Env}:∀(l:à (Str×NameKind)) (cs:ý),(∀p∈cs,env.cells.lookup p.1=some p.2)->∀p∈eG env l cs,env.cells.lookup p.1=some p.2
 | [],cs,h,p,hp=>h p hp
 | (n,k)::r,cs,h,p,hp=>by
  unfold eG at hp
  refine kQ r _ ?_ p hp
  split
  .split
   .rename_i a ea
    intro q hq
    rcases ϕ.mp hq with e | hq
    .rw [e];exact ea
    .exact h q hq
   .exact h
  .exact h
theorem lB{env:Env}:∀(l:à (Str×NameKind)) (cs:ý) {y:Str},(∃p∈cs,p.1=y)->∃p∈eG env l cs,p.1=y
 | [],cs,y,h=>h
 | (n,k)::r,cs,y,⟨p,hp,e⟩=>by
  unfold eG
  refine lB r _ ?_
  split
  .split
   .exact ⟨p,Θ _ hp,e⟩
   .exact ⟨p,hp,e⟩
  .exact ⟨p,hp,e⟩
theorem qg{env:Env}:∀(l:à (Str×NameKind)) (cs:ý) {y:Str} {c:é},(y,NameKind.free)∈l->env.cells.lookup y=some c->∃p∈eG env l cs,p.1=y
 | (n,k)::r,cs,y,c,hm,hc=>by
  unfold eG
  rcases ϕ.mp hm with e | hm
  .cases e
   refine lB r _ ?_
   rw [Ź (by rfl),hc]
   exact ⟨_,Ω,ϱ⟩
  .exact qg r _ hm hc
theorem jc{α:Type}:∀{l:à (Str×α)} {p:Str×α},p∈l->∃c,l.lookup p.1=some c
 | q::l,p,h=>by
  obtain ⟨n,a⟩:=q
  rw [List.lookup_cons]
  split
  .exact ⟨_,ϱ⟩
  .rename_i hne
   rcases ϕ.mp h with e | h
   .subst e;simp at hne
   .exact jc h
def jS{env:Env}{l:à (Str×NameKind)}{y:Str}{c:é}(g:(y,NameKind.free)∈l)(d:env.cells.lookup y=some c):(eG env l []).lookup y=some c:=by
 obtain ⟨p,f,e⟩:=qg l [] g d
 obtain ⟨h,b⟩:=jc f
 rw [e] at b
 have q:=kQ l [] (λ_ z=>nomatch z) _ (ů b)
 rw [d] at q
 rw [b]
 exact q.symm
def dM{env:Env}{l:à (Str×NameKind)}{y:Str}{c:é}(h:(eG env l []).lookup y=some c):env.cells.lookup y=some c :=
 kQ l [] (λ_ z=>nomatch z) _ (ů h)
theorem gx{env:Env}:∀{names:à (Str×NameKind)} {x:Str} {k:NameKind},(names.map λ(n,k)=>if (k==NameKind.free&&env.scope.kind==.function&&env.kindOf n==some .cell) then (n,NameKind.cell) else (n,k)).lookup x=some k ->
  ∃k',names.lookup x=some k'/\(k'=k\/k'=.free)
 | [],_,_,h=>by simp at h
 | (n,k0)::r,x,k,h=>by
  have ih:=@gx env r x k
  have h:List.lookup x ((if (k0==NameKind.free&&env.scope.kind==.function&&env.kindOf n==some .cell)=true then (n,NameKind.cell) else (n,k0))::_)=some k:=h
  cases hx:x==n with
  | true =>
   refine ⟨k0,by simp only [List.lookup_cons,hx],?_⟩
   by_cases hc:(k0==NameKind.free&&env.scope.kind==.function&&env.kindOf n==some .cell)=true
   .refine .inr ?_
    simp only [Bool.and_eq_true] at hc
    exact ą.mp hc.1.1
   .rw [ž hc] at h
    simp only [List.lookup_cons,hx] at h
    exact .inl (Δ h)
  | false =>
   have h2:List.lookup x (r.map λ(n,k)=>if (k==NameKind.free&&env.scope.kind==.function&&env.kindOf n==some .cell) then (n,NameKind.cell) else (n,k))=some k:=by
    by_cases hc:(k0==NameKind.free&&env.scope.kind==.function&&env.kindOf n==some .cell)=true
    .rw [if_pos hc] at h;simp only [List.lookup_cons,hx] at h;exact h
    .rw [if_neg hc] at h;simp only [List.lookup_cons,hx] at h;exact h
   obtain ⟨k',b,d⟩:=ih h2
   exact ⟨k',by simp only [List.lookup_cons,hx];exact b,d⟩
theorem gU{env:Env}:∀{names:à (Str×NameKind)} {x:Str},names.lookup x=some .free ->
  (names.map λ(n,k)=>if (k==NameKind.free&&env.scope.kind==.function&&env.kindOf n==some .cell) then (n,NameKind.cell) else (n,k)).lookup x=some .cell \/
  (names.map λ(n,k)=>if (k==NameKind.free&&env.scope.kind==.function&&env.kindOf n==some .cell) then (n,NameKind.cell) else (n,k)).lookup x=some .free
 | [],_,h=>by simp at h
 | (n,k0)::r,x,h=>by
  have ih:=@gU env r x
  show List.lookup x ((if (k0==NameKind.free&&env.scope.kind==.function&&env.kindOf n==some .cell)=true then (n,NameKind.cell) else (n,k0))::_)=some .cell\/List.lookup x ((if (k0==NameKind.free&&env.scope.kind==.function&&env.kindOf n==some .cell)=true then (n,NameKind.cell) else (n,k0))::_)=some .free
  cases hx:x==n with
  | true =>
   simp only [List.lookup_cons,hx] at h
   by_cases hc:(k0==NameKind.free&&env.scope.kind==.function&&env.kindOf n==some .cell)=true
   .rw [if_pos hc];simp only [List.lookup_cons,hx];simp
   .rw [if_neg hc];simp only [List.lookup_cons,hx];exact .inr (by rw [Option.some.inj h])
  | false =>
   simp only [List.lookup_cons,hx] at h
   by_cases hc:(k0==NameKind.free&&env.scope.kind==.function&&env.kindOf n==some .cell)=true
   .rw [if_pos hc];simp only [List.lookup_cons,hx];exact ih h
   .rw [if_neg hc];simp only [List.lookup_cons,hx];exact ih h
def Its(z:Str):It:=⟨λi _=>i<z.length,λi H x H'=>H'=H/\∃c,z.cps.toList[i]?=some c/\x=.str ⟨#[c]⟩,λi _=>z.length<=i⟩
structure StrIt(P:ê)(w:è)(it:é)(ty:String)(z:Str)(t:Tok):Prop where
 W:∀A':æ,A'.handled=none->Walks P w A' it [it] [it] z.cps.size (SignAt z) (λi h=>h.IsStrIter it ty z t i)
 en:∀(A:æ) (i:Nat) (s:ë) (Q:î->ë->Prop) (E:Ă),A.handled=none->s.heap.IsStrIter it ty z t i->z.cps[i]?=none ->
  (∀h',Heap.ExtBut it s.heap h'->Q none {s with heap:=h'})->wpAny (model P w) A (pyNext (.ref it)) Q E s
 me:∀(A:æ) (i:Nat) (s:ë) (Q:Ă) (E:Ă),s.heap.IsStrIter it ty z t i->Q (.ref it) s->wpAny (model P w) A (pyIter (.ref it)) Q E s
 ne:["enumerate","zip","dict_itemiterator","dict_reverseitemiterator","odict_iterator","itertools.zip_longest","itertools.pairwise"].contains ty=false
def StrIt.ascii{P:ê}{w:è}(it:é)(z:Str)(t:Tok):StrIt P w it "str_ascii_iterator" z t :=
 ⟨λ_ hA=>Walks.strAscii hA it z t,λ_ _ _ _ _ hA st hx hQ=>wpAny_pyNext_ascii_end hA st hx hQ,λ_ _ _ _ _ st h=>wpAny_pyIter_striter_ascii st h,ζ⟩
def StrIt.wide{P:ê}{w:è}(it:é)(z:Str)(t:Tok):StrIt P w it "str_iterator" z t :=
 ⟨λ_ hA=>Walks.strWide hA it z t,λ_ _ _ _ _ hA st hx hQ=>wpAny_pyNext_wide_end hA st hx hQ,λ_ _ _ _ _ st h=>wpAny_pyIter_striter_wide st h,ζ⟩
def xa{P:ê}{w:è}{K:ä}{tg:á}{z:Str}{t:Tok}{it:é}{Y:String}(S:StrIt P w it Y z t) :
  wO P w K tg (Its z) [it] it (λi h=>h.IsStrIter it Y z t i) where
 mem:=by simp
 obj:=λi h st b hb=>by
  have e:b=it:=by simpa using hb
  subst e
  obtain ⟨o,e,c,d⟩:=st
  exact ⟨o,e,λv q=>by rw [d] at q;cases q⟩
 keep:=λi h h' st k=>by
  obtain ⟨o,e,r⟩:=st
  exact ⟨o,k it (by simp) o e,r⟩
 item:=by
  intro X F G J L i f s σ H E I hf st O
  subst F G J
  obtain ⟨j,l,Z,x,y,C⟩:=hf it (by simp)
  refine (S.W X.A (I.ok.hd L)).item i s _ _ O st λv h' U hv g kk=>?_
  obtain ⟨c,u,D,rfl⟩:=hv
  have I1:Inv X f σ H {s with heap:=h',toks:=U}:=I.turned (λb o hb e=>kk b o (by simpa using hb) e) j l x y C
  obtain ⟨o,e,c1,d1⟩:=id g
  exact ⟨_,ϱ,sH (s:={s with heap:=h',toks:=U}) e c1 d1 S.ne ⟨.str ⟨#[c]⟩,H,I1,⟨u,ϱ⟩,⟨ϱ,c,by rw [Ľ];exact D,ϱ⟩,g,λb hb=>(hf b hb).1⟩⟩
 done:=by
  intro X F G J L i f s σ H E I hf st O
  subst F G J
  obtain ⟨j,l,Z,x,y,C⟩:=hf it (by simp)
  refine S.en X.A i s _ _ (I.ok.hd L) st ?_ λh' eb=>⟨ϱ,I.turned (t':=s.toks) (λb o hb e=>eb b o hb e) j l x y C⟩
  exact Array.getElem?_eq_none O
 self:=λA i s Q E st h=>S.me A i s Q E st h
def ER(tl:TE):TI:=fun σ H R=>tl σ H λx H1=>∃z,x=.str z/\R (Its z) H1
def Cg{X:Cx}{j l:á}{r:TE}(C:PE X l r):PI X j l (ER r):=by
 intro f s σ H R I h
 refine thn (C f s σ H _ I h) λv d ⟨x,H1,g,u,q1⟩=>?_
 obtain ⟨z,rfl,q⟩:=q1
 obtain ⟨t,rfl⟩:=u
 have fin:∀(o:Obj) (i:String),StrIt X.prog X.w d.heap.objs.size i z t->(d.heap.push o).IsStrIter d.heap.objs.size i z t 0->PIE X f σ j R (.ref d.heap.objs.size) {d with heap:=d.heap.push o}:=λo i S y=>by
  refine ⟨d.heap.objs.size,[d.heap.objs.size],_,Its z,H1,ϱ,g.kept (t':=d.toks) λb o e=>ρ _ e,xa S,y,λb hb=>?_,q⟩
  have e:b=d.heap.objs.size:=by simpa using hb
  subst e
  exact g.fpOk (ι _) (g.hok.fresh (ι _))
 cases ha:z.cps.all (·<128)
 .exact wpAny_pyIter_wide ha (fin _ _ (.wide _ z t) ⟨_,ψ _ rfl,ϱ,ϱ⟩)
 .exact wpAny_pyIter_ascii ha (fin _ _ (.ascii _ z t) ⟨_,ψ _ rfl,ϱ,ϱ⟩)
def Cx.blk(X:Cx)(N':ú)(scope:Scope)(C:é)(fp:û)(s:ë)(H:Hp):Cx :=
 {X with N:=N',s₀:=s,H₀:=H,env:=compEnvC scope (eG X.env scope.names []) C X.env,outer:=X.stack,ex:=fp,fn:=λ_=>false,pn:=[],xe:=λ_ _=>False}
structure BlkScope(N:ú)(sc scope:Scope)(x:Str)(N':ú)(fv:ø):Prop where
 nocell:∀y∈scope.names,y.2≠.cell
 kind:scope.kind=.function
 names:∀y∈scope.names,y.2=.local->scope.names.lookup y.1=some .local
 loc:scope.names.lookup x=some .local
 free:∀y∈scope.names,y.2=.free->sc.names.lookup y.1=some .cell\/sc.names.lookup y.1=some .free
 nd:N'.Nodup
 hd:N'[0]?=some x
 len:N'.length=fv.length+1
 at_:∀j,j<fv.length->(N'[j+1]?).isSome=true/\N'[j+1]?=(fv[j]?).bind (λi=>N[i]?)/\(N'[j+1]?).bind (λy=>scope.names.lookup y)=some .free
def cn(fv:ø)(σ:St):St:=fv.map λk=>(σ[k]?).join
abbrev qp(ifs:õ)(env:Env):Sem Bool:=forIn ifs true λc r=>if r=true then do let ok ← isTrue c env (eval c env);pure (ForInStep.yield ok) else pure (ForInStep.yield r)
def PTs(X:Cx)(ifs:õ)(t:TT):Prop :=
 ∀(pins:ă) (s:ë) (σ:St) (H:Hp) (Q:Bool->Hp->Prop),Inv X pins σ H s->t σ H Q->wpAny (model X.prog X.w) X.A (qp ifs X.env) (TP X pins σ Q) X.xe s
def B0:TT:=λ_ H Q=>Q true H
def cj{X:Cx}:PTs X [] B0:=λpins s σ H Q I h=>π ⟨H,I,h⟩
def iN{X:Cx}{c:á}{t:TT}(f:PT X c t):PTs X [c] t:=by
 intro d s σ H Q I h
 have e:qp [c] X.env=(isTrue c X.env (eval c X.env) >>= λok=>pure ok):=by
  unfold qp
  rw [List.forIn_cons]
  simp
 rw [e]
 exact ε (thn (f d s σ H Q I h) λb g q=>π q)
def tLC(wi:TI)(fv:ø)(tt:TT)(te:TE):TE:=fun σ H Q=>wi σ H λJ H1=>∃(W:Nat->à V->Hp->Prop) (n:Nat),W 0 [] H1/\n<=sizeLine/\∀i ys H,W i ys H ->
 (J.stop i H/\∀p,H p=none->Q (.ref p) (upd H p (.lst ys))) \/
 (J.go i H/\i<n/\∀x H',J.yld i H x H'->tt (some x::cn fv σ) H' λc H2=>if c=true then te (some x::cn fv σ) H2 λy H3=>W (i+1) (ys++[y]) H3 else W (i+1) ys H2)
def nox{α:Type}{t:Sem α}{Q Q':α->ë->Prop}{M:Model}{A:æ}{E:Ă}{s:ë}(h:wpAny M A t Q (λ_ _=>False) s)(hQ:∀a s,Q a s->Q' a s):wpAny M A t Q' E s:=ū h hQ λ_ _ f=>f.elim
structure oR(N:ú)(sc scope:Scope)(mm:Nat)(N':ú)(fv:ø):Prop where
 nocell:∀y∈scope.names,y.2≠.cell
 kind:scope.kind=.function
 names:∀y∈scope.names,y.2=.local->scope.names.lookup y.1=some .local
 free:∀y∈scope.names,y.2=.free->sc.names.lookup y.1=some .cell\/sc.names.lookup y.1=some .free
 nd:N'.Nodup
 len:N'.length=fv.length+mm
 at_:∀j,j<fv.length->(N'[j+mm]?).isSome=true/\N'[j+mm]?=(fv[j]?).bind (λi=>N[i]?)/\(N'[j+mm]?).bind (λy=>scope.names.lookup y)=some .free
def bv(mm:Nat)(fv:ø)(σ:St):St:=List.replicate mm none++cn fv σ
def Ext(σ σ':St):Prop:=σ.length=σ'.length/\∀(j:Nat) v,σ[j]?=some (some v)->σ'[j]?=some (some v)
section
variable {X:Cx}{N':ú}{scope:Scope}{mm:Nat}{fv:ø}
def zH{h:ă}{σ:St}{H:Hp}{s:ë}{W:û}{C:é}{h1:ã}{m:ā}{tk:Nat}{pl:ă}(S:oR X.N X.env.scope scope mm N' fv)(I:Inv X h σ H s)
  (hf:∀b∈W,tj X h H b)(Y:∀b∈W,b<s.heap.objs.size)(Z:s.heap.objs.size<=C)(kp:∀b o,s.heap.get? b=some o->h1.get? b=some o)(hn:h1.Ns C m)
  (a0:∀p∈pl,h1.get? p.1=some p.2/\s.heap.objs.size<=p.1/\p.1≠C/\∀v,p.2.data≠.cell v) :
  Inv (X.blk N' scope C W s H) pl (bv mm fv σ) H {s with heap:=h1,toks:=tk}:=by
 have g:∀y c,(eG X.env scope.names []).lookup y=some c->X.env.cells.lookup y=some c:=λy c e=>dM e
 have cell:∀y c,(eG X.env scope.names []).lookup y=some c->∃v,s.heap.IsCell c v:=λy c e=>I.cell y c (g y c e)
 have lt:∀y c,(eG X.env scope.names []).lookup y=some c->c<s.heap.objs.size:=λy c e=>by obtain ⟨v,q⟩:=cell y c e;exact q.lt
 have kc:∀c v,s.heap.IsCell c v->h1.IsCell c v:=λc v q=>by obtain ⟨o,e,d⟩:=q;exact ⟨o,kp _ _ e,d⟩
 refine ⟨⟨I.ok.mod,S.kind,I.ok.glob,I.ok.blt,Z,λy z c l e2=>I.ok.inj y z c (g y c l) (g z c e2),λy hy=>?_,λy c e=>?_,I.ok.hd,I.ok.frames,.inl rfl,λb hb=>⟨?_,λy c e z=>(hf b hb).2.2.2.2.1 y c (g y c e) z⟩,λb o e=>I.bs b o e,Λ I.ok.bsz I.sz,λb o e hb=>?_,λb hb P=>?_,I.stack,I.stkFree⟩,
  rfl,I.bare,Un.kept kp,⟨m,hn,λi y v Q U h3=>?_⟩,λy c e=>?_,I.hok.fresh Z,λy c e=>I.freeC y c (g y c e),λp hp=>?_,I.hok.kept kp,?_⟩
 .have L:∃k,scope.names.lookup y=some k/\k=.free:=by
   rcases hy with hy | hy
   .obtain ⟨D,l,e2⟩:=gx (env:=X.env) (names:=scope.names) (x:=y) (k:=.cell) hy
    rcases e2 with e2 | e2
    .exact absurd e2 (S.nocell _ (ů l))
    .exact ⟨D,l,e2⟩
   .obtain ⟨D,l,e2⟩:=gx (env:=X.env) (names:=scope.names) (x:=y) (k:=.free) hy
    rcases e2 with e2 | e2
    .exact ⟨D,l,e2⟩
    .exact ⟨D,l,e2⟩
  obtain ⟨k,e,rfl⟩:=L
  have r:=ů e
  obtain ⟨c,G⟩:=I.ok.has y (S.free _ r rfl)
  exact ⟨c,jS r G⟩
 .exact (Ÿ (show false=true from e)).elim
 .exact Φ (ŷ (Y b hb) Z)
 .have e':=e
  rcases (hf b hb).2.2.2.1 with z | z
  .exact I.ok.noex b o e z
  .exact absurd (ŷ (η e) (Λ I.ok.bsz z)) (ņ _)
 .have q:=I.stkSub b P
  rcases ϕ.mp q with z | z
  .exact (hf b hb).2.1 z
  .exact (hf b hb).2.2.1 z
 .by_cases hi:i<mm
  .have z:(bv mm fv σ)[i]?=some none:=by
    unfold bv
    rw [List.getElem?_append_left (by simpa using hi)]
    simp [hi]
   rw [z] at U
   cases (Δ U)
  .obtain ⟨j,rfl⟩:∃j,i=j+mm:=⟨i-mm,ω⟩
   have f:(cn fv σ)[j]?=some (some v):=by
    have z:(bv mm fv σ)[j+mm]?=(cn fv σ)[j]?:=by
     unfold bv
     rw [List.getElem?_append_right (by simp)]
     simp
    rw [← z]
    exact U
   unfold cn at f
   rw [Ż] at f
   cases ej:fv[j]? with
   | none=>rw [ej] at f;cases f
   | some k =>
    rw [ej] at f
    have F:(σ[k]?).join=some v:=Δ f
    have h5:σ[k]?=some (some v):=by
     cases es:σ[k]? with
     | none=>rw [es] at F;cases F
     | some w'=>rw [es] at F;rw [show w'=some v from F]
    have hj:j<fv.length:=(ż.mp ej).1
    obtain ⟨_,J,a2⟩:=S.at_ j hj
    have w:N'[j+mm]?=some y:=Q
    rw [w] at J a2
    rw [ej] at J
    have a3:X.N[k]?=some y:=J.symm
    have a4:scope.names.lookup y=some .free:=a2
    have r:=ů a4
    have kd:X.env.kindOf y=some .cell\/X.env.kindOf y=some .free:=S.free _ r rfl
    obtain ⟨mX,_,K⟩:=I.loc
    obtain ⟨u,ru,lk⟩:=K k y v a3 h5 (kd.elim (λz=>.inr (.inl z)) λz=>.inr (.inr z))
    refine ⟨u,ru,.inr ?_⟩
    rcases lk with ⟨z,_⟩ | ⟨_,c,G,hcell⟩
    .rcases kd with z' | z'<;>rw [z'] at z<;>cases z
    .exact ⟨gU (env:=X.env) a4,c,jS r G,kc _ _ hcell⟩
 .obtain ⟨v,q⟩:=cell y c e
  exact ⟨v,kc _ _ q⟩
 .have O:p∈pl:=hp
  obtain ⟨e,l1,l2,d⟩:=a0 p O
  exact ⟨e,I.hok.fresh l1,l2,λz=>absurd (I.stkSub _ z) (λq=>by
   rcases ϕ.mp q with q | q
   .exact absurd I.lt (by rw [← q];exact Nat.not_lt.mpr l1)
   .exact I.nofs l1 q),d⟩
 .show (bv mm fv σ).length=N'.length
  rw [S.len]
  unfold bv cn
  simp
  omega
end
section
variable {prog:ê}{w:è}{A:æ}{R:Result->ë->Prop}{s:ë}
def gn{g b f:á}{i:õ}{scope:Scope}{pos:Pos}{it j:å}{env:Env}(I:Nat->ë->Prop)
  (turn:∀n s,I n s->wpAny (model prog w) A (pyNext it) (λr s₁=>match r with
   | none=>R (.ok .next) s₁
   | some v=>wpAny (model prog w) A (letOwnedTupleGo b it v) (λ_ s₁'=>wpAny (model prog w) A (assign b env v) (λ_ s₂ =>
     wpAny (model prog w) A (forIn i true λc r=>if r=true then do let ok ← isTrue c env (eval c env);pure (ForInStep.yield ok) else pure (ForInStep.yield r)) (λok s₃ =>
      if ok=true then wpAny (model prog w) A (eval g env) (λx s₄ =>
       wpAny (model prog w) A (call (.builtin "list.append") [j,x]) (λ_ s₅=>∃m,m<n/\I m s₅) (notedBy (model prog w) A env λe s'=>R (.error e) s') s₄) (notedBy (model prog w) A env λe s'=>R (.error e) s') s₃
      else ∃m,m<n/\I m s₃) (notedBy (model prog w) A env λe s'=>R (.error e) s') s₂) (notedBy (model prog w) A env λe s'=>R (.error e) s') s₁') (notedBy (model prog w) A env λe s'=>R (.error e) s') s₁) (notedBy (model prog w) A env λe s'=>R (.error e) s') s)
  (n:Nat) (h:I n s) :
  codeAny (model prog w) A (.compLoop (.ListComp g [⟨b,f,i,0⟩] scope pos) 0 it j env) R s:=by
 refine codeAny_loop rfl I (λn s u=>?_) n h
 show wpAny _ A ((compTurn (.ListComp g [⟨b,f,i,0⟩] scope pos) 0 it j env).onRaise (λx=>do noteFrame x env;theTreesLotGoes x)) _ _ s
 refine wpAny_noted ?_
 rw [compTurn_list]
 refine ε (wpAny_standAt (ε (ū (turn n s u) (λr s₁ o=>?_) λ_ _ d=>d)))
 cases r with
 | none=>exact π o
 | some v =>
  refine ε (ū o (λ_ s₁' l=>?_) λ_ _ d=>d)
  refine ε (ū l (λ_ s₂ y=>ε (ū y (λok s₃ q=>?_) λ_ _ d=>d)) λ_ _ d=>d)
  cases ok with
  | false=>exact π ⟨rfl,q⟩
  | true =>
   exact ε (ε (ū q (λx s₄ z=>ε (ū z (λ_ s₅ C=>π (π ⟨ϱ,C⟩)) λ_ _ d=>d)) λ_ _ d=>d))
end
def LCw(mm:Nat)(g:TG)(fv:ø)(tt:TT)(te:TE)(σ:St)(Q:VK)(J:It)(H1:Hp):Prop:=∃(W:Nat->à V->Hp->Prop) (n:Nat),W 0 [] H1/\n<=sizeLine/\∀i ys H,W i ys H ->
 (J.stop i H/\∀p,H p=none->Q (.ref p) (upd H p (.lst ys))) \/
 (J.go i H/\i<n/\∀x H',J.yld i H x H'->g x (bv mm fv σ) H' fun σ' H''=>Ext (bv mm fv σ) σ'/\tt σ' H'' λc H2=>if c=true then te σ' H2 λy H3=>W (i+1) (ys++[y]) H3 else W (i+1) ys H2)
set_option maxHeartbeats 1600000 in
def yU{X:Cx}{as K tg:á}{mm:Nat}{g:TG}{aR:õ}{scope:Scope}{pos:Pos}{O:ú}{fv:ø}{wi:TI}{tt:TT}{te:TE}
  (S:oR X.N X.env.scope scope mm O fv)(hg:∀C fp s H,PG (X.blk O scope C fp s H) tg g)(hc:X.calm=true)(hi:PI X tg K wi)
  (ht:∀C fp s H,PTs (X.blk O scope C fp s H) aR tt)(he:∀C fp s H,PE (X.blk O scope C fp s H) as te)
  (hs:∀x,foldedSetIterable K X.env x=pure x){P:ă}{s:ë}{σ:St}{H:Hp}{Q:VK}{aZ:Option (å->Sem Unit)}{Qo:Ă}{cp:Pos}{KK:It->Hp->Prop}(I:Inv X P σ H s)(h:wi σ H KK)(cv:∀J H1,KK J H1->LCw mm g fv tt te σ Q J H1)
  (fn:∀(D C:é) (s5:ë) (H5:Hp) (m5:ā),Inv X P σ H5 s5->s5.heap.Ns C m5->H5 C=none->C≠X.env.locals->(C∈X.ex\/X.s₀.heap.objs.size<=C)->(∀x c,X.env.cells.lookup x=some c->c≠C)->(∀p∈X.pn++P,p.1≠C)->Q (.ref D) H5->compPost (model X.prog X.w) X.A X.xe aZ Qo (.ref D) C (.ok .next) s5) :
  wpAny (model X.prog X.w) X.A (comprehension (.ListComp as [⟨tg,K,aR,0⟩] scope pos) scope X.env cp (newList []) false (eval K X.env) aZ) Qo X.xe s:=by
 refine wpAny_comprehension_free rfl hs (lX λy hy hk=>I.ok.has y.1 (S.free y hy hk)) S.kind S.names
  (ū (hi P s σ H _ I h) (λxv s1 h1=>ū h1 (λdT j h2=>?_) λ_ _ e=>e) λ_ _ e=>e)
 obtain ⟨it,fp,tn,J,F,rfl,Y,T,a5,f2,h2⟩:=h2
 obtain ⟨W,n,w0,hn,b0⟩:=cv J F h2
 refine wpAny_newObj_type (wpAny_newFunctionEnv S.nocell (by intro y hy;simp at hy) (λh1 ab ak=>?_) S.kind)
 dsimp only at ab ak ⊢
 generalize hH:j.heap.push {cls:=.type "list",dict:=none,data:=.seq ([]:ü).toArray}=G at ab ak ⊢
 have hG:G.objs.size=j.heap.objs.size+1:=by rw [← hH,Ċ]
 have c3:∀b o,j.heap.get? b=some o->G.get? b=some o:=λb o e=>hH▸ρ _ e
 have b1:∀b o,b<G.objs.size->G.get? b=some o->h1.get? b=some o:=λb o lt e=>ak.extBut b o (Φ lt) (ρ _ e)
 have kp:∀b o,j.heap.get? b=some o->h1.get? b=some o:=λb o e=>b1 b o (by rw [hG];exact Nat.lt_succ_of_lt (η e)) (c3 b o e)
 have hD:h1.PlainList j.heap.objs.size #[]:=⟨_,b1 _ _ (by rw [hG];exact Į _) (hH▸ψ _ rfl)⟩
 have a6:j.heap.objs.size≠G.objs.size:=by rw [hG];exact Φ (Į _)
 have hC:j.heap.objs.size<=G.objs.size:=by rw [hG];exact Ł _
 have a7:∀b∈fp,b<j.heap.objs.size:=λb hb=>by obtain ⟨o,e,_⟩:=T.obj 0 _ a5 b hb;exact η e
 have Z:∀{H':Hp} {pl:ă},(∀b∈fp,H' b=none)->(∀p∈pl,p.1∉fp)->∀b∈fp,tj (X.blk O scope G.objs.size fp j F) pl H' b:=λ{H' pl} hn hpl b hb=>by
  obtain ⟨_,g1,g2,g3,g4,g5⟩:=f2 b hb
  refine ⟨hn b hb,Φ (ŷ (a7 b hb) hC),λz=>?_,.inl hb,λy c e=>g4 y c (dM e),λp U e=>?_⟩
  .rcases ϕ.mp (Y.stkSub b z) with q | q
   .exact g1 q
   .exact g2 q
  .exact hpl p U (e▸hb)
 have b2:j.heap.objs.size∉fp:=λz=>absurd (a7 _ z) (ņ _)
 have c4:∀y c,(X.blk O scope G.objs.size fp j F).env.cells.lookup y=some c->c≠j.heap.objs.size:=λy c e z=>by
  obtain ⟨v,q⟩:=Y.cell y c (dM e)
  exact absurd q.lt (by rw [z];exact ņ _)
 have b3:∀{s':ë} {H':Hp} {ob:Obj} {i:Nat} {ys:à V},Inv (X.blk O scope G.objs.size fp j F) [] (bv mm fv σ) H' s'->s'.heap.get? j.heap.objs.size=some ob->(∀v,ob.data≠.cell v)->H' j.heap.objs.size=none ->
   Inv (X.blk O scope G.objs.size fp j F) [(j.heap.objs.size,ob)] (bv mm fv σ) H' s':=λ{s' H' ob i ys} J1 e d f=>J1.pins_of λp U=>by
  have z:p=(j.heap.objs.size,ob):=by simpa using U
  subst z
  refine ⟨e,f,a6,λz=>?_,d⟩
  rcases ϕ.mp (Y.stkSub _ z) with q | q
  .exact absurd Y.lt (by rw [← q];exact ņ _)
  .exact Y.nofs (ι _) q
 have a3:∀s3:ë,s3={j with heap:=h1,toks:=j.toks+([]:à (Str×å)).length} ->
   codeAny (model X.prog X.w) X.A (.compLoop (.ListComp as [⟨tg,K,aR,0⟩] scope pos) 0 (.ref it) (.ref j.heap.objs.size) (X.blk O scope G.objs.size fp j F).env)
    (compPost (model X.prog X.w) X.A X.xe aZ Qo (.ref j.heap.objs.size) G.objs.size) s3:=by
  rintro s3 rfl
  refine gn (λk s'=>∃i ys H' l,k=n+1-i/\i<=n/\ys.length<=i/\Vals ys l/\s'.heap.PlainList j.heap.objs.size l.toArray /\
   Inv (X.blk O scope G.objs.size fp j F) [] (bv mm fv σ) H' s'/\H' j.heap.objs.size=none/\tn i s'.heap/\(∀b∈fp,H' b=none)/\W i ys H') ?_ (n+1)
   ⟨0,[],F,[],ϱ,ϖ _,ι _,.nil,hD,zH S Y f2 a7 hC kp ab (λp U=>nomatch U),Y.hok.fresh (ι _),T.keep _ _ _ a5 λb _ o e=>kp b o e,λb hb=>(f2 b hb).1,w0⟩
  rintro k s4 ⟨i,ys,H4,l,rfl,bg,a1,rv,d1,I4,a2,bi,bl,w4⟩
  obtain ⟨L,eD⟩:=id d1
  have b4:=b3 (i:=i) (ys:=ys) I4 eD (λv z=>by cases z) a2
  have np:∀p∈[(j.heap.objs.size,({cls:=.type "list",data:=.seq l.toArray L}:Obj))],p.1∉fp:=λp U=>by
   have z:p=(j.heap.objs.size,({cls:=.type "list",data:=.seq l.toArray L}:Obj)):=by simpa using U
   subst z;exact b2
  rcases b0 i ys H4 w4 with ⟨stop,fin⟩ | ⟨go,hi2,step⟩
  .refine ū (T.done (X.blk O scope G.objs.size fp j F) rfl rfl rfl hc i _ s4 _ H4 _ b4 (Z bl np) bi stop) (λr s5 ⟨hr,I5⟩=>?_) λ_ _ e=>e
   subst hr
   obtain ⟨m5,bS,_⟩:=I5.loc
   have ca:s5.heap.get? j.heap.objs.size=some {cls:=.type "list",data:=.seq l.toArray L}:=(I5.pin _ (Ψ _ Ω)).1
   have a8:F j.heap.objs.size=none:=Y.hok.fresh (ι _)
   have B:=I5.base
   obtain ⟨f0,f1,dB,f3,f4,f5⟩:=Y.fpOk (H':=F) hC (Y.hok.fresh hC)
   refine fn j.heap.objs.size G.objs.size s5 (upd H4 j.heap.objs.size (.lst ys)) m5 (Y.call' (s':=s5) (ch:=fp) I5.os ⟨λb o e nb hb hx=>B.keep b o e nb hb hx,λb o e nb hb hx=>B.slot b o e nb hb hx,λb o e nb hx=>?_,λb o e hx=>B.there b o e hx,λb xs e=>?_,λb o u e=>?_,λb ps e=>?_⟩ ?_ I5.bare λb hb=>?_) bS ?_ f1 f3 f4 f5 (fin _ a2)
   .rw [am (Φ (η e))];exact B.free b o e nb hx
   .have e':F b=some (.tup xs):=e
    rw [am (aq e' a8)];exact B.tups b xs e
   .have e':F b=some (.frz o u):=e
    rw [am (aq e' a8)];exact B.frzs b o u e
   .have e':F b=some (.tbl ps):=e
    rw [am (aq e' a8)];exact B.tbls b ps e
   .intro b u e
    by_cases hb:b=j.heap.objs.size
    .subst hb
     rw [ae] at e
     cases e
     exact ⟨Λ a1 (Λ bg hn),l,L,rv,ca⟩
    .rw [am hb] at e
     exact (I5.hok b u e).stay (λc v dV q=>q) (λc q=>by rw [am (aq q a2)];exact q) λc xs q=>by rw [am (aq q a2)];exact q
   .obtain ⟨_,g1,g2,g3,g4,g5⟩:=f2 b hb
    exact ⟨g3,g1,g4,g5⟩
   .rw [am (Ne.symm a6)]
    exact I5.free
  .refine ū (T.item (X.blk O scope G.objs.size fp j F) rfl rfl rfl hc i _ s4 _ H4 _ b4 (Z bl np) bi go) (λr s5 ⟨u,hr,h5⟩=>?_) λ_ _ e=>e
   subst hr
   refine ū h5 (λ_ s6 ⟨xv,H6,I6,r6,y6,a0,cx⟩=>?_) λ_ _ e=>e
   have cb:=I6.pinned (Z cx np) (T.obj _ _ a0)
   have out:∀{σ':St} {H':Hp} {s':ë},Inv (X.blk O scope G.objs.size fp j F) ([(j.heap.objs.size,({cls:=.type "list",data:=.seq l.toArray L}:Obj))]++nO fp s6.heap) σ' H' s' ->
     s'.heap.PlainList j.heap.objs.size l.toArray/\H' j.heap.objs.size=none/\(∀b∈fp,H' b=none)/\(∀b∈fp,∀o,s6.heap.get? b=some o->s'.heap.get? b=some o):=λ{σ' H' s'} J1=>by
    have q:=J1.pin (j.heap.objs.size,({cls:=.type "list",data:=.seq l.toArray L}:Obj)) (Ψ _ (ź _ Ω))
    refine ⟨⟨L,q.1⟩,q.2.1,λb hb=>?_,λb hb o e=>(J1.pin (b,o) (Ψ _ (Ψ _ (gF hb e)))).1⟩
    obtain ⟨o,e,d⟩:=T.obj _ _ a0 b hb
    exact (J1.pin (b,o) (Ψ _ (Ψ _ (gF hb e)))).2.1
   refine nox (hg _ _ _ _ _ s6 _ H6 xv u _ cb r6 (step xv H6 y6)) λ_ s7 ⟨σ7,H7,I7,e7,q7⟩=>?_
   refine nox (ht _ _ _ _ _ s7 _ H7 _ I7 q7) λok s8 ⟨H8,I8,q8⟩=>?_
   cases ok with
   | false =>
    obtain ⟨o1,o2,o3,o4⟩:=out I8
    exact ⟨n+1-(i+1),ω,i+1,ys,H8,l,ϱ,hi2,υ a1,rv,o1,(I8.pins_of (pins':=[]) λp U=>nomatch U).weak (σ':=bv mm fv σ) e7.1 e7.2,o2,T.keep _ _ _ a0 o4,o3,q8⟩
   | true =>
    refine nox (he _ _ _ _ _ s8 _ H8 _ I8 q8) λyv s9 ⟨y,H9,I9,r9,q9⟩=>?_
    obtain ⟨o1,o2,o3,o4⟩:=out I9
    have b6:=rv.length
    refine wpAny_list_append_plain (hsz:=by rw [ŵ,← b6];exact Λ a1 (Λ bg hn)) o1 λh' cZ bd=>?_
    have cc:Inv (X.blk O scope G.objs.size fp j F) [] σ7 H9 {s9 with heap:=h'} :=
     (I9.pins_of (pins':=[]) λp U=>nomatch U).turned (t':=s9.toks) (it:=j.heap.objs.size) (λb o hb e=>bd.extBut b o hb e) o2 a6 (.inr (ι _)) c4 (λp U=>nomatch U)
    refine ⟨n+1-(i+1),ω,i+1,ys++[y],H9,l++[yv],ϱ,hi2,by rw [Ž];exact ć a1,rv.append (.cons r9 .nil),?_,cc.weak (σ':=bv mm fv σ) e7.1 e7.2,o2,T.keep _ _ _ a0 λb hb o e=>bd.extBut b o (λz=>b2 (z▸hb)) (o4 b hb o e),o3,q9⟩
    have e9:(l++[yv]).toArray=l.toArray.push yv:=by simp
    rw [e9]
    exact cZ
 exact codeAny_compStart_list (a3 _ rfl) (T.self _ 0 _ _ _ (T.keep _ _ _ a5 λb _ o e=>kp b o e) (a3 _ rfl))
def LcR(wi:TI)(mm:Nat)(g:TG)(fv:ø)(tt:TT)(te:TE)(r:TE):Prop:=∀σ H Q,r σ H Q->∃KK,wi σ H KK/\∀J H1,KK J H1->LCw mm g fv tt te σ Q J H1
section
variable {X:Cx}{iy:Nat}{y:Str}{py spos:Pos}{elt iter tg:á}{mm:Nat}{g:TG}{x:Str}{px:Pos}{ifs:õ}{scope:Scope}{pos:Pos}{N':ú}{fv:ø}{wi:TI}{tt:TT}{te r:TE}
def xV(J:LcR wi mm g fv tt te r)(S:oR X.N X.env.scope scope mm N' fv)(K:∀C fp s H,PG (X.blk N' scope C fp s H) tg g)(L:X.calm=true)(O:PI X tg iter wi)
  (P:∀C fp s H,PTs (X.blk N' scope C fp s H) ifs tt)(U:∀C fp s H,PE (X.blk N' scope C fp s H) elt te)(W:∀x,foldedSetIterable iter X.env x=pure x):PE X (.ListComp elt [⟨tg,iter,ifs,0⟩] scope pos) r:=by
 intro f s σ H Q I h
 rw [eval_ListComp]
 obtain ⟨Y,h1,i⟩:=J _ _ _ h
 exact yU S K L O P U W I h1 i λD C j l m5 u d w y z F G q=>⟨m5,d,λZ sb=>⟨.ref D,l,u.turned (t':=j.toks) (λb o hb e=>(sb.2 b hb).trans e) w y z F G,ϱ,q⟩⟩
def xM(lr:LcR wi mm g fv tt te r)(S:oR X.N X.env.scope scope mm N' fv)(hg:∀C fp s H,PG (X.blk N' scope C fp s H) tg g)(hc:X.calm=true)(hi:PI X tg iter wi)
  (ht:∀C fp s H,PTs (X.blk N' scope C fp s H) ifs tt)(he:∀C fp s H,PE (X.blk N' scope C fp s H) elt te)(hs:∀x,foldedSetIterable iter X.env x=pure x)
  (hN:X.N.Nodup)(u:X.N[iy]?=some y)(w:Loc X.env.scope y)(F:swapsWith (.ListComp elt [⟨tg,iter,ifs,0⟩] scope pos) (some (.Name y py)) spos.line X.env=pure true)(hf:X.fn y=true\/X.env.scope.names.lookup y=some .local) :
  PS X (.Assign [.Name y py] (.ListComp elt [⟨tg,iter,ifs,0⟩] scope pos) spos) (xn r (oG iy)):=by
 intro d s σ H DE I h
 obtain ⟨KK,h1,L⟩:=lr _ _ _ h
 rw [exec_Assign_Name_used _ _ _ _ F]
 refine ε (wpAny_standAt (ε ?_))
 show wpAny _ X.A (do let _ ← comprehension (.ListComp elt [⟨tg,iter,ifs,0⟩] scope pos) scope X.env _ (newList []) false (eval iter X.env) (some (assign (.Name y py) X.env))) _ _ s
 refine ε (ū (yU (Qo:=λ_ G=>SP X d DE .next G) S hg hc hi ht he hs I h1 L λD C P H5 m5 Q f U J W K Y q=>?_) (λ_ G Z=>π (π Z)) λ_ _ e=>e)
 show wpAny _ _ (assign (.Name y py) X.env (.ref D)) _ _ P
 refine wpAny_assign_Name (pM Q hN u w (v:=.ref D) rfl (λs6 I6 ⟨a6,i,j⟩=>?_) hf)
 have O:C≠a6:=λz=>by
  rcases j with e | e
  .exact J (z.trans e)
  .exact K _ _ e z.symm
 exact ⟨m5,f.sameBut i O,λh' l=>⟨_,_,I6.turned (t':=s6.toks) (λb o hb e=>(l.2 b hb).trans e) U J W K Y,q⟩⟩
def BlkScope.m{N:ú}{sc:Scope}(S:BlkScope N sc scope x N' fv):oR N sc scope 1 N' fv:=⟨S.nocell,S.kind,S.names,S.free,S.nd,S.len,S.at_⟩
def BlkScope.pg(S:BlkScope X.N X.env.scope scope x N' fv)(C:é)(fp:û)(s:ë)(H:Hp):PG (X.blk N' scope C fp s H) (.Name x px) (oG 0) :=
 have hlc:=lookup_relabel_local S.loc
 bU S.nd S.hd (.inl hlc) (.inr hlc)
theorem yT:LcR wi 1 (oG 0) fv tt te (tLC wi fv tt te):=fun σ H Q h=>⟨_,h,λJ H1 ⟨W,n,w0,hn,turn⟩=>⟨W,n,w0,hn,λi ys H w=>(turn i ys H w).imp id λ⟨go,hi,st⟩=>⟨go,hi,λx H' z=>⟨⟨ϱ,λj v e=>by
 cases j with
 | zero=>cases (show (none:Option V)=some v from Δ e)
 | succ j=>exact e⟩,st x H' z⟩⟩⟩⟩
def fq(S:BlkScope X.N X.env.scope scope x N' fv)(hc:X.calm=true)(hi:PI X (.Name x px) iter wi)(ht:∀C fp s H,PTs (X.blk N' scope C fp s H) ifs tt)(he:∀C fp s H,PE (X.blk N' scope C fp s H) elt te)
  (hs:∀x,foldedSetIterable iter X.env x=pure x:=by intro _;rfl):PE X (.ListComp elt [⟨.Name x px,iter,ifs,0⟩] scope pos) (tLC wi fv tt te):=xV yT S.m S.pg hc hi ht he hs
def DG(mm:Nat)(g:TG)(wi:TI)(fv:ø)(tt:TT)(te:TE):TE:=fun σ H Q=>wi σ H λJ H1=>LCw mm g fv tt te σ Q J H1
def xU(S:oR X.N X.env.scope scope mm N' fv)(hg:∀C fp s H,PG (X.blk N' scope C fp s H) tg g)(hc:X.calm=true)(hi:PI X tg iter wi)(ht:∀C fp s H,PTs (X.blk N' scope C fp s H) ifs tt)(he:∀C fp s H,PE (X.blk N' scope C fp s H) elt te)
  (hs:∀x,foldedSetIterable iter X.env x=pure x:=by intro _;rfl):PE X (.ListComp elt [⟨tg,iter,ifs,0⟩] scope pos) (DG mm g wi fv tt te):=xV (fun σ H Q h=>⟨_,h,λ_ _ z=>z⟩) S hg hc hi ht he hs
def xL(S:BlkScope X.N X.env.scope scope x N' fv)(hc:X.calm=true)(hi:PI X (.Name x px) iter wi)(ht:∀C fp s H,PTs (X.blk N' scope C fp s H) ifs tt)(he:∀C fp s H,PE (X.blk N' scope C fp s H) elt te)
  (hN:X.N.Nodup)(hiy:X.N[iy]?=some y)(hxl:Loc X.env.scope y)(hsw:swapsWith (.ListComp elt [⟨.Name x px,iter,ifs,0⟩] scope pos) (some (.Name y py)) spos.line X.env=pure true:=by rfl)
  (hs:∀x,foldedSetIterable iter X.env x=pure x:=by intro _;rfl)(hf:X.fn y=true\/X.env.scope.names.lookup y=some .local:=by first | exact .inl rfl | exact .inr rfl | assumption) :
  PS X (.Assign [.Name y py] (.ListComp elt [⟨.Name x px,iter,ifs,0⟩] scope pos) spos) (xn (tLC wi fv tt te) (oG iy)):=xM yT S.m S.pg hc hi ht he hs hN hiy hxl hsw hf
def pQ(hN:X.N.Nodup)(hiy:X.N[iy]?=some y)(hxl:Loc X.env.scope y)(S:oR X.N X.env.scope scope mm N' fv)(hg:∀C fp s H,PG (X.blk N' scope C fp s H) tg g)(hc:X.calm=true)(hi:PI X tg iter wi)(ht:∀C fp s H,PTs (X.blk N' scope C fp s H) ifs tt)(he:∀C fp s H,PE (X.blk N' scope C fp s H) elt te)
  (hsw:swapsWith (.ListComp elt [⟨tg,iter,ifs,0⟩] scope pos) (some (.Name y py)) spos.line X.env=pure true:=by rfl)
  (hf:X.fn y=true\/X.env.scope.names.lookup y=some .local:=by first | exact .inl rfl | exact .inr rfl | assumption)(hs:∀x,foldedSetIterable iter X.env x=pure x:=by intro _;rfl) :
  PS X (.Assign [.Name y py] (.ListComp elt [⟨tg,iter,ifs,0⟩] scope pos) spos) (xn (DG mm g wi fv tt te) (oG iy)):=xM (fun σ H Q h=>⟨_,h,λ_ _ z=>z⟩) S hg hc hi ht he hs hN hiy hxl hsw hf
end
open Builtin Builtin.Str
theorem pW(c:Nat):∀ys:ú,ys.length<=(Str.join ⟨#[c]⟩ ys).length+1
 | []=>ϖ _
 | [y]=>by simp
 | y::u::ys=>by
  have ih:=pW c (u::ys)
  rw [join_cons_cons]
  have e:(y++(⟨#[c]⟩:Str)++Str.join ⟨#[c]⟩ (u::ys)).length=y.length+1+(Str.join ⟨#[c]⟩ (u::ys)).length:=by
   show ((y.cps++#[c])++(Str.join ⟨#[c]⟩ (u::ys)).cps).size=_
   rw [Array.size_append,Array.size_append]
   rfl
  rw [e,ŭ]
  omega
theorem pJ:∀(l:à (Str×Tok)),Vals ((l.map (·.1)).map V.str) (strValues l)
 | []=>.nil
 | p::l=>.cons ⟨p.2,rfl⟩ (pJ l)
section
variable {X:Cx}
def jd(C:X.calm=true):du X (.builtin "sum") (λxs H Q=>∃(p:é) (b:ù),xs=[.ref p]/\SqL X.K H p (b.map V.int)/\Q (.int b.sum) H):=by
 intro i s σ H xs J Q I r h
 obtain ⟨p,b,rfl,j,q⟩:=h
 obtain ⟨u,rfl,l⟩:=dm r
 cases (show u=Value.ref p from l)
 obtain ⟨d,o,w,D⟩:=I.list j
 have g:IntsAre d b:=oB o
 obtain ⟨e,f⟩:=g.allInts.items
 have x:s.heap.IsList p (intItems e):=f▸w.isList
 refine sum_intListG (I.ok.hd C) x λF G y z=>⟨.int b.sum,H,I.kept z,⟨y,?_⟩,q⟩
 have en:b=e.toList.map (·.1):=(show numsOf d.toArray.toList=b from g.numsOf).symm.trans (by rw [f,nums_intItems])
 rw [preSum_eq,List.take_of_length_le (by simp),en]
def pU:MtR X "str.split" (λx vs H Q=>∃(z:Str) (c:Nat),x=.str z/\vs=[.str ⟨#[c]⟩]/\z.length<=1000000/\∀p,H p=none->Q (.ref p) (upd H p (.lst ((Txt.split z ⟨#[c]⟩).map V.str)))):=by
 intro f s σ H x G v J Q I y r h
 obtain ⟨z,c,rfl,rfl,C,q⟩:=h
 obtain ⟨t,rfl⟩:=y
 obtain ⟨u,rfl,⟨g,rfl⟩⟩:=dm r
 have D:(1000002:Nat)<=sizeLine:=by decide
 have d:(Txt.split z ⟨#[c]⟩).length<=sizeLine:=by
  have:=pW c (Txt.split z ⟨#[c]⟩)
  rw [StrLaws.join_split] at this
  omega
 have fin:∀(l:à (Str×Tok)) (k:Nat),l.map (·.1)=Txt.split z ⟨#[c]⟩->EP X f σ Q (.ref s.heap.objs.size) {s with toks:=k,heap:=s.heap.push {cls:=.type "list",data:=.seq (strValues l).toArray}}:=λl k j =>
  ⟨.ref s.heap.objs.size,_,I.laid (t':=k) (o:=.lst ((Txt.split z ⟨#[c]⟩).map V.str)) (λb o e=>ρ _ e) (ι _)
   (show ObjOk X.prog X.w _ _ _ (.lst ((Txt.split z ⟨#[c]⟩).map V.str)) from ⟨by rw [ν];exact d,strValues l,0,j▸pJ l,ψ _ rfl⟩),ϱ,q _ (I.hok.fresh (ι _))⟩
 have i:((⟨#[c]⟩:Str).length==0)=false:=rfl
 cases h1:(decide (z.length<(⟨#[c]⟩:Str).length)||decide (strKind z<strKind ⟨#[c]⟩)) with
 | true =>
  have es:Txt.split z ⟨#[c]⟩=[z]:=by unfold Txt.split;rw [if_pos h1]
  exact call_meets F.slot_str_split (typeIs_str _ _ _) F.entry_str_split (F.args_str_split_2 _ _) (meets_str_split_cannot_occur z ⟨#[c]⟩ t g h1) (fin [(z,t)] s.toks es.symm)
 | false =>
  cases hf:(occurrences z ⟨#[c]⟩ 0 z.length (z.length+1)).isEmpty with
  | true =>
   have es:Txt.split z ⟨#[c]⟩=[z]:=by unfold Txt.split;rw [if_neg (by rw [h1];decide),if_pos hf]
   exact call_meets F.slot_str_split (typeIs_str _ _ _) F.entry_str_split (F.args_str_split_2 _ _) (meets_str_split_not_found z ⟨#[c]⟩ t g h1 i hf) (fin [(z,t)] s.toks es.symm)
  | false =>
   have es:Txt.split z ⟨#[c]⟩=partsBetween z (occurrences z ⟨#[c]⟩ 0 z.length (z.length+1)) (⟨#[c]⟩:Str).length:=by unfold Txt.split;rw [if_neg (by rw [h1];decide),if_neg (by rw [hf];decide)]
   refine call_meets F.slot_str_split (typeIs_str _ _ _) F.entry_str_split (F.args_str_split_2 _ _) (meets_str_split_sep z ⟨#[c]⟩ t g h1 i hf ω (by rw [← es];exact d)) ?_
   rw [strsFrom_eq]
   exact fin _ _ ((numbered_texts _ _).trans es.symm)
end
end L2
namespace L2
open PySem PySem.Spec PyProof.Rows
def Cov(l:ö)(h0:ã)(H:Hp)(B h:ã):Prop:=∀b o,h.get? b=some o->b∉frs l->(H b≠none\/∃o0,h0.get? b=some o0)->B.get? b=some o
def Fly(l:ö)(h0:ã)(H:Hp)(ea C:é)(h:ã):Prop:=∃B a0,Heap.FlyingW B l ea (.ref C) a0 h/\Cov l h0 H B h
def ObjOk.there{P:ê}{w:è}{H:Hp}{h:ã}{a:é}{o:HO}(x:ObjOk P w H h a o):∃ob,h.get? a=some ob:=by
 cases o with
 | lst xs=>obtain ⟨_,_,_,_,e⟩:=x;exact ⟨_,e⟩
 | tup xs=>obtain ⟨_,_,_,o,e,_⟩:=x;exact ⟨_,e⟩
 | dK kvs=>obtain ⟨_,_,_,_,o,_,_,e,_⟩:=x;exact ⟨_,e⟩
 | dT kvs=>obtain ⟨_,_,_,_,o,_,_,e,_⟩:=x;exact ⟨_,e⟩
 | set S n=>obtain ⟨o,_,_,_,e,_⟩:=x;exact ⟨_,e⟩
 | ins C dx fs=>obtain ⟨_,_,_,e,_⟩:=x;exact ⟨_,e⟩
 | own y=>obtain ⟨_,e⟩:=x;exact ⟨_,e⟩
 | xd fs=>obtain ⟨_,⟨_,_,_,e,_⟩,_⟩:=x;exact ⟨_,e⟩
 | rng lo hi=>obtain ⟨_,_,_,e⟩:=x;exact ⟨_,e⟩
 | frz ob u=>obtain ⟨e,_⟩:=x;exact ⟨_,e⟩
 | tbl ps=>exact ⟨_,(show h.get? a=some _ from x)⟩
 | met f y=>exact ⟨_,(show h.get? a=some _ from x)⟩
 | ext φ=>obtain ⟨_,⟨_,e⟩,_⟩:=x;exact ⟨_,e⟩
section
variable {l:ö}{H:Hp}{B h h' hc:ã}{P:ê}{w:è}
def Cov.stay(c:Cov l hc H B h)(st:B.StaysIn h'):∀b o,h.get? b=some o->b∉frs l->(H b≠none\/∃o0,hc.get? b=some o0)->h'.get? b=some o:=λb o e nb hb=>st b o (c b o e nb hb)
def HOk.moved(x:HOk P w H h)(c:Cov l hc H B h)(st:B.StaysIn h')(d:∀b∈frs l,H b=none):HOk P w H h':=λa o e=>by
 refine (x a o e).stay (λb u hb q=>?_) (λb q=>q) λb xs q=>q
 have tr:H b≠none:=by
  rcases hb with rfl | hb
  .rw [e];intro z;cases z
  .rw [hb];intro z;cases z
 exact c.stay st b u q (λz=>tr (d b z)) (.inl tr)
def Un.moved{fs:û}{y:Hp}{h0:ã}(u:Un fs [] y H h0 h)(c:Cov l hc H B h)(st:B.StaysIn h')(C:h.UpToSlots h')(D:h.FunFrames B l)(F:∀b o,h0.get? b=some o->∃o',hc.get? b=some o')
  (hf:∀b∈fs,b∈frs l)(G:∀b o,h0.get? b=some o->b∈frs l->b∈fs):Un fs [] y H h0 h':=by
 have kp:∀b i o,h0.get? b=some i->b∉fs->h.get? b=some o->h'.get? b=some o:=λb i o e0 j e=>c.stay st b o e (λz=>j (G b i e0 z)) (.inr (F b i e0))
 have g:∀b o,b∈fs->h.get? b=some o->∃g,h'.get? b=some {o with slots:=g}:=λb o hb e=>by
  obtain ⟨_,o',r,d⟩:=D.mem (show b∈l.filterMap (·.frame) from hf b hb)
  rw [e] at r
  cases r
  exact C b o e d
 refine ⟨λb o e z j f=>kp b o o e j (u.keep b o e z j f),λb o e z hb f=>?_,u.free,λb o e f=>?_,u.tups,u.frzs,u.tbls⟩
 .obtain ⟨I,q⟩:=u.slot b o e z hb f
  obtain ⟨w,q2⟩:=g b _ hb q
  exact ⟨w,q2⟩
 .obtain ⟨x,q⟩:=u.there b o e f
  by_cases hb:b∈fs
  .obtain ⟨w,q2⟩:=g b _ hb q
   exact ⟨_,q2⟩
  .exact ⟨x,kp b o x e hb q⟩
end
section
variable {X:Cx}{E:XK}{pins:ă}{σ:St}{H H':Hp}{s s':ë}
def sL(D:X.stack=X.env::X.outer)(b:X.env.frame=some X.env.locals):frs X.stack=X.env.locals::frs X.outer:=by
 rw [D]
 show List.filterMap _ (X.env::X.outer)=_
 rw [ġ,b]
 rfl
end
def Cm{K:ä}{h:ã}{mg:ā}{x:Str}{C:é}{w:ü}{new:String}(b:K.In h)(I:mg x=some (.ref C))(q:PySem.W.excIn K C w new=true):OwnCls x C w new mg h:=by
 have r:∀o,K.lookup C=some o->∃tl N g i bs hdct j sub l d dd k0 k1 k2 k3 k5 mN,h.get? C=some (excClassObj g i C N bs tl hdct j sub l d dd k0 k1 k2 k3 k5 new)/\h.Ns N mN/\mN "__init__"=none/\OwnTail h w tl:=λo e=>by
  unfold PySem.W.excIn at q
  rw [e] at q
  obtain ⟨J,y,z,f⟩:=o
  split at q
  .rename_i dd cd sl e0
   cases (Δ e0)
   obtain ⟨g,bs,D,F,i,G,j,sub,l,d,H⟩:=cd
   split at q
   .rename_i C2 tl k0 k1 k2 k3 n2 k5 em es
    dsimp only at em q
    simp only [Bool.and_eq_true,beq_iff_eq,Bool.not_eq_true'] at q
    obtain ⟨⟨⟨⟨⟨q1,q2⟩,q3⟩,q4⟩,q5⟩,q6⟩:=q
    subst q1 q2 q3 em
    have u:f=#[k0,k1,k2,k3,some (.builtin n2),k5]:=ĭ.mp es
    subst u
    exact ⟨tl,F,g,i,bs,G,j,sub,l,d,y,k0,k1,k2,k3,k5,_,b _ _ e,.of_isNs (PySem.W.isNs_of_in b q5),PySem.W.nsMap_none_of_in b q5 q6,PySem.W.tail_of_in b q4⟩
   .cases q
  .cases q
 refine ⟨I,?_⟩
 cases e:K.lookup C with
 | none=>unfold PySem.W.excIn at q;rw [e] at q;cases q
 | some o=>exact r o e
def Dp(ea C:é):HO:=.ext λh=>∃o,h.get? ea=some o/\o.cls=.ref C
abbrev Cx.hnd(X:Cx)(ev:å):Cx:={X with A:=X.A.mark (some ev),calm:=false,xe:=λ_ _=>False}
section
variable {X:Cx}{pins:ă}{σ:St}{H H1:Hp}{s s1:ë}{ev:å}
def Cx.Ok.hnd(ok:X.Ok)(ev:å):(X.hnd ev).Ok :=
 ⟨ok.mod,ok.kind,ok.glob,ok.blt,ok.above,ok.inj,ok.has,ok.cab,λh=>(by cases h),ok.frames,ok.stk,ok.exf,ok.bs,ok.bsz,ok.noex,ok.exfs,ok.funs,ok.frf⟩
def Inv.hnd(I:Inv X pins σ H s)(ev:å):Inv (X.hnd ev) pins σ H s:=⟨I.ok.hnd ev,I.os,I.bare,I.base,I.loc,I.cell,I.free,I.freeC,I.pin,I.hok,I.len⟩
def Inv.unhnd(ok:X.Ok)(I:Inv (X.hnd ev) pins σ H s):Inv X pins σ H s:=⟨ok,I.os,I.bare,I.base,I.loc,I.cell,I.free,I.freeC,I.pin,I.hok,I.len⟩
def SP.unhnd{D:Ends}{f:Flow}{s':ë}(ok:X.Ok)(h:SP (X.hnd ev) pins D f s'):SP X pins D f s':=by
 cases f with
 | next=>obtain ⟨b,d,e,q⟩:=h;exact ⟨b,d,e.unhnd ok,q⟩
 | brk=>obtain ⟨b,d,e,q⟩:=h;exact ⟨b,d,e.unhnd ok,q⟩
 | cont=>obtain ⟨b,d,e,q⟩:=h;exact ⟨b,d,e.unhnd ok,q⟩
 | ret v=>obtain ⟨x,b,d,e,r,q⟩:=h;exact ⟨x,b,d,e.unhnd ok,r,q⟩
def UpToSlots.isCell{h h':ã}{c:é}{v:î}(f:h.UpToSlots h')(x:h.IsCell c v):h'.IsCell c v:=by
 obtain ⟨o,e,d⟩:=x
 obtain ⟨g,b⟩:=f c o e λvs q=>by rw [d] at q;cases q
 exact ⟨_,b,d⟩
def Inv.moved{B w:ã}(G:Inv X pins σ H1 s1)(I:Inv X pins σ H s)(y:X.stack=X.env::X.outer)(Q:X.env.frame=some X.env.locals)(g:X.ex=[])(c:Cov X.stack s1.heap H B s.heap)(st:B.StaysIn w)(h:s.heap.UpToSlots w)
  (U:s.heap.FunFrames B X.stack):Inv X pins σ H {s with heap:=w}:=by
 have j:=sL y Q
 have O:Un X.fs [] X.H₀ H X.s₀.heap s.heap:=by have:=I.base;rw [g] at this;exact this
 have sub:∀b o,X.s₀.heap.get? b=some o->∃o',s1.heap.get? b=some o':=λb o e=>G.base.there b o e (by rw [g];simp)
 have P:∀b o,X.s₀.heap.get? b=some o->b≠X.env.locals:=λb o e z=>absurd (η e) (by rw [z];exact Nat.not_lt.mpr I.ok.above)
 refine ⟨I.ok,I.os,I.bare,?_,?_,λx l e=>?_,I.free,I.freeC,λp F=>?_,I.hok.moved c st I.stkFree,I.len⟩
 .rw [g]
  refine O.moved c st h U sub (λb hb=>by rw [j];exact Θ _ hb) λb o e hb=>?_
  rw [j] at hb
  rcases ϕ.mp hb with z | z
  .exact absurd z (P b o e)
  .exact z
 .obtain ⟨m,J,K⟩:=I.loc
  refine ⟨m,h.ns J,λi x v a b l=>?_⟩
  obtain ⟨u,r,L⟩:=K i x v a b l
  refine ⟨u,r,?_⟩
  rcases L with z | ⟨z,cl,e,ic⟩
  .exact .inl z
  .exact .inr ⟨z,cl,e,UpToSlots.isCell h ic⟩
 .obtain ⟨v,q⟩:=I.cell x l e
  exact ⟨v,UpToSlots.isCell h q⟩
 .obtain ⟨e,f,C,D,d⟩:=I.pin p F
  refine ⟨c.stay st p.1 p.2 e (λz=>?_) (.inr ⟨_,(G.pin p F).1⟩),f,C,D,d⟩
  rw [j] at z
  rcases ϕ.mp z with z | z
  .exact C z
  .exact D z
def Inv.exc{d C:é}{i:Obj}(I:Inv X pins σ H s)(h:H d=none)(w:s.heap.get? d=some i)(G:i.cls=.ref C)(h0:X.s₀.heap.get? d=none)(J:d≠X.env.locals)(j:∀y c,X.env.cells.lookup y=some c->c≠d)
  (K:∀p∈X.pn++pins,p.1≠d):Inv X pins σ (upd H d (Dp d C)) s:=by
 refine ⟨I.ok,I.os,I.bare,⟨I.base.keep,I.base.slot,λb o e z x=>?_,I.base.there,λb l e=>?_,λb o u e=>?_,λb D e=>?_⟩,I.loc,I.cell,?_,λy c e=>?_,λp g=>?_,λb u e=>?_,I.len⟩
 .rw [am (λF=>by rw [F,h0] at e;cases e)];exact I.base.free b o e z x
 .have q:=I.base.tups b l e
  rw [am (aq q h)];exact q
 .have q:=I.base.frzs b o u e
  rw [am (aq q h)];exact q
 .obtain ⟨more,q⟩:=I.base.tbls b D e
  exact ⟨more,by rw [am (aq q h)];exact q⟩
 .rw [am J.symm];exact I.free
 .rw [am (j y c e)];exact I.freeC y c e
 .obtain ⟨e,f,r⟩:=I.pin p g
  exact ⟨e,by rw [am (K p g)];exact f,r⟩
 .by_cases hb:b=d
  .subst hb
   rw [ae] at e
   cases e
   exact ⟨⟨i,w,G⟩,⟨i,w⟩,λh1 L ⟨o,e,c⟩ k=>⟨o,k o e,c⟩⟩
  .rw [am hb] at e
   exact (I.hok b u e).stay (λc v _ q=>q) (λc q=>by rw [am (aq q h)];exact q) λc l q=>by rw [am (aq q h)];exact q
def zJ(X:Cx)(C CB:é):Prop:=∀(A:æ) (s:ë) (ea:é) (ob:Obj) (Q:Bool->ë->Prop) (E:Ă),X.K.In s.heap->s.heap.get? ea=some ob->ob.cls=.ref C->Q true s->wpAny (model X.prog X.w) A (excMatches (.ref ea) (.ref CB)) Q E s
def tF{x:Str}{C:é}{e:ü}{new:String}(r:X.mg x=some (.ref C))(u:PySem.W.excIn X.K C e new=true)(hb:e.contains (.type "BaseException")=true):zJ X C C:=by
 intro A s Y Z Q E k l o q
 obtain ⟨w,N,y,z,bs,b,D,sub,F,f,dd,G,H,I,J,L,O,i,P,j,T⟩:=(Cm k r u).obj
 obtain ⟨h,g,d,t,U⟩:=s
 exact wpAny_excMatches_sub_self i l o (T.hasType hb) q
def Eb{b C CB:é}{Z:Str}{np W:Pos}{b₀:â}{g:à â}{rest:à ExceptHandler}{D:Ends}{th:TS}{E:Ă}(Y:Inv X pins σ H1 s1)(I:Inv X pins σ H s)(d:X.stack=X.env::X.outer)(fr:X.env.frame=some X.env.locals)(F:X.ex=[])
  (a8:Fly X.stack s1.heap H b C s.heap)(hg:Gl X Z)(hm:X.mg Z=some (.ref CB))(tk:zJ X C CB)(hs:∀ev,PSs (X.hnd ev) (b₀::g) th)(q:H b=none->th D σ (upd H b (Dp b C)))(hd:(Z==("__debug__":Str))=false) :
  wpAny (model X.prog X.w) X.A (noteFrame (.ref b) X.env) (λ_ s₂=>wpAny (model X.prog X.w) X.A (setFlight (.ref b) none) (λ_ s₃ =>
   wpAny (model X.prog X.w) X.A (handleBy (.ref b) X.env (.ExceptHandler (some (.Name Z np)) none (b₀::g) W::rest)) (SP X pins D) E s₃) E s₂) E s:=by
 obtain ⟨B,a0,fl,c⟩:=a8
 have a3:X.A.frames=some (X.env::X.outer):=by rw [I.ok.frames,d]
 have ff:=fl.2.2.1
 have a4:Heap.FlyingW B (X.env::X.outer) b (.ref C) a0 s.heap:=by rw [← d];exact fl
 refine wpAny_looks_onW a3 fr a4 λh₄ l Q=>?_
 refine wpAny_landsW l λh₅ r U=>?_
 have I5:=Inv.moved Y I d fr F c r.1 (Q.trans U) ff
 obtain ⟨ob,a2,G⟩:=r.there
 refine wpAny_handleBy_cons (codeAny_handlers_test (jM (X:=X.hnd (.ref b)) (I5.hnd (.ref b)) hg hm ?_ hd)) (by intro z;cases z)
 refine tk _ _ b ob _ _ I5.kIn a2 G (codeAny_handlers_suite ?_)
 refine lands_againW (s:={s with heap:=h₅}) r λh₆ x a7=>?_
 have I6:=Inv.moved Y I d fr F c x.1 ((Q.trans U).trans a7) ff
 obtain ⟨oe,ws,J,K,L,ab⟩:=x.first
 have i:b∉frs X.stack:=λz=>by
  have O:=x.2.2.1
  rw [← d] at O
  obtain ⟨_,o',h,d'⟩:=O.mem (show b∈X.stack.filterMap (·.frame) from z)
  rw [J] at h
  cases h
  exact d' ws L
 obtain ⟨o1,e1,_⟩:=fl.there
 have hB:=fl.2.1
 have P:H b=none:=by
  cases z:H b with
  | none=>rfl
  | some u =>
   have:=c b o1 e1 i (.inl (by rw [z];intro y;cases y))
   rw [hB] at this;cases this
 have j:s1.heap.get? b=none:=by
  cases z:s1.heap.get? b with
  | none=>rfl
  | some u =>
   have:=c b o1 e1 i (.inr ⟨u,z⟩)
   rw [hB] at this;cases this
 have a5:X.s₀.heap.get? b=none:=by
  cases z:X.s₀.heap.get? b with
  | none=>rfl
  | some u =>
   obtain ⟨o',h⟩:=Y.base.there b u z (by rw [F];simp)
   rw [j] at h;cases h
 have a6:=I6.exc P J K a5 (λz=>i (by rw [sL d fr,z];exact Ω)) (λy cc e z=>by
  obtain ⟨v,o,h,_⟩:=Y.cell y cc e
  rw [z,j] at h;cases h) λp hp z=>by
   have:=(Y.pin p hp).1
   rw [z,j] at this;cases this
 exact ū (hs (.ref b) pins _ σ _ D (a6.hnd _) (q P)) (λf s7 h7=>SP.unhnd I.ok h7) λ_ _ z=>z.elim
abbrev TX:=St->Hp->VK->XK->Prop
def XP(X:Cx)(pins:ă)(σ:St)(E:XK)(ev:å)(s':ë):Prop:=∃s1 H1 ea C H',Inv X pins σ H1 s1/\ev=.ref ea/\Inv X pins σ H' s'/\Fly X.stack s1.heap H' ea C s'.heap/\E ev (some C) H'
def PEX(X:Cx)(e:á)(t:TX):Prop :=
 ∀(pins:ă) (s:ë) (σ:St) (H:Hp) (Q:VK) (E:XK),Inv X pins σ H s->t σ H Q E->wpAny (model X.prog X.w) X.A (eval e X.env) (EP X pins σ Q) (XP X pins σ E) s
end
section
variable {X:Cx}{e:á}{t:TX}{C CB:é}{cx y:Str}{np hpos pos py apos:Pos}{b₀:â}{suite:à â}{th:TS}{j:Nat}
def zR(j:Nat)(C:é)(t:TX)(th:TS):TS:=λD σ H=>t σ H (λv H1=>D.nx (σ.set j (some v)) H1) λev c H1=>∃ea,ev=.ref ea/\c=some C/\(H1 ea=none->th D σ (upd H1 ea (Dp ea C)))
def v7(l:X.stack=X.env::X.outer)(P:X.env.frame=some X.env.locals)(o:X.ex=[])(U:X.N.Nodup)(W:X.N[j]?=some y)(Y:Loc X.env.scope y)(Z:PEX X e t)(hg:Gl X cx)(hm:X.mg cx=some (.ref CB))(tk:zJ X C CB)
  (hs:∀ev,PSs (X.hnd ev) (b₀::suite) th)(hd:(cx==("__debug__":Str))=false:=by decide)(r:swapsWith e (some (.Name y py)) apos.line X.env=pure false:=by rfl)
  (hf:X.fn y=true\/X.env.scope.names.lookup y=some .local:=by first | exact .inl rfl | exact .inr rfl | assumption) :
  PS X (.Try [.Assign [.Name y py] e apos] [.ExceptHandler (some (.Name cx np)) none (b₀::suite) hpos] [] [] pos) (zR j C t th):=by
 intro b s σ H D I h
 refine wpAny_Try_except (wpAny_execs_cons (ū (wpAny_Assign_Name (Q:=λf g=>f=.next/\SP X b D .next g) (ū (Z b s σ H _ _ I h) (λv g ⟨y1,H1,J,K,q1⟩=>?_) λev g L=>?_) r) (λf g i=>?_) λ_ _ z=>z))
 .exact mE J U W Y K (λs2 O=>⟨ϱ,_,H1,O,q1⟩) hf
 .obtain ⟨s0,H0,ea,u,H',w,rfl,x,fl,F,G,d,q⟩:=L
  cases G
  obtain rfl:u=C:=Δ d
  exact Eb w x l P o fl hg hm tk hs q hd
 .obtain ⟨rfl,i⟩:=i
  exact Ē (Ē i)
end
open PySem.Builtin PySem.Builtin.ObjectAttr PySem.Builtin.Getset_descriptor
end L2
namespace L2
open PySem PySem.Spec PyProof.Rows
def PE.ex{X:Cx}{α:Type}{e:á}{t:α->TE}(h:∀a,PE X e (t a)):PE X e (fun σ H Q=>∃a,t a σ H Q):=by
 intro b s σ H Q I q
 obtain ⟨a,q⟩:=q
 exact h a b s σ H Q I q
section
variable {P:ê}{w:è}{K:ä}{H:Hp}{h:ã}{a b:é}{xs ys:à V}
def uU(b:HOk P w H h)(d:K.In h)(q:SqL K H a xs):∃its:ü,Vals xs its/\PlainL h a its.toArray/\xs.length<=sizeLine:=by
 rcases q with q | ⟨o,its,n,hk,hc,hd,hs,hz,r⟩
 .obtain ⟨z,its,n,r,e⟩:=q.ok b
  exact ⟨its,r,⟨_,n,e,ϱ,ϱ,ϱ⟩,z⟩
 .refine ⟨its.toList,r,⟨o,n,d a o hk,hc,hd,by simpa using hs⟩,?_⟩
  have e:=r.length
  simp only [Array.length_toList] at e
  omega
def mh(b:HOk P w H h)(d:K.In h)(q:SqT K H a xs):∃its:ü,Vals xs its/\IsTup h a its.toArray/\xs.length<=sizeLine:=by
 rcases q with q | ⟨o,its,n,hk,hc,hs,hz,r⟩
 .obtain ⟨z,its,r,p⟩:=q.ok b
  exact ⟨its,r,p,z⟩
 .refine ⟨its.toList,r,⟨o,d a o hk,hc,n,by simpa using hs⟩,?_⟩
  have e:=r.length
  simp only [Array.length_toList] at e
  omega
def uT(f:HOk P w H h)(g:K.In h)(q:SqT K H a xs)(x:SqT K H a ys):xs=ys:=by
 obtain ⟨i,r,⟨o,e,_,n,d⟩,_⟩:=mh f g q
 obtain ⟨b,u,⟨y,j,_,z,l⟩,_⟩:=mh f g x
 rw [e] at j;cases j
 rw [d] at l
 injection l with d1 _
 have:i=b:=by simpa using congrArg Array.toList d1
 subst this
 exact r.inj u
def SqU(K:ä)(H:Hp)(a:é)(xs:à V):Prop :=
 H a=some (.tup xs)\/∃(o:Obj) (its:ì) (n:Nat),K.lookup a=some o/\o.cls=.type "tuple"/\o.data=.seq its n/\its.size<=sizeLine/\Vals xs its.toList
def SqU.sq(q:SqU K H a xs):SqT K H a xs:=q.elim (λz=>.inl (.inl z)) .inr
def TSame(H H':Hp):Prop:=∀b xs,H b=some (.tup xs)->H' b=some (.tup xs)
def Same.ts{H H':Hp}(e:Same H H'):TSame H H':=λb xs h=>e b _ h
def TSame.trans{H H1 H2:Hp}(a:TSame H H1)(b:TSame H1 H2):TSame H H2:=λc xs h=>b c xs (a c xs h)
def SqU.keep{H':Hp}(e:TSame H H')(q:SqU K H a xs):SqU K H' a xs:=q.elim (λz=>.inl (e _ _ z)) .inr
end
def EqIs(K:ä)(n:Nat)(H:Hp)(x y:V)(b:Bool):Prop :=
 ∀(P:ê) (w:è) (A:æ) (s:ë) (u v:å),A.units+n<cLine->HOk P w H s.heap->K.In s.heap->RelV x u->RelV y v->SeqAt.EqAt A s u v b
def tf(K:ä)(n:Nat)(H:Hp)(x y:V)(b:Bool):Prop :=
 ∀(P:ê) (w:è) (A:æ) (s:ë) (u v:å),A.units+n<cLine->HOk P w H s.heap->K.In s.heap->RelV x u->RelV y v->SeqAt.RcAt A s u v b
def wQ(K:ä)(n:Nat)(H:Hp)(x y:V)(b:Bool):Prop :=
 ∀(P:ê) (w:è) (A:æ) (s:ë) (u v:å),A.units+n<cLine->HOk P w H s.heap->K.In s.heap->RelV x u->RelV y v->SeqAt.RcNeAt A s u v (!b)
section
variable {K:ä}{H:Hp}{a b:é}{n m:Nat}{x y:V}{r:Bool}
def EqIs.mono(h:EqIs K n H x y r)(le:n<=m):EqIs K m H x y r:=λP w A s u v hA=>h P w A s u v ω
def xc{us vs:à V}{e:Nat->Bool}(ha:SqT K H a us)(hb:SqT K H b vs)(hl:us.length=vs.length)(he:∀(j:Nat) x y,us[j]?=some x->vs[j]?=some y->EqIs K n H x y (e j)) :
  tf K (n+1) H (.ref a) (.ref b) ((List.range us.length).all e)/\wQ K (n+1) H (.ref a) (.ref b) ((List.range us.length).all e):=by
 have f:∀(P:ê) (w:è) (A:æ) (s:ë) (u v:å),A.units+(n+1)<cLine->HOk P w H s.heap->K.In s.heap->RelV (.ref a) u->RelV (.ref b) v ->
   SeqAt.RcAt A s u v ((List.range us.length).all e)/\SeqAt.RcNeAt A s u v (!(List.range us.length).all e):=by
  intro P w A s u v hA i l r1 r2
  cases r1
  cases r2
  obtain ⟨g,G,I,_⟩:=mh i l ha
  obtain ⟨h,J,L,_⟩:=mh i l hb
  have l1:=G.length
  have l2:=J.length
  have d:∀j (h1:j<g.toArray.size) (o:j<h.toArray.size),SeqAt.EqAt A.in1 s g.toArray[j] h.toArray[j] (e j):=λj h1 o=>by
   have r:j<g.length:=by simpa using h1
   have z:j<h.length:=by simpa using o
   have U:us[j]?=some us[j]:=ξ ω
   have W:vs[j]?=some vs[j]:=ξ ω
   obtain ⟨u,O,Y⟩:=G.get U
   obtain ⟨v,Q,Z⟩:=J.get W
   have q:=he j _ _ U W P w A.in1 s u v (by show A.units+1+n<cLine;omega) i l Y Z
   have z1:g.toArray[j]=u:=by
    rw [ξ r] at O
    simpa using Option.some.inj O
   have z2:h.toArray[j]=v:=by
    rw [ξ z] at Q
    simpa using Option.some.inj Q
   rw [z1,z2]
   exact q
  have X:((List.range (min g.toArray.size h.toArray.size)).all e&&g.toArray.size==h.toArray.size)=(List.range us.length).all e:=by
   have s1:g.toArray.size=us.length:=by simp [l1]
   have s2:h.toArray.size=us.length:=by simp [← l2,hl]
   rw [s1,s2,Nat.min_self]
   simp
  constructor
  .have q:=SeqAt.RcAt.tuples (A:=A) (s:=s) (e:=e) I L ω d
   rw [X] at q
   exact q
  .have q:=SeqAt.RcNeAt.tuples (A:=A) (s:=s) (e:=e) I L ω d
   rw [X] at q
   exact q
 exact ⟨λP w A s u v h1 o C D F=>(f P w A s u v h1 o C D F).1,λP w A s u v h1 o C D F=>(f P w A s u v h1 o C D F).2⟩
def oH(h:tf K n H (.ref a) (.ref b) r)(l:∀(P:ê) (w:è) (h:ã),HOk P w H h->K.In h->a=b->r=true):EqIs K n H (.ref a) (.ref b) r:=by
 intro P w A s u v j d f g i
 have q:=h P w A s u v j d f g i
 cases g
 cases i
 by_cases e:a=b
 .rw [l P w s.heap d f e,e]
  exact SeqAt.EqAt.same _
 .exact SeqAt.EqAt.of_refs e q
end
structure Cod(α:Type) [DecidableEq α] where
 n:Nat
 rp:ä->Hp->α->V->Prop
 inj:∀{P:ê} {w:è} {K:ä} {H:Hp} {h:ã} {x y:α} {v:V},HOk P w H h->K.In h->rp K H x v->rp K H y v->x=y
 eq:∀{K:ä} {H:Hp} {x y:α} {u v:V},rp K H x u->rp K H y v->EqIs K n H u v (decide (x=y))
 rc:∀{K:ä} {H:Hp} {x y:α} {u v:V},rp K H x u->rp K H y v->tf K n H u v (decide (x=y))
 ne:∀{K:ä} {H:Hp} {x y:α} {u v:V},rp K H x u->rp K H y v->wQ K n H u v (decide (x=y))
 keep:∀{K:ä} {H H':Hp} {x:α} {v:V},TSame H H'->rp K H x v->rp K H' x v
def cInt:Cod Int where
 n:=0
 rp _ _ i v:=v=.int i
 inj _ _ h1 h2:=by
  rw [h1] at h2
  exact V.int.inj h2
 eq h1 h2:=by
  intro P w A s u v _ _ _ r1 r2
  subst h1 h2
  obtain ⟨t,rfl⟩:=r1
  obtain ⟨t',rfl⟩:=r2
  rw [← Ĭ]
  exact Ĕ _ t _ t'
 rc h1 h2:=by
  intro P w A s u v _ _ _ r1 r2
  subst h1 h2
  obtain ⟨t,rfl⟩:=r1
  obtain ⟨t',rfl⟩:=r2
  rw [← Ĭ]
  exact SeqAt.RcAt.int_int _ t _ t'
 ne h1 h2:=by
  intro P w A s u v _ _ _ r1 r2
  subst h1 h2
  obtain ⟨t,rfl⟩:=r1
  obtain ⟨t',rfl⟩:=r2
  rw [← Ĭ]
  exact SeqAt.RcNeAt.int_int _ t _ t'
 keep _ h:=h
def dX(x y:Str):decide (x=y)=(x==y):=by
 rw [ł]
 simp
def cStr:Cod Str where
 n:=0
 rp _ _ i v:=v=.str i
 inj _ _ h1 h2:=by
  rw [h1] at h2
  exact V.str.inj h2
 eq h1 h2:=by
  intro P w A s u v _ _ _ r1 r2
  subst h1 h2
  obtain ⟨t,rfl⟩:=r1
  obtain ⟨t',rfl⟩:=r2
  rw [dX]
  exact SeqAt.EqAt.str_str _ t _ t'
 rc h1 h2:=by
  intro P w A s u v _ _ _ r1 r2
  subst h1 h2
  obtain ⟨t,rfl⟩:=r1
  obtain ⟨t',rfl⟩:=r2
  rw [dX]
  exact SeqAt.RcAt.str_str _ t _ t'
 ne h1 h2:=by
  intro P w A s u v _ _ _ r1 r2
  subst h1 h2
  obtain ⟨t,rfl⟩:=r1
  obtain ⟨t',rfl⟩:=r2
  rw [dX]
  exact SeqAt.RcNeAt.str_str _ t _ t'
 keep _ h:=h
section
variable {α β γ:Type} [DecidableEq α] [DecidableEq β] [DecidableEq γ]
def EX(f:β->α)(hf:∀x y,f x=f y->x=y)(c:Cod α):Cod β where
 n:=c.n
 rp K H x v:=c.rp K H (f x) v
 inj h1 h2 h3 h4:=hf _ _ (c.inj h1 h2 h3 h4)
 eq {K H x y u v} h1 h2:=by
  have e:decide (x=y)=decide (f x=f y):=Ĺ.mpr ⟨λz=>by rw [z],λz=>hf _ _ z⟩
  rw [e]
  exact c.eq h1 h2
 rc {K H x y u v} h1 h2:=by
  have e:decide (x=y)=decide (f x=f y):=Ĺ.mpr ⟨λz=>by rw [z],λz=>hf _ _ z⟩
  rw [e]
  exact c.rc h1 h2
 ne {K H x y u v} h1 h2:=by
  have e:decide (x=y)=decide (f x=f y):=Ĺ.mpr ⟨λz=>by rw [z],λz=>hf _ _ z⟩
  rw [e]
  exact c.ne h1 h2
 keep h1 h2:=c.keep h1 h2
def rT2(c:Cod α)(d:Cod β)(K:ä)(H:Hp)(x:α×β)(v:V):Prop:=∃a u w,v=.ref a/\SqU K H a [u,w]/\c.rp K H x.1 u/\d.rp K H x.2 w
def vc{c:Cod α}{d:Cod β}{P:ê}{w:è}{K:ä}{H:Hp}{h:ã}{x y:α×β}{v:V}(f:HOk P w H h)(g:K.In h)(h1:rT2 c d K H x v)(r:rT2 c d K H y v):x=y:=by
 obtain ⟨a,u,t,rfl,l,o,q⟩:=h1
 obtain ⟨b,C,D,e,hb,i,j⟩:=r
 cases e
 have z:=uT f g l.sq hb.sq
 cases z
 exact Ć (c.inj f g o i) (d.inj f g q j)
def tZ{c:Cod α}{d:Cod β}{K:ä}{H:Hp}{x y:α×β}{u v:V}(h1:rT2 c d K H x u)(w:rT2 c d K H y v) :
  tf K (max c.n d.n+1) H u v (decide (x=y))/\wQ K (max c.n d.n+1) H u v (decide (x=y)):=by
 obtain ⟨a,u,t,rfl,l,o,r⟩:=h1
 obtain ⟨b,z,C,rfl,hb,h,i⟩:=w
 have T:=xc (n:=max c.n d.n) (e:=λj=>if j=0 then decide (x.1=y.1) else decide (x.2=y.2)) l.sq hb.sq rfl (λj p q f g=>by
  match j,f,g with
  | 0,f,g=>cases f;cases g;exact (c.eq o h).mono (Nat.le_max_left _ _)
  | 1,f,g=>cases f;cases g;exact (d.eq r i).mono (Nat.le_max_right _ _))
 have e:((List.range ([u,t]:à V).length).all λj=>if j=0 then decide (x.1=y.1) else decide (x.2=y.2))=decide (x=y):=by
  show (decide (x.1=y.1)&&(decide (x.2=y.2)&&true))=decide (x=y)
  rw [Bool.and_true,← Bool.decide_and]
  exact Ĺ.mpr (Prod.ext_iff (x:=x) (y:=y)).symm
 rw [e] at T
 exact T
def cT2(c:Cod α)(d:Cod β):Cod (α×β) where
 n:=max c.n d.n+1
 rp:=rT2 c d
 inj:=vc
 rc h1 h2:=(tZ h1 h2).1
 ne h1 h2:=(tZ h1 h2).2
 eq {K H x y u v} h1 h2:=by
  have r:=(tZ h1 h2).1
  have i:=λP w h hok kin=>vc (c:=c) (d:=d) (P:=P) (w:=w) (K:=K) (H:=H) (h:=h) (x:=x) (y:=y) (v:=v) hok kin
  obtain ⟨a,_,_,rfl,_⟩:=id h1
  obtain ⟨b,_,_,rfl,_⟩:=id h2
  refine oH r λP w h hok kin e=>?_
  subst e
  exact τ (i P w h hok kin h1 h2)
 keep e h:=let ⟨a,u,w,h1,h2,h3,h4⟩:=h;⟨a,u,w,h1,h2.keep e,c.keep e h3,d.keep e h4⟩
def rT3(c:Cod α)(d:Cod β)(f:Cod γ)(K:ä)(H:Hp)(x:α×β×γ)(v:V):Prop:=∃a u w z,v=.ref a/\SqU K H a [u,w,z]/\c.rp K H x.1 u/\d.rp K H x.2.1 w/\f.rp K H x.2.2 z
def vb{c:Cod α}{d:Cod β}{f:Cod γ}{P:ê}{w:è}{K:ä}{H:Hp}{h:ã}{x y:α×β×γ}{v:V}(g:HOk P w H h)(i:K.In h)(h1:rT3 c d f K H x v)(G:rT3 c d f K H y v):x=y:=by
 obtain ⟨a,u,t,z,rfl,r,C,D,F⟩:=h1
 obtain ⟨b,I,J,L,e,hb,j,l,o⟩:=G
 cases e
 have q:=uT g i r.sq hb.sq
 cases q
 exact Ć (c.inj g i C j) (Ć (d.inj g i D l) (f.inj g i F o))
def tY{c:Cod α}{d:Cod β}{f:Cod γ}{K:ä}{H:Hp}{x y:α×β×γ}{u v:V}(h1:rT3 c d f K H x u)(F:rT3 c d f K H y v) :
  tf K (max c.n (max d.n f.n)+1) H u v (decide (x=y))/\wQ K (max c.n (max d.n f.n)+1) H u v (decide (x=y)):=by
 obtain ⟨a,u,t,z,rfl,r,w,C,D⟩:=h1
 obtain ⟨b,G,I,J,rfl,hb,i,l,o⟩:=F
 have T:=xc (n:=max c.n (max d.n f.n)) (e:=λj=>if j=0 then decide (x.1=y.1) else if j=1 then decide (x.2.1=y.2.1) else decide (x.2.2=y.2.2)) r.sq hb.sq rfl (λj p q g h=>by
  match j,g,h with
  | 0,g,h=>cases g;cases h;exact (c.eq w i).mono (Nat.le_max_left _ _)
  | 1,g,h=>cases g;cases h;exact (d.eq C l).mono (Λ (Nat.le_max_left _ _) (Nat.le_max_right _ _))
  | 2,g,h=>cases g;cases h;exact (f.eq D o).mono (Λ (Nat.le_max_right _ _) (Nat.le_max_right _ _)))
 have e:((List.range ([u,t,z]:à V).length).all λj=>if j=0 then decide (x.1=y.1) else if j=1 then decide (x.2.1=y.2.1) else decide (x.2.2=y.2.2))=decide (x=y):=by
  show (decide (x.1=y.1)&&(decide (x.2.1=y.2.1)&&(decide (x.2.2=y.2.2)&&true)))=decide (x=y)
  rw [Bool.and_true,← Bool.decide_and,← Bool.decide_and]
  refine Ĺ.mpr ⟨λz=>Ć z.1 (Ć z.2.1 z.2.2),λz=>?_⟩
  rw [z]
  exact ⟨ϱ,ϱ,ϱ⟩
 rw [e] at T
 exact T
def cT3(c:Cod α)(d:Cod β)(f:Cod γ):Cod (α×β×γ) where
 n:=max c.n (max d.n f.n)+1
 rp:=rT3 c d f
 inj:=vb
 rc h1 h2:=(tY h1 h2).1
 ne h1 h2:=(tY h1 h2).2
 eq {K H x y u v} h1 h2:=by
  have r:=(tY h1 h2).1
  have i:=λP w h hok kin=>vb (c:=c) (d:=d) (f:=f) (P:=P) (w:=w) (K:=K) (H:=H) (h:=h) (x:=x) (y:=y) (v:=v) hok kin
  obtain ⟨a,_,_,_,rfl,_⟩:=id h1
  obtain ⟨b,_,_,_,rfl,_⟩:=id h2
  refine oH r λP w h hok kin e=>?_
  subst e
  exact τ (i P w h hok kin h1 h2)
 keep e h:=let ⟨a,u,w,z,h1,h2,h3,h4,h5⟩:=h;⟨a,u,w,z,h1,h2.keep e,c.keep e h3,d.keep e h4,f.keep e h5⟩
end
section
variable {α:Type} [DecidableEq α] {K:ä}{H:Hp}
theorem _root_.PySem.Paired.get{β γ:Type}{R:β->γ->Prop}:∀{xs:à β} {us:à γ},Paired R xs us->∀{j:Nat} {u:γ},us[j]?=some u->∃x,xs[j]?=some x/\R x u
 | _,_,.nil,j,u,e=>by simp at e
 | _,_,.cons r t,0,u,e=>by simp at e;subst e;exact ⟨_,rfl,r⟩
 | _,_,.cons r t,j+1,u,e=>PySem.Paired.get t (j:=j) (by simpa using e)
theorem _root_.PySem.Paired.get1{β γ:Type}{R:β->γ->Prop}:∀{xs:à β} {us:à γ},Paired R xs us->∀{j:Nat} {x:β},xs[j]?=some x->∃u,us[j]?=some u/\R x u
 | _,_,.nil,j,u,e=>by simp at e
 | _,_,.cons r t,0,u,e=>by simp at e;subst e;exact ⟨_,rfl,r⟩
 | _,_,.cons r t,j+1,u,e=>PySem.Paired.get1 t (j:=j) (by simpa using e)
theorem _root_.PySem.Paired.len{β γ:Type}{R:β->γ->Prop}:∀{xs:à β} {us:à γ},Paired R xs us->xs.length=us.length
 | _,_,.nil=>rfl
 | _,_,.cons r t=>by simp [PySem.Paired.len t]
theorem _root_.PySem.Paired.app{β γ:Type}{R:β->γ->Prop}:∀{xs ys:à β} {us vs:à γ},Paired R xs us->Paired R ys vs->Paired R (xs++ys) (us++vs)
 | _,_,_,_,.nil,s=>s
 | _,_,_,_,.cons r t,s=>.cons r (PySem.Paired.app t s)
def qP{xs ys:à α}{n:Nat}(h1:xs.length=n)(b:ys.length=n):((List.range n).all λj=>decide (xs[j]?=ys[j]?))=decide (xs=ys):=by
 rw [ł,ě,decide_eq_true_eq]
 constructor
 .intro h
  apply List.ext_getElem?
  intro i
  by_cases hi:i<n
  .exact Ξ (h i (ŗ.mpr hi))
  .rw [List.getElem?_eq_none ω,List.getElem?_eq_none ω]
 .intro h i _
  rw [h]
  exact τ rfl
def yS{c:Cod α}{a b:é}{us vs:à V}{xs ys:à α}(ha:SqL K H a us)(hb:SqL K H b vs)(px:Paired (c.rp K H) xs us)(py:Paired (c.rp K H) ys vs) :
  tf K (c.n+1) H (.ref a) (.ref b) (decide (xs=ys))/\wQ K (c.n+1) H (.ref a) (.ref b) (decide (xs=ys)):=by
 have f:∀(P:ê) (w:è) (A:æ) (s:ë) (u v:å),A.units+(c.n+1)<cLine->HOk P w H s.heap->K.In s.heap->RelV (.ref a) u->RelV (.ref b) v ->
   SeqAt.RcAt A s u v (decide (xs=ys))/\SeqAt.RcNeAt A s u v (!decide (xs=ys)):=by
  intro P w A s u v hA h i r1 r2
  cases r1
  cases r2
  obtain ⟨g,O,C,_⟩:=uU h i ha
  obtain ⟨l,Q,D,_⟩:=uU h i hb
  have l1:=O.length
  have l2:=Q.length
  have m1:=px.len
  have m2:=py.len
  by_cases hl:g.length=l.length
  .have d:∀j (h1:j<g.toArray.size) (o:j<l.toArray.size),SeqAt.EqAt A.in1 s g.toArray[j] l.toArray[j] (decide (xs[j]?=ys[j]?)):=λj h1 o=>by
    have F:j<g.length:=by simpa using h1
    have G:j<l.length:=by simpa using o
    have X:us[j]?=some us[j]:=ξ ω
    have Y:vs[j]?=some vs[j]:=ξ ω
    obtain ⟨u,U,ru⟩:=O.get X
    obtain ⟨v,W,rv⟩:=Q.get Y
    obtain ⟨x,ex,rx⟩:=px.get X
    obtain ⟨y,ey,ry⟩:=py.get Y
    have q:=c.eq rx ry P w A.in1 s u v (by show A.units+1+c.n<cLine;omega) h i ru rv
    have z1:g.toArray[j]=u:=by
     rw [ξ F] at U
     simpa using Option.some.inj U
    have z2:l.toArray[j]=v:=by
     rw [ξ G] at W
     simpa using Option.some.inj W
    rw [z1,z2,ex,ey]
    have e:decide ((some x:Option α)=some y)=decide (x=y):=Ĺ.mpr ⟨λz=>Δ z,λz=>by rw [z]⟩
    rw [e]
    exact q
   have Z:(List.range g.toArray.size).all (λj=>decide (xs[j]?=ys[j]?))=decide (xs=ys):=qP (by rw [ŵ];omega) (by rw [ŵ];omega)
   constructor
   .have q:=SeqAt.RcAt.lists (A:=A) (s:=s) C.isList D.isList (by simpa using hl) ω d
    rw [Z] at q
    exact q
   .have q:=SeqAt.RcNeAt.lists (A:=A) (s:=s) C.isList D.isList (by simpa using hl) ω d
    rw [Z] at q
    exact q
  .have r:(g.toArray.size != l.toArray.size)=true:=by simpa using hl
   have e:decide (xs=ys)=false:=Γ λz=>hl (by rw [← l1,← l2,← m1,← m2,z])
   rw [e]
   exact ⟨SeqAt.RcAt.lists_lengths C.isList D.isList r ω,SeqAt.RcNeAt.lists_lengths C.isList D.isList r ω⟩
 exact ⟨λP w A s u v h1 o I J L=>(f P w A s u v h1 o I J L).1,λP w A s u v h1 o I J L=>(f P w A s u v h1 o I J L).2⟩
end
section
variable {X:Cx}{α:Type} [DecidableEq α]
def hun{c:Nat}{k:Nat}{A:æ}(b:Room k A)(h:c<=60:=by decide):A.units+c+1<cLine:=by
 have:=b.units
 omega
def yc(c:Cod α)(i:X.A.units+c.n+1<cLine):OpR X (compareOp .Eq) (λx y H Q=>∃a b,c.rp X.K H a x/\c.rp X.K H b y/\Q (.bl (decide (a=b))) H):=by
 intro d s σ H x y v u Q I f g h
 obtain ⟨a,b,e,hb,q⟩:=h
 exact c.rc e hb X.prog X.w X.A s v u ω I.hok I.kIn f g X.prog X.w X.xe _ ⟨.bl _,H,I,ϱ,q⟩
def uc(c:Cod α)(i:X.A.units+c.n+1<cLine):OpR X (compareOp .NotEq) (λx y H Q=>∃a b,c.rp X.K H a x/\c.rp X.K H b y/\Q (.bl (!decide (a=b))) H):=by
 intro d s σ H x y v u Q I f g h
 obtain ⟨a,b,e,hb,q⟩:=h
 exact c.ne e hb X.prog X.w X.A s v u ω I.hok I.kIn f g X.prog X.w X.xe _ ⟨.bl _,H,I,ϱ,q⟩
def wR(c:Cod α)(K:ä)(H:Hp)(xs:à α)(v:V):Prop:=∃a us,v=.ref a/\SqL K H a us/\Paired (c.rp K H) xs us
def qW(c:Cod α)(o:X.A.units+c.n+1<cLine):OpR X (compareOp .Eq) (λx y H Q=>∃xs ys,wR c X.K H xs x/\wR c X.K H ys y/\Q (.bl (decide (xs=ys))) H):=by
 intro d s σ H x y v u Q I i j h
 obtain ⟨xs,ys,⟨a,l,rfl,e,f⟩,⟨b,vs,rfl,hb,g⟩,q⟩:=h
 exact (yS e hb f g).1 X.prog X.w X.A s v u ω I.hok I.kIn i j X.prog X.w X.xe _ ⟨.bl _,H,I,ϱ,q⟩
def Cr(c:Cod α)(o:X.A.units+c.n+1<cLine):OpR X (compareOp .NotEq) (λx y H Q=>∃xs ys,wR c X.K H xs x/\wR c X.K H ys y/\Q (.bl (!decide (xs=ys))) H):=by
 intro d s σ H x y v u Q I i j h
 obtain ⟨xs,ys,⟨a,l,rfl,e,f⟩,⟨b,vs,rfl,hb,g⟩,q⟩:=h
 exact (yS e hb f g).2 X.prog X.w X.A s v u ω I.hok I.kIn i j X.prog X.w X.xe _ ⟨.bl _,H,I,ϱ,q⟩
noncomputable def eqR(c:Cod α)(K:ä)(H:Hp)(a:α)(u:å):Bool:=@decide (∃v,RelV v u/\c.rp K H a v) (Classical.propDecidable _)
def zj{c:Cod α}{P:ê}{w:è}{K:ä}{H:Hp}{h:ã}{a z:α}{v:V}{u:å}(b:HOk P w H h)(d:K.In h)(r:RelV v u)(q:c.rp K H z v):eqR c K H a u=decide (z=a):=by
 unfold eqR
 by_cases e:z=a
 .subst e
  rw [τ (show z=z from rfl)]
  exact @decide_eq_true _ (Classical.propDecidable _) ⟨v,r,q⟩
 .rw [Γ e]
  refine @decide_eq_false _ (Classical.propDecidable _) λ⟨i,f,g⟩=>e ?_
  have:=r.inj f
  subst this
  exact c.inj b d q g
theorem jV{c:Cod α}{P:ê}{w:è}{K:ä}{H:Hp}{h:ã}{a:α}(hok:HOk P w H h)(kin:K.In h):∀{xs:à α} {us:à V} {its:ü},Paired (c.rp K H) xs us->Vals us its->its.any (eqR c K H a)=decide (a∈xs)
 | _,_,_,.nil,.nil=>by simp
 | x::xs,_,_,.cons p t,.cons r s=>by
  rw [List.any_cons,zj hok kin r p,jV hok kin t s,ł]
  simp only [Bool.or_eq_true,decide_eq_true_eq,List.mem_cons]
  exact ⟨λz=>z.elim (λe=>.inl e.symm) .inr,λz=>z.elim (λe=>.inl e.symm) .inr⟩
theorem jJ{c:Cod α}{P:ê}{w:è}{A:æ}{s:ë}{K:ä}{H:Hp}{a:α}{x:V}{v:å}(hok:HOk P w H s.heap)(kin:K.In s.heap)(hA:A.units+c.n<cLine)(rx:RelV x v)(qx:c.rp K H a x) :
  ∀{xs:à α} {us:à V} {its:ü},Paired (c.rp K H) xs us->Vals us its->∀u∈its,SeqAt.EqAt A s u v (eqR c K H a u)
 | _,_,_,.nil,.nil=>λu hu=>by cases hu
 | _,_,_,.cons p t,.cons r q=>λu' hu=>by
  rcases ϕ.mp hu with rfl | hu
  .rw [zj hok kin r p]
   exact c.eq p qx P w A s _ v hA hok kin r rx
  .exact jJ hok kin hA rx qx t q u' hu
def EK(c:Cod α)(K:ä):R2:=λx y H Q=>∃a p us xs,c.rp K H a x/\y=.ref p/\(SqL K H p us\/SqT K H p us)/\Paired (c.rp K H) xs us/\Q (.bl (decide (a∈xs))) H
def Br(c:Cod α)(K:ä):R2:=λx y H Q=>∃a p us xs,c.rp K H a x/\y=.ref p/\(SqL K H p us\/SqT K H p us)/\Paired (c.rp K H) xs us/\Q (.bl (!decide (a∈xs))) H
def ud(c:Cod α)(D:X.A.units+c.n+1<cLine):OpR X (compareOp .In) (EK c X.K):=by
 intro i s σ H x y v u Q I j o h
 obtain ⟨a,p,z,C,g,rfl,hq,d,q⟩:=h
 cases o
 rcases hq with hq | hq
 .obtain ⟨b,r,e,l⟩:=I.list hq
  refine SeqAt.in_listAt (eqR c X.K H a) e.isList (λw f=>jJ I.hok I.kIn (by show X.A.units+1+c.n<cLine;omega) j g d r w (by simpa using f)) ⟨.bl _,H,I,ϱ,?_⟩
  rw [show b.toArray.any (eqR c X.K H a)=b.any (eqR c X.K H a) by simp,jV I.hok I.kIn d r]
  exact q
 .obtain ⟨b,r,e,l⟩:=I.tuple hq
  refine SeqAt.in_tupleAt (eqR c X.K H a) e (λw f=>jJ I.hok I.kIn (by show X.A.units+1+c.n<cLine;omega) j g d r w (by simpa using f)) ⟨.bl _,H,I,ϱ,?_⟩
  rw [show b.toArray.any (eqR c X.K H a)=b.any (eqR c X.K H a) by simp,jV I.hok I.kIn d r]
  exact q
def iQ(c:Cod α)(D:X.A.units+c.n+1<cLine):OpR X (compareOp .NotIn) (Br c X.K):=by
 intro i s σ H x y v u Q I j o h
 obtain ⟨a,p,z,C,g,rfl,hq,d,q⟩:=h
 cases o
 rcases hq with hq | hq
 .obtain ⟨b,r,e,l⟩:=I.list hq
  refine SeqAt.notIn_listAt (eqR c X.K H a) e.isList (λw f=>jJ I.hok I.kIn (by show X.A.units+1+c.n<cLine;omega) j g d r w (by simpa using f)) ⟨.bl _,H,I,ϱ,?_⟩
  rw [show b.toArray.any (eqR c X.K H a)=b.any (eqR c X.K H a) by simp,jV I.hok I.kIn d r]
  exact q
 .obtain ⟨b,r,e,l⟩:=I.tuple hq
  refine SeqAt.notIn_tupleAt (eqR c X.K H a) e (λw f=>jJ I.hok I.kIn (by show X.A.units+1+c.n<cLine;omega) j g d r w (by simpa using f)) ⟨.bl _,H,I,ϱ,?_⟩
  rw [show b.toArray.any (eqR c X.K H a)=b.any (eqR c X.K H a) by simp,jV I.hok I.kIn d r]
  exact q
end
def sK(K:ä):TG:=λv σ H Q=>∃a x y,v=.ref a/\SqT K H a [x,y]/\Q ((σ.set 0 (some x)).set 1 (some y)) H
def Aa{X:Cx}{x y:Str}{k:Nat}{h i pos:Pos}(j:X.calm=true)(nd:X.N.Nodup)(h0:X.N[0]?=some x)(h1:X.N[1]?=some y)(d:X.env.scope.names.lookup x=some .local)(e:X.env.scope.names.lookup y=some .local) :
  PG X (.Tuple [.Name x h,.Name y i] k pos) (sK X.K):=by
 intro b s σ H v u Q I r q
 obtain ⟨a,z,t,f,g,q⟩:=q
 exact (xQ (n:=2) j (ir (bU nd h0 (.inl d) (.inr d)) (ir (bU nd h1 (.inl e) (.inr e)) ve))) b s σ H v u Q I r ⟨a,[z,t],f,g,ϱ,z,[t],ϱ,t,[],ϱ,ϱ,q⟩
def zi{b:ø}{σ:St}{x y:V}:Ext (bv 2 b σ) (((bv 2 b σ).set 0 (some x)).set 1 (some y)):=by
 refine ⟨by simp,λj v e=>?_⟩
 match j,e with
 | 0,e=>cases (Δ e)
 | 1,e=>cases (Δ e)
 | j+2,e=>exact e
def Ba{fv:ø}{σ:St}{x y:V}:((bv 2 fv σ).set 0 (some x)).set 1 (some y)=some x::some y::cn fv σ:=rfl
section
variable {X:Cx}
def sU(hc:X.calm=true):du X (.builtin "any") (λxs H Q=>∃(p:é) (bs:à Bool),xs=[.ref p]/\SqL X.K H p (bs.map V.bl)/\Q (.bl (bs.any id)) H):=by
 intro D s σ H xs us Q I r h
 obtain ⟨p,bs,rfl,F,q⟩:=h
 obtain ⟨u,rfl,G⟩:=dm r
 cases (show u=Value.ref p from G)
 obtain ⟨d,z,J,hz⟩:=I.list F
 have w:=J.isList
 have x:p<s.heap.objs.size:=by obtain ⟨_,e,_⟩:=w;exact η e
 have O:X.A.handled=none:=I.ok.hd hc
 have g:bs.length=d.length:=by have:=z.length;rw [ν] at this;exact this
 refine call_any_walk (wpAny_pyIter_list w ?_)
 refine ⟨s.heap.objs.size,[s.heap.objs.size,p],[s.heap.objs.size],d.toArray.size,_,_,λi=>(bs[i]?).getD false,ϱ,Walks.list (A:=X.A.in1) O _ p (Φ x) d.toArray,
  ⟨⟨_,ψ _ rfl,ϱ,ϱ⟩,w.push _⟩,λi v P U E' W Y=>?_,λh' tk Z=>?_⟩
 .have j:d[i]?=some v:=by simpa using W
  have f:i<d.length:=(ż.mp j).1
  have hb:(bs.map V.bl)[i]?=some (V.bl (bs[i]'(ω))):=by rw [Ż,ξ ω];rfl
  obtain ⟨u',C,L⟩:=z.get hb
  rw [j] at C
  cases C
  cases (show v=Value.bool _ from L)
  have l:U ((bs[i]?).getD false) P:=Y
  rw [ξ ω] at l
  exact Ŕ l
 .have e:((List.range d.toArray.size).any λi=>(bs[i]?).getD false)=bs.any id:=by
   rw [ŵ,← g,ł,List.any_eq_true,List.any_eq_true]
   constructor
   .rintro ⟨i,f,hb⟩
    have o:=ŗ.mp f
    rw [ξ o] at hb
    exact ⟨bs[i],List.getElem_mem o,hb⟩
   .rintro ⟨b,hb,y⟩
    obtain ⟨i,f,e⟩:=List.getElem_of_mem hb
    refine ⟨i,ŗ.mpr f,?_⟩
    rw [ξ f,e]
    exact y
  rw [e]
  exact ⟨.bl _,H,I.kept (LSm.kept_iter Z),ϱ,q⟩
def zx:KTD.Dat->å->Bool
 | .flat d,v=>KTD.flatLooks d v
 | _,_=>false
theorem A5{h:ã}:∀(d:KTD.Dat) (v:å),zx d v=true->d.At h v
 | .flat d,v,e=>KTD.flat_of_looks (d:=d) e
 | .float _,_,e=>by cases e
 | .nums _,_,e=>by cases e
 | .words _,_,e=>by cases e
 | .tup _,_,e=>by cases e
 | .tab _,_,e=>by cases e
def TabK(K:ä)(a:é)(D:à (Str×KTD.Dat)):Prop:=KTD.tabLook zx (λb=>K.lookup b) a D=true
def TabK.at{K:ä}{a:é}{D:à (Str×KTD.Dat)}{h:ã}(t:TabK K a D)(kin:K.In h):KTD.TextTab h a D:=KTD.tab_of_look A5 (λa o e=>kin a o e) t
theorem rg{h₀:ã}{k:Str}{Pr:å->Prop}:∀{D:à (Str×KTD.Dat)} {d:KTD.Dat},KTD.datumAt k D=some d->KTD.Opened h₀ Pr d->KTD.EachL h₀ k Pr D
 | [],_,e,_=>by cases e
 | (x,d')::D,d,e,o=>by
  have e':(if decide (k=x)=true then some d' else KTD.datumAt k D)=some d:=e
  by_cases hx:k=x
  .rw [Ź (τ hx)] at e'
   cases e'
   exact KTD.eachL_hit hx o
  .rw [if_neg (by simp [hx])] at e'
   exact KTD.eachL_miss hx (rg e' o)
def vt{D:à (Str×KTD.Dat)}:IxR X (λx y H Q=>∃a k i,x=.ref a/\y=.str k/\TabK X.K a D/\KTD.datumAt k D=some (.flat (.int i))/\(D.all λp=>KTD.plain p.2)=true/\Q (.int i) H):=by
 intro b d g s σ H x y v u Q I o r h w
 obtain ⟨a,k,i,rfl,rfl,j,f,l,q⟩:=h
 cases o
 obtain ⟨t,rfl⟩:=r
 refine KTD.item_textA (h₀:=s.heap) ⟨j.at I.kIn,λ_ _ e=>e⟩ l ?_ ?_ w
 .rw [← KTD.isSome_datumAt,f];rfl
 .exact rg f (KTD.opened_int λz=>⟨.int i,H,I.tok _,⟨_,ϱ⟩,q⟩)
end
section
variable {X:Cx}{α:Type} [DecidableEq α]
def pfK(K:ä)(i:Nat){x f:Str}{b pos:Pos}(e:X.K=K:=by rfl)(g:X.N[i]?=some x:=by rfl)(h:Vis X.env.scope x:=by first | exact Or.inl rfl | exact Or.inr (Or.inl rfl) | exact Or.inr (Or.inr rfl))(j:(x==("__debug__":Str))=false:=by decide)
  (d:(x==("__classdict__":Str))=false:=by decide)(hb:attributeBase (.Name x b) f X.env (eval (.Name x b) X.env)=eval (.Name x b) X.env:=by rfl):PE X (.Attribute (.Name x b) f pos) (vX K (qq i) f):=by
 subst e
 exact au (ua g h j d) hb
def jD(K:ä){x y:Str}{k:Nat}{b d pos:Pos}(e:X.calm=true)(nd:X.N.Nodup)(h0:X.N[0]?=some x)(h1:X.N[1]?=some y)(f:X.env.scope.names.lookup x=some .local)(g:X.env.scope.names.lookup y=some .local)(h:X.K=K:=by rfl) :
  PG X (.Tuple [.Name x b,.Name y d] k pos) (sK K):=by
 subst h
 exact Aa e nd h0 h1 f g
def vq(K:ä)(c:Cod α)(d:X.A.units+c.n+1<cLine)(e:X.K=K:=by rfl):OpR X (compareOp .Eq) (λx y H Q=>∃a b,c.rp K H a x/\c.rp K H b y/\Q (.bl (decide (a=b))) H):=by
 subst e
 exact yc c d
def vm(K:ä)(c:Cod α)(d:X.A.units+c.n+1<cLine)(e:X.K=K:=by rfl):OpR X (compareOp .NotEq) (λx y H Q=>∃a b,c.rp K H a x/\c.rp K H b y/\Q (.bl (!decide (a=b))) H):=by
 subst e
 exact uc c d
def ub(K:ä)(c:Cod α)(b:X.A.units+c.n+1<cLine)(d:X.K=K:=by rfl):OpR X (compareOp .NotIn) (Br c K):=by
 subst d
 exact iQ c b
end
structure GF(P:ê)(w:è)(K:ä)(mg:ā)(base:ã)(CX:CXT)(k:Nat)(x:Str)(ps:ú)(sp:Sp) where
 f:é
 fd:ç
 ok:FnOk P w K mg base CX k f fd ps sp
 bd:Binds K fd ps []
 kp:PySem.W.keepIn K (.ref f)=true
 mgx:mg x=some (.ref f)
structure GM(P:ê)(w:è)(K:ä)(mg:ā)(base:ã)(CX:CXT)(k:Nat)(C:é)(m:Str)(ps:ú)(sp:Sp) where
 f:é
 fd:ç
 ok:FnOk P w K mg base CX k f fd ps sp
 bd:Binds K fd ps []
 me:i9 K C m f
section
variable {X:Cx}{CX:CXT}{j k:Nat}{x m:Str}{ps:ú}{sp:Sp}{E:XK}{p pos apos:Pos}{e o:á}{es:õ}{t:TA}{ta:TE}{C:é}
def pc(G:GF X.prog X.w X.K X.mg X.base CX j x ps sp)(hr:Room k X.A)(ha:PA X (e::es) t)(hx:dO CX X E:=by exact be)(hk:j<=k:=by decide)(hg:Gl X x:=by rfl)
  (hdb:(x==("__debug__":Str))=false:=by decide)(he:starEach (e::es) X.env=(false,eval e X.env)::starEach es X.env:=by rfl)(hpl:(backTo pos (starEach es X.env)).any (·.1)=false:=by rfl) :
  PE X (.Call (.Name x p) (e::es) [] pos) (xm sp [] E t):=vh G.ok (hr.mono hk) hg G.mgx G.kp G.bd .nil hx ha hdb he hpl
def pm{pl:Sem Bool}(G:GM X.prog X.w X.K X.mg X.base CX j C m ps sp)(ho:PE X o ta)(cl:Cls X.K C)(hr:Room k X.A)(ha:PA X (e::es) t)(hx:dO CX X E:=by exact be)(hk:j<=k:=by decide)
  (hst:starEach (e::es) X.env=(false,eval e X.env)::starEach es X.env:=by rfl)(hpl:(backTo pos (starEach es X.env)).any (·.1)=false:=by rfl)
  (ht:eval (.Call (.Attribute o m apos) (e::es) [] pos) X.env=(do
   let ov ← eval o X.env
   standAt apos.atName
   let (f,first) ← holding [ov] (getMethod ov m pl)
   callWith pos f first (backTo pos (starEach (e::es) X.env)) (backToKw pos (keywordEach [] X.env))):=by rfl) :
  PE X (.Call (.Attribute o m apos) (e::es) [] pos) (uO C m sp [] E ta t):=jF ho cl G.me G.ok (hr.mono hk) G.bd .nil hx ha hst hpl ht
def pm0{pl:Sem Bool}(G:GM X.prog X.w X.K X.mg X.base CX j C m ps sp)(ho:PE X o ta)(cl:Cls X.K C)(hr:Room k X.A)(hx:dO CX X E:=by exact be)(hk:j<=k:=by decide)
  (ht:eval (.Call (.Attribute o m apos) [] [] pos) X.env=(do
   let ov ← eval o X.env
   standAt apos.atName
   let (f,first) ← holding [ov] (getMethod ov m pl)
   callWith pos f first (backTo pos (starEach [] X.env)) (backToKw pos (keywordEach [] X.env))):=by rfl) :
  PE X (.Call (.Attribute o m apos) [] [] pos) (uO C m sp [] E ta tG):=jE ho cl G.me G.ok (hr.mono hk) G.bd .nil hx ht
end
section
variable {K:ä}{a:é}{xs:à V}{tt:TT}{te:TE}{bl:St}{Fin:à V->Hp->Prop}{H:Hp}
def e8(b:Nat->à V->Hp->Prop)(h0:b 0 [] H)(h:xs.length<=sizeLine)(j:∀i ys H,i<=xs.length->b i ys H->SqL K H a xs)
  (l:∀i x ys H,xs[i]?=some x->b i ys H->tt (some x::bl) H λc H2=>if c=true then te (some x::bl) H2 λy H3=>b (i+1) (ys++[y]) H3 else b (i+1) ys H2)
  (o:∀ys H,b xs.length ys H->Fin ys H) :
  ∃(W:Nat->à V->Hp->Prop) (n:Nat),W 0 [] H/\n<=sizeLine/\∀i ys H,W i ys H->((Itl K a).stop i H/\Fin ys H) \/
   ((Itl K a).go i H/\i<n/\∀x H',(Itl K a).yld i H x H'->tt (some x::bl) H' λc H2=>if c=true then te (some x::bl) H2 λy H3=>W (i+1) (ys++[y]) H3 else W (i+1) ys H2):=by
 refine ⟨λi ys H=>i<=xs.length/\b i ys H,xs.length,⟨ϖ _,h0⟩,h,?_⟩
 rintro i ys H ⟨g,p⟩
 have q:=j i ys H g p
 by_cases hlt:i<xs.length
 .refine .inr ⟨⟨xs,xs[i],q,by simp [hlt]⟩,hlt,λx H' y=>?_⟩
  obtain ⟨e,y⟩:=y
  subst e
  have z:=l i x ys _ (y xs q) p
  have d:(λ(c:Bool) (H2:Hp)=>if c=true then te (some x::bl) H2 λy H3=>i+1<=xs.length/\b (i+1) (ys++[y]) H3 else i+1<=xs.length/\b (i+1) ys H2)=λc H2=>if c=true then te (some x::bl) H2 λy H3=>b (i+1) (ys++[y]) H3 else b (i+1) ys H2:=by
   have f:(i+1<=xs.length)=True:=eq_true hlt
   funext c H2
   simp only [f,true_and]
  show tt _ _ _
  rw [d]
  exact z
 .have e:i=xs.length:=by omega
  subst e
  exact .inl ⟨⟨xs,q,ι _⟩,o ys H p⟩
def jr{σ:St}{A B:Hp->Prop}(h:A H):B0 σ H (λc H2=>if c=true then A H2 else B H2):=by
 show if true=true then A H else B H
 exact @cr (A H) (B H) h
def pV{lo:Int}{n:Nat}(b:Nat->à V->Hp->Prop)(h0:b 0 [] H)(g:n<=sizeLine)
  (h:∀(i:Nat) ys H,i<n->b i ys H->tt (some (.int (lo+i))::bl) H λc H2=>if c=true then te (some (.int (lo+i))::bl) H2 λy H3=>b (i+1) (ys++[y]) H3 else b (i+1) ys H2)
  (j:∀ys H,b n ys H->Fin ys H) :
  ∃(W:Nat->à V->Hp->Prop) (m:Nat),W 0 [] H/\m<=sizeLine/\∀i ys H,W i ys H->((Itr lo n).stop i H/\Fin ys H) \/
   ((Itr lo n).go i H/\i<m/\∀x H',(Itr lo n).yld i H x H'->tt (some x::bl) H' λc H2=>if c=true then te (some x::bl) H2 λy H3=>W (i+1) (ys++[y]) H3 else W (i+1) ys H2):=by
 refine ⟨λi ys H=>i<=n/\b i ys H,n,⟨ϖ _,h0⟩,g,?_⟩
 rintro i ys H ⟨l,p⟩
 by_cases hlt:i<n
 .refine .inr ⟨hlt,hlt,λx H' y=>?_⟩
  obtain ⟨e,y⟩:=y
  subst e
  subst y
  have z:=h i ys _ hlt p
  have d:(λ(c:Bool) (H2:Hp)=>if c=true then te (some (.int (lo+i))::bl) H2 λy H3=>i+1<=n/\b (i+1) (ys++[y]) H3 else i+1<=n/\b (i+1) ys H2)=λc H2=>if c=true then te (some (.int (lo+i))::bl) H2 λy H3=>b (i+1) (ys++[y]) H3 else b (i+1) ys H2:=by
   have f:(i+1<=n)=True:=eq_true hlt
   funext c H2
   simp only [f,true_and]
  show tt _ _ _
  rw [d]
  exact z
 .have e:i=n:=by omega
  subst e
  exact .inl ⟨ι _,j ys H p⟩
def jN{n:Nat}(Pv:Nat->à V->Hp->Prop)(h0:Pv 0 [] H)(hn:n<=sizeLine)
  (hs:∀(i:Nat) ys H,i<n->Pv i ys H->tt (some (.int i)::bl) H λc H2=>if c=true then te (some (.int i)::bl) H2 λy H3=>Pv (i+1) (ys++[y]) H3 else Pv (i+1) ys H2)
  (hd:∀ys H,Pv n ys H->Fin ys H) :
  ∃(W:Nat->à V->Hp->Prop) (m:Nat),W 0 [] H/\m<=sizeLine/\∀i ys H,W i ys H->((Itr 0 n).stop i H/\Fin ys H) \/
   ((Itr 0 n).go i H/\i<m/\∀x H',(Itr 0 n).yld i H x H'->tt (some x::bl) H' λc H2=>if c=true then te (some x::bl) H2 λy H3=>W (i+1) (ys++[y]) H3 else W (i+1) ys H2) :=
 pV (lo:=0) Pv h0 hn (λi ys H hi p=>by rw [Int.zero_add];exact hs i ys H hi p) hd
def AM{σ:St}{f:ø}(d:Nat->à V->Hp->Prop)(h0:d 0 [] H)(l:xs.length<=sizeLine)(o:∀i ys H,i<=xs.length->d i ys H->SqL K H a xs)
  (r:∀i x ys H,xs[i]?=some x->d i ys H->∃b u w,x=.ref b/\SqT K H b [u,w]/\tt (some u::some w::cn f σ) H λc H2=>if c=true then te (some u::some w::cn f σ) H2 λy H3=>d (i+1) (ys++[y]) H3 else d (i+1) ys H2)
  (C:∀ys H,d xs.length ys H->Fin ys H) :
  ∃(W:Nat->à V->Hp->Prop) (n:Nat),W 0 [] H/\n<=sizeLine/\∀i ys H,W i ys H->((Itl K a).stop i H/\Fin ys H) \/
   ((Itl K a).go i H/\i<n/\∀x H',(Itl K a).yld i H x H'->sK K x (bv 2 f σ) H' fun σ' H''=>Ext (bv 2 f σ) σ'/\tt σ' H'' λc H2=>if c=true then te σ' H2 λy H3=>W (i+1) (ys++[y]) H3 else W (i+1) ys H2):=by
 refine ⟨λi ys H=>i<=xs.length/\d i ys H,xs.length,⟨ϖ _,h0⟩,l,?_⟩
 rintro i ys H ⟨j,p⟩
 have q:=o i ys H j p
 by_cases hlt:i<xs.length
 .refine .inr ⟨⟨xs,xs[i],q,by simp [hlt]⟩,hlt,λx H' y=>?_⟩
  obtain ⟨e,y⟩:=y
  subst e
  obtain ⟨b,u,w,ex,hb,z⟩:=r i x ys _ (y xs q) p
  have g:(λ(c:Bool) (H2:Hp)=>if c=true then te (some u::some w::cn f σ) H2 λy H3=>i+1<=xs.length/\d (i+1) (ys++[y]) H3 else i+1<=xs.length/\d (i+1) ys H2)=λc H2=>if c=true then te (some u::some w::cn f σ) H2 λy H3=>d (i+1) (ys++[y]) H3 else d (i+1) ys H2:=by
   have h:(i+1<=xs.length)=True:=eq_true hlt
   funext c H2
   simp only [h,true_and]
  refine ⟨b,u,w,ex,hb,zi,?_⟩
  rw [Ba]
  show tt _ _ _
  rw [g]
  exact z
 .have e:i=xs.length:=by omega
  subst e
  exact .inl ⟨⟨xs,q,ι _⟩,C ys H p⟩
end
end L2
namespace Lo
open PySem L2
inductive Kd where
 | read | mean | change
 deriving DecidableEq
def kdS:Kd->Str
 | .read=>"read"
 | .mean=>"mean"
 | .change=>"change"
def B9:¬(("read":Str)="mean"):=by decide +kernel
def Ca:¬(("read":Str)="change"):=by decide +kernel
def Cb:¬(("mean":Str)="change"):=by decide +kernel
theorem AT:∀x y,kdS x=kdS y->x=y
 | .read,.read,_=>rfl
 | .mean,.mean,_=>rfl
 | .change,.change,_=>rfl
 | .read,.mean,h=>absurd h B9
 | .read,.change,h=>absurd h Ca
 | .mean,.change,h=>absurd h Cb
 | .mean,.read,h=>absurd h.symm B9
 | .change,.read,h=>absurd h.symm Ca
 | .change,.mean,h=>absurd h.symm Cb
def tX:Kd->Int
 | .read=>0
 | .mean=>1
 | .change=>2
abbrev Lk:=Kd×Int×Int
abbrev Pa:=Int×Int
abbrev Pr:=Pa×Lk
def u4:Kd->Kd->Bool
 | .read,.read=>true
 | .read,.mean=>true
 | .mean,.read=>true
 | _,_=>false
def cq(a b:Lk):Bool:=(decide (a.2.2<b.2.1)||decide (b.2.2<a.2.1))||u4 a.1 b.1
def cT(a b:Lk):Bool:=(decide (a.2.1<=b.2.1)&&decide (b.2.2<=a.2.2))&&decide (tX b.1<=tX a.1)
def vZ(a b:Kd):decide ((kdS a,kdS b)∈([("read","read"),("read","mean"),("mean","read")]:à (Str×Str)))=u4 a b:=by
 cases a<;>cases b<;>decide +kernel
def tT(a b:Kd)(i:Decidable ((kdS a,kdS b)∈([("read","read"),("read","mean"),("mean","read")]:à (Str×Str)))):@decide _ i=u4 a b:=(Ĺ.mpr Iff.rfl).trans (vZ a b)
def xg(k:Lk):Str×Int×Int:=(kdS k.1,k.2)
def vV:∀x y,xg x=xg y->x=y:=λx y h=>by
 obtain ⟨a,b⟩:=x
 obtain ⟨c,d⟩:=y
 have h1:=congrArg Prod.fst h
 have h2:=congrArg Prod.snd h
 exact Ć (AT _ _ h1) h2
def cLk:Cod Lk:=EX xg vV (cT3 cStr cInt cInt)
def cPa:Cod Pa:=cT2 cInt cInt
def cPr:Cod Pr:=cT2 cPa cLk
def uF{K:ä}{H:Hp}{a:é}{k:Lk}(h:H a=some (.tup [.str (kdS k.1),.int k.2.1,.int k.2.2])):cLk.rp K H k (.ref a):=⟨a,_,_,_,ϱ,.inl h,ϱ,ϱ,ϱ⟩
def cG{K:ä}{H:Hp}{a:é}{k:Pa}(h:H a=some (.tup [.int k.1,.int k.2])):cPa.rp K H k (.ref a):=⟨a,_,_,ϱ,.inl h,ϱ,ϱ⟩
def zG{K:ä}{H:Hp}{a:é}{u v:V}{k:Pr}(h:H a=some (.tup [u,v]))(h1:cPa.rp K H k.1 u)(h2:cLk.rp K H k.2 v):cPr.rp K H k (.ref a):=⟨a,u,v,ϱ,.inl h,h1,h2⟩
def Fix(CL:é):HO->Prop
 | .tup _=>True
 | .ins C _ _=>C≠CL
 | _=>False
def FSame(CL:é)(H H':Hp):Prop:=∀b o,H b=some o->Fix CL o->H' b=some o
def FSame.ts{CL:é}{H H':Hp}(h:FSame CL H H'):TSame H H':=λb xs e=>h b _ e ϰ
def bO{CL:é}{H H':Hp}(h:Same H H'):FSame CL H H':=λb o e _=>h b o e
def FSame.trans{CL:é}{H H1 H2:Hp}(a:FSame CL H H1)(b:FSame CL H1 H2):FSame CL H H2:=λc o e f=>b c o (a c o e f) f
def af{H:Hp}{p:é}{o:HO}(h:H p=none):Same H (upd H p o):=λb u e=>by
 rw [am (aq e h)]
 exact e
def Kp(p:é)(H H':Hp):Prop:=∀b o,b≠p->H b=some o->H' b=some o
def Kp.of{p:é}{H H':Hp}(h:Same H H'):Kp p H H':=λb o _ e=>h b o e
def Kp.trans{p:é}{H H1 H2:Hp}(a:Kp p H H1)(b:Kp p H1 H2):Kp p H H2:=λc o n e=>b c o n (a c o n e)
def bn{p:é}{H:Hp}{o:HO}:Kp p H (upd H p o):=λb u n e=>by
 rw [am n]
 exact e
def Kp.fs{CL p:é}{H H':Hp}{xs:à V}(h:Kp p H H')(e:H p=some (.lst xs)):FSame CL H H':=λb o q f=>h b o (λz=>by rw [z,e] at q;cases q;exact f) q
def Kp.fsi{CL p dx:é}{H H':Hp}{fs:List (Str×V)}(h:Kp p H H')(e:H p=some (.ins CL dx fs)):FSame CL H H':=λb o q f=>h b o (λz=>by rw [z,e] at q;cases q;exact f rfl) q
def fl:¬(("first":Str)="last"):=by decide +kernel
def lf(f l:Int):List (Str×V):=ax "last" (.int l) (ax "first" (.int f) [])
def gj(f l:Int):(lf f l).lookup ("first":Str)=some (.int f):=by
 unfold lf
 rw [al,ž fl,al,Ź rfl]
def jL(f l:Int):(lf f l).lookup ("last":Str)=some (.int l):=by
 unfold lf
 rw [al,Ź rfl]
def fO(f l:Int){m:Str}(h1:¬m="last")(b:¬m="first"):(lf f l).lookup m=none:=by
 unfold lf
 rw [al,ž h1,al,ž b]
 rfl
def LkO(C:Kd->é)(H:Hp)(k:Lk)(v:V):Prop:=∃a dx,v=.ref a/\H a=some (.ins (C k.1) dx (lf k.2.1 k.2.2))
def LkO.keep{C:Kd->é}{CL:é}{H H':Hp}{k:Lk}{v:V}(g:∀k,C k≠CL)(e:FSame CL H H')(h:LkO C H k v):LkO C H' k v:=by
 obtain ⟨a,b,d,f⟩:=h
 exact ⟨a,b,d,e a _ f (g _)⟩
def PrO(C:Kd->é)(K:ä)(H:Hp)(x:Pr)(v:V):Prop:=∃a u l,v=.ref a/\SqU K H a [u,l]/\cPa.rp K H x.1 u/\LkO C H x.2 l
def PrO.keep{C:Kd->é}{CL:é}{K:ä}{H H':Hp}{x:Pr}{v:V}(i:∀k,C k≠CL)(e:FSame CL H H')(h:PrO C K H x v):PrO C K H' x v:=by
 obtain ⟨a,u,l,b,d,f,g⟩:=h
 exact ⟨a,u,l,b,d.keep e.ts,cPa.keep e.ts f,g.keep i e⟩
def LS(C:Kd->é)(CL:é)(K:ä)(H:Hp)(l p:é)(ps:à Pr):Prop :=
 ∃dx vs,H l=some (.ins CL dx [("pairs",.ref p)])/\H p=some (.lst vs)/\Paired (PrO C K H) ps vs
def pp{F:α->β->Prop}{G:α->β->Prop}{xs:à α}{ys:à β}(h:Paired F xs ys)(f:∀a b,F a b->G a b):Paired G xs ys:=Paired.mapP h f
def LS.keep{C:Kd->é}{CL:é}{K:ä}{H H':Hp}{l p:é}{ps:à Pr}(i:∀k,C k≠CL)(e:Same H H')(h:LS C CL K H l p ps):LS C CL K H' l p ps:=by
 obtain ⟨b,vs,d,f,g⟩:=h
 exact ⟨b,vs,e l _ d,e p _ f,pp g λ_ _ q=>q.keep i (bO e)⟩
def hb(ps:à Pr)(k j:Nat):Bool:=match ps[j]?,ps[k]? with
 | some a,some b=>!decide (a.1=b.1)&&!cq a.2 b.2
 | _,_=>false
def cO(ps:à Pr)(k:Nat):Option Nat:=(List.range k).find? (hb ps k)
def Cp:Option Nat->V
 | none=>.non
 | some j=>.int j
def wC{ps:à Pr}{k i:Nat}(d:i<k)(h:hb ps k i=true)(h0:∀j,j<i->hb ps k j=false):cO ps k=some i:=by
 unfold cO
 rw [List.find?_range_eq_some]
 exact ⟨h,ŗ.mpr d,λj b=>by rw [h0 j b];rfl⟩
def qc{ps:à Pr}{k:Nat}(h0:∀j,j<k->hb ps k j=false):cO ps k=none:=by
 unfold cO
 rw [ģ]
 exact λj b=>by rw [h0 j b];rfl
def yX{ps:à Pr}{k:Nat}(h:cO ps k=none):∀j,j<k->hb ps k j=false:=by
 unfold cO at h
 rw [ģ] at h
 exact λj b=>by simpa using h j b
def dF{α:Type}(xs:à α)(ix:ø):à α:=ix.filterMap (xs[·]?)
def pS{α:Type}(xs:à α)(b:ø)(k:Nat):dF xs (b++[k])=dF xs b++(xs[k]?).toList:=by
 unfold dF
 rw [List.filterMap_append]
 congr 1
theorem kr{α β:Type}{R:α->β->Prop}{xs:à α}{us:à β}(h:Paired R xs us):∀ix:ø,Paired R (dF xs ix) (dF us ix)
 | []=>.nil
 | k::ix=>by
  have ih:=kr h ix
  unfold dF at ih ⊢
  rw [ġ,ġ]
  cases e:us[k]? with
  | none =>
   have e':xs[k]?=none:=by
    have:=h.len
    rw [Ī] at e ⊢
    omega
   rw [e']
   exact ih
  | some u =>
   obtain ⟨x,e',r⟩:=h.get e
   rw [e']
   exact .cons r ih
def oE(ps:à Pr):ø:=(List.range ps.length).filter λk=>(cO ps k).isNone
def hX(ps:à Pr):ø:=(List.range ps.length).filter λk=>(cO ps k).isSome
def gW(ps:à Pr):à Pr:=dF ps (oE ps)
def aN(ps:à Pr):à Pr:=dF ps (hX ps)
def wpl(ps:à Pr)(p:Pa)(k:Nat):Bool:=match ps[k]? with
 | some a=>decide (a.1=p)&&(cO ps k).isSome
 | none=>false
def fj(ps:à Pr)(p:Pa):Option Nat:=(List.range ps.length).find? (wpl ps p)
def iT(ps:à Pr)(p:Pa)(k:Lk):Bool:=ps.any λx=>decide (x.1=p)&&cT x.2 k
def bh(ps:à Pr)(p:Pa)(k:Lk):à Pr:=if iT ps p k=true then ps else ps++[(p,k)]
def i6(ps:à Pr)(p:Pa)(k:Lk):Bool:=iT ps p k||(cO (ps++[(p,k)]) ps.length).isNone
def bu(ps:à Pr)(p:Pa):à Pr:=ps.filter λx=>!decide (x.1=p)
def jO(ps:à Pr)(p:Pa):à Pa:=((aN ps).filter λx=>!decide (x.1=p)&&!decide (x.1∈(aN (bu ps p)).map (·.1))).map (·.1)
def bH{f:Nat->Bool}(i:Nat):(List.range (i+1)).filter f=(List.range i).filter f++(if f i=true then [i] else []):=by
 rw [List.range_succ,Ű]
 congr 1
 rw [List.filter_cons]
 rfl
def sI{X:Cx}{x:Str}{i:Int}{pos:Pos}(b:∃t,X.mg x=some (.int i t))(d:Gl X x)(f:(x==("__debug__":Str))=false:=by decide):PE X (.Name x pos) (tC (.int i)):=by
 obtain ⟨t,e⟩:=b
 exact gC d e ⟨t,ϱ⟩ f
def ModT(K:ä)(a:é)(xs:à V):Prop:=∃(o:Obj) (its:ì) (n:Nat),K.lookup a=some o/\o.cls=.type "tuple"/\o.data=.seq its n/\its.size<=sizeLine/\Vals xs its.toList
def ModT.sq{K:ä}{a:é}{xs:à V}{H:Hp}(h:ModT K a xs):SqU K H a xs:=.inr h
def yP{K:ä}{a:é}{x y:Str}{t t':Tok}{od:Option é}{n:Nat}{sl:Array (î)}(h:K.lookup a=some ⟨.type "tuple",od,.seq #[.str x t,.str y t'] n,sl⟩):ModT K a [.str x,.str y] :=
 ⟨_,_,n,h,ϱ,ϱ,by show 2<=sizeLine;decide,.cons ⟨_,ϱ⟩ (.cons ⟨_,ϱ⟩ .nil)⟩
def D9{K:ä}{a b c d:é}{od:Option é}{n:Nat}{sl:Array (î)}(h:K.lookup a=some ⟨.type "tuple",od,.seq #[.ref b,.ref c,.ref d] n,sl⟩):ModT K a [.ref b,.ref c,.ref d] :=
 ⟨_,_,n,h,ϱ,ϱ,by show 3<=sizeLine;decide,.cons rfl (.cons rfl (.cons rfl .nil))⟩
structure TxB(mg:ā):Prop where
 isi:mg "isinstance"=none
 int:mg "int"=none
 bool:mg "bool"=none
 str:mg "str"=none
 len:mg "len"=none
 range:mg "range"=none
 tuple:mg "tuple"=none
 list:mg "list"=none
 any:mg "any"=none
 all:mg "all"=none
 max:mg "max"=none
 sorted:mg "sorted"=none
structure TxK(K:ä)(C:Kd->é):Prop where
 cl:∀k,Cls K (C k)
 nF:∀k,NoAttr K (C k) "first"
 nL:∀k,NoAttr K (C k) "last"
def nK:à (Str×PyProof.Rows.KTD.Dat):=[("read",.flat (.int 0)),("mean",.flat (.int 1)),("change",.flat (.int 2))]
def va(k:Kd):PyProof.Rows.KTD.datumAt (kdS k) nK=some (.flat (.int (tX k))):=by
 cases k<;>kernel_rfl
structure TxS(K:ä)(mg:ā):Prop where
 sh:∃aS a0 a1 a2,mg "SHARING"=some (.ref aS)/\ModT K aS [.ref a0,.ref a1,.ref a2]/\ModT K a0 [.str "read",.str "read"]/\ModT K a1 [.str "read",.str "mean"]/\ModT K a2 [.str "mean",.str "read"]
structure TxR(K:ä)(mg:ā):Prop where
 rk:∃aR,mg "RANKS"=some (.ref aR)/\TabK K aR nK
structure TxL(K:ä)(C:Kd->é)(CL:é):Prop where
 cl:Cls K CL
 nP:NoAttr K CL "pairs"
 ne:∀k,C k≠CL
def xi{K:ä}{a:é}{es:Array DictEntry}{n:Nat}{D:à (Str×PyProof.Rows.KTD.Dat)}(h:K.lookup a=some ⟨.type "dict",none,.dict es n,#[]⟩)(z:(a==sysModules)=false)(r:PyProof.Rows.KTD.rowsLook zx es.toList D=true):TabK K a D:=by
 unfold TabK PyProof.Rows.KTD.tabLook
 rw [z]
 show (true&&(match K.lookup a with | some o=>_ | none=>false))=true
 rw [h]
 simp [r]
def kdN:Kd->Str
 | .read=>"Read"
 | .mean=>"Mean"
 | .change=>"Change"
inductive h9 (k:Kd) (vs:à V) (H:Hp) (Q:VK) (E:XK):Prop|mk v:vs=[v]->Q (.str (kdS k)) H->h9 k vs H Q E
inductive fE (C:Kd->é) (vs:à V) (H:Hp) (Q:VK) (E:XK):Prop|mk a dx k f l:vs=[.ref a,.int f,.int l]->H a=some (.ins (C k) dx [])->Q .non (upd (upd H a (.ins (C k) dx (ax "first" (.int f) []))) a (.ins (C k) dx (lf f l)))->fE C vs H Q E
inductive fR (C:Kd->é) (vs:à V) (H:Hp) (Q:VK) (E:XK):Prop|mk v k:vs=[v]->LkO C H k v->(∀a,H a=none->Q (.ref a) (upd H a (.tup [.str (kdS k.1),.int k.2.1,.int k.2.2])))->fR C vs H Q E
inductive jy (C:Kd->é) (vs:à V) (H:Hp) (Q:VK) (E:XK):Prop|mk v u k j:vs=[v,u]->LkO C H k v->LkO C H j u->(∀H',Same H H'->Q (.bl (cq k j)) H')->jy C vs H Q E
inductive jv (C:Kd->é) (vs:à V) (H:Hp) (Q:VK) (E:XK):Prop|mk v u k j:vs=[v,u]->LkO C H k v->LkO C H j u->(∀H',Same H H'->Q (.bl (cT k j)) H')->jv C vs H Q E
inductive mL (C:Kd->é) (K:ä) (vs:à V) (H:Hp) (Q:VK) (E:XK):Prop|mk v k:vs=[v]->cLk.rp K H k v->(∀u H',Same H H'->LkO C H' k u->Q u H')->mL C K vs H Q E
def fL{H:Hp}{x dx:é}{o1 o2 o3 o4:HO}(nx:H x=none)(nd:H dx=none):Same H (upd (upd (upd (upd H dx o1) x o2) x o3) x o4):=λb o e=>by
 have n1:b≠x:=aq e nx
 have n2:b≠dx:=aq e nd
 rw [am n1,am n1,am n1,am n2]
 exact e
def b8{v:V}:([("pairs",v)]:List (Str×V)).lookup ("pairs":Str)=some v:=by
 show (ax "pairs" v []).lookup ("pairs":Str)=some v
 rw [al,Ź rfl]
def gi{v:V}{m:Str}(h:¬m="pairs"):([("pairs",v)]:List (Str×V)).lookup m=none:=by
 show (ax "pairs" v []).lookup m=none
 rw [al,ž h]
 rfl
def CP{v u:V}:ax "pairs" u ([("pairs",v)]:List (Str×V))=([("pairs",u)]:List (Str×V)):=by
 show (if ("pairs":Str)="pairs" then [(("pairs":Str),u)] else (("pairs":Str),v)::ax "pairs" u [])=([("pairs",u)]:List (Str×V))
 rw [Ź rfl]
section
variable (C:Kd->é)(CL:é)(K:ä)
inductive mK (vs:à V) (H:Hp) (Q:VK) (E:XK):Prop|mk l dx:vs=[.ref l]->H l=some (.ins CL dx [])->(∀p H',H p=none->H' p=some (.lst [])->H' l=some (.ins CL dx [("pairs",.ref p)])->Kp l H H'->Q .non H')->mK vs H Q E
inductive jY (vs:à V) (H:Hp) (Q:VK) (E:XK):Prop|mk l p ps k:vs=[.ref l,.int (k:Nat)]->LS C CL K H l p ps->k<ps.length->ps.length<=1000->(∀H',Same H H'->Q (Cp (cO ps k)) H')->jY vs H Q E
inductive iL (f:à Pr->à Pr) (vs:à V) (H:Hp) (Q:VK) (E:XK):Prop|mk l p ps:vs=[.ref l]->LS C CL K H l p ps->ps.length<=1000->(∀q H' us,Same H H'->H q=none->H' q=some (.lst us)->Paired (PrO C K H') (f ps) us->Q (.ref q) H')->iL f vs H Q E
inductive ju (f:à Pr->à Pr) (vs:à V) (H:Hp) (Q:VK) (E:XK):Prop|mk l p ps:vs=[.ref l]->LS C CL K H l p ps->ps.length<=1000->(∀q H' us,Same H H'->H q=none->H' q=some (.lst us)->Paired (cPr.rp K H') (f ps) us->Q (.ref q) H')->ju f vs H Q E
inductive mI (vs:à V) (H:Hp) (Q:VK) (E:XK):Prop|mk l p ps v x:vs=[.ref l,v]->LS C CL K H l p ps->ps.length<=1000->cPa.rp K H x v->(∀H',Same H H'->Q (Cp (fj ps x)) H')->mI vs H Q E
inductive xu (vs:à V) (H:Hp) (Q:VK) (E:XK):Prop|mk l p ps v x u k:vs=[.ref l,v,u]->LS C CL K H l p ps->ps.length<1000->cPa.rp K H x v->LkO C H k u->fj ps x=none->(∀H',LS C CL K H' l p (bh ps x k)->Kp p H H'->Q (.bl (i6 ps x k)) H')->xu vs H Q E
end
def rE{ps:à Pr}{p:Pa}{i:Nat}(d:i<ps.length)(h:wpl ps p i=true)(h0:∀j,j<i->wpl ps p j=false):fj ps p=some i:=by
 unfold fj
 rw [List.find?_range_eq_some]
 exact ⟨h,ŗ.mpr d,λj b=>by rw [h0 j b];rfl⟩
def kW{ps:à Pr}{p:Pa}(h0:∀j,j<ps.length->wpl ps p j=false):fj ps p=none:=by
 unfold fj
 rw [ģ]
 exact λj b=>by rw [h0 j b];rfl
def tm{ps:à Pr}{p:Pa}(h:fj ps p=none):∀j,j<ps.length->wpl ps p j=false:=by
 unfold fj at h
 rw [ģ] at h
 exact λj b=>by simpa using h j b
def bnd{n:Nat}(h:n<=1000):-(2 ^ 62)<=(n:Int)/\(n:Int)<2 ^ 62:=by
 constructor<;>omega
def ja{n:Nat}(h:n<=1000):n<=sizeLine:=Ĉ (fe h)
def dh(ns:ù)(k:Nat):Int:=(ns[k]?).getD 0
inductive qD (K:ä) (vs:à V) (H:Hp) (Q:VK) (E:XK):Prop|mk a ns k:vs=[.ref a,.int (k:Nat)]->SqL K H a ((ns:ù).map V.int)->Q (.int (dh ns k)) H->qD K vs H Q E
def rT{α:Type}(xs:à α)(ix:ø):(dF xs ix).length<=ix.length:=List.length_filterMap_le _ _
def qd(ps:à Pr):(gW ps).length<=ps.length:=by
 refine Λ (rT _ _) ?_
 unfold oE
 exact Λ (Ų _ _) (Nat.le_of_eq List.length_range)
def gc(ps:à Pr):(aN ps).length<=ps.length:=by
 refine Λ (rT _ _) ?_
 unfold hX
 exact Λ (Ų _ _) (Nat.le_of_eq List.length_range)
def rR{X:Cx}{st:à â}{t:TS}(u:TS)(h:PSs X st t)(hw:∀D σ H,u D σ H->t D σ H):PSs X st u:=λpins s σ H D I q=>h pins s σ H D I (hw D σ H q)
section
variable {K:ä}{a:é}{tt:TT}{te:TE}{bl:St}{Fin:à V->Hp->Prop}{H:Hp}
def uN{α:Type}{xs:à α}{i:Nat}{x:α}(h:xs[i]?=some x):xs.take (i+1)=xs.take i++[x]:=by
 rw [Ţ,h]
 rfl
def CT{α β γ:Type} [DecidableEq α] [DecidableEq β] [DecidableEq γ]{c:Cod α}{c2:Cod β}{d:Cod γ}{xs:à (α×β)}{us:à V}{σ:St}{l:ø}(G:Paired ((cT2 c c2).rp K H) xs us)(O:SqL K H a us)(P:us.length<=sizeLine)(o:α×β->Bool)(g:α×β->γ)
  (U:∀x u w H1 (Q:Bool->Hp->Prop),x∈xs->c.rp K H1 x.1 u->c2.rp K H1 x.2 w->Same H H1->(∀H2,Same H1 H2->Q (o x) H2)->tt (some u::some w::cn l σ) H1 Q)
  (X:∀x u w H1 (Q:VK),x∈xs->c.rp K H1 x.1 u->c2.rp K H1 x.2 w->Same H H1->(∀v H2,Same H1 H2->d.rp K H2 (g x) v->Q v H2)->te (some u::some w::cn l σ) H1 Q)
  (Y:∀ys H1,Same H H1->Paired (d.rp K H1) ((xs.filter o).map g) ys->Fin ys H1) :
  ∃(W:Nat->à V->Hp->Prop) (n:Nat),W 0 [] H/\n<=sizeLine/\∀i ys H,W i ys H->((Itl K a).stop i H/\Fin ys H) \/
   ((Itl K a).go i H/\i<n/\∀x H',(Itl K a).yld i H x H'->sK K x (bv 2 l σ) H' fun σ' H''=>Ext (bv 2 l σ) σ'/\tt σ' H'' λc H2=>if c=true then te σ' H2 λy H3=>W (i+1) (ys++[y]) H3 else W (i+1) ys H2):=by
 refine AM (xs:=us) (λi ys H1=>Same H H1/\Paired (d.rp K H1) (((xs.take i).filter o).map g) ys) ⟨Same.refl _,.nil⟩ P (λi ys H1 _ z=>z.1.seq O) ?_ ?_
 .rintro i u ys H1 L ⟨h,j⟩
  obtain ⟨x,ex,I⟩:=G.get L
  have D:x∈xs:=Ŵ ex
  obtain ⟨b,u1,q,rfl,hb,r,C⟩:=(cT2 c c2).keep h.ts I
  refine ⟨b,u1,q,ϱ,hb.sq,U x u1 q H1 _ D r C h λH2 f=>?_⟩
  have e:=uN ex
  cases ef:o x with
  | true =>
   refine cr (X x u1 q H2 _ D (c.keep f.ts r) (c2.keep f.ts C) (h.trans f) λv H3 F J=>⟨(h.trans f).trans F,?_⟩)
   rw [e,Ű,ſ]
   simp only [List.filter_cons,List.filter_nil,ef,if_true,List.map_cons,List.map_nil]
   exact (pp j λ_ _ z=>d.keep (f.trans F).ts z).app (.cons J .nil)
  | false =>
   refine aU ⟨h.trans f,?_⟩
   rw [e,Ű,ſ]
   simp only [List.filter_cons,List.filter_nil,ef,Bool.false_eq_true,if_false,List.map_nil,List.append_nil]
   exact pp j λ_ _ z=>d.keep f.ts z
 .rintro ys H1 ⟨h,j⟩
  rw [← G.len,Ŭ] at j
  exact Y ys H1 h j
end
def wF{α:Type}(xs:à α):xs.filter (λ_=>true)=xs:=List.filter_eq_self.mpr λ_ _=>rfl
def wu{CL l dl:é}{H H1:Hp}(nl:H l=none)(nd:H dl=none)(k:Kp l (upd (upd H dl (.own l)) l (.ins CL dl [])) H1):Same H H1:=λb o e=>by
 have n1:b≠l:=aq e nl
 have n2:b≠dl:=aq e nd
 refine k b o n1 ?_
 rw [am n1,am n2]
 exact e
def clear(pre:à Pr)(x:Pr):Bool:=pre.all λa=>decide (a.1=x.1)||cq a.2 x.2
def cI:à Pr->à Pr->à Pr
 | _,[]=>[]
 | pre,x::r=>if clear pre x=true then cI (pre++[x]) r else x::cI (pre++[x]) r
theorem je:∀(r pre:à Pr) (x:Pr),cI pre (r++[x])=cI pre r++if clear (pre++r) x=true then [] else [x]
 | [],pre,x=>by
  show (if clear pre x=true then cI (pre++[x]) [] else x::cI (pre++[x]) [])=[]++if clear (pre++[]) x=true then [] else [x]
  rw [ţ,List.nil_append]
  rfl
 | y::r,pre,x=>by
  have ih:=je r (pre++[y]) x
  have e:pre++[y]++r=pre++y::r:=by simp
  rw [e] at ih
  show (if clear pre y=true then cI (pre++[y]) (r++[x]) else y::cI (pre++[y]) (r++[x]))=(if clear pre y=true then cI (pre++[y]) r else y::cI (pre++[y]) r)++_
  rw [ih]
  split<;>rfl
def oC{ps:à Pr}{k:Nat}{x:Pr}(h:ps[k]?=some x):(cO ps k).isNone=clear (ps.take k) x:=by
 have r:k<ps.length:=(ż.mp h).1
 rw [ł]
 unfold clear
 rw [ě]
 constructor
 .intro z a q
  have i:cO ps k=none:=by cases e:cO ps k with | none=>rfl | some j=>rw [e] at z;cases z
  obtain ⟨j,g,e⟩:=List.getElem_of_mem q
  rw [ĺ] at g
  have f:j<k:=by omega
  have b:=yX i j f
  have l:ps[j]?=some a:=by rw [← e,List.getElem_take];exact ξ _
  unfold hb at b
  rw [l,h] at b
  have d:(!decide (a.1=x.1)&&!cq a.2 x.2)=false:=b
  cases e1:decide (a.1=x.1) with
  | true=>rfl
  | false=>rw [e1] at d;simpa using d
 .intro z
  rw [qc λj g=>?_]
  .rfl
  unfold hb
  rw [h,ξ ω]
  have o:ps[j]∈ps.take k:=by
   rw [List.mem_take_iff_getElem]
   exact ⟨j,ω,ϱ⟩
  have:=z _ o
  show (!decide (ps[j].1=x.1)&&!cq ps[j].2 x.2)=false
  rw [← Bool.not_or,this]
  rfl
def xP{α:Type}(xs:à α)(a b:ø):dF xs (a++b)=dF xs a++dF xs b:=by unfold dF;rw [List.filterMap_append]
theorem pG(ps:à Pr):∀n,n<=ps.length->dF ps ((List.range n).filter λk=>(cO ps k).isSome)=cI [] (ps.take n)
 | 0,_=>by simp [dF,cI]
 | n+1,h=>by
  have hn:ps[n]?=some ps[n]:=ξ ω
  have e:(cO ps n).isSome=!clear (ps.take n) ps[n]:=by rw [← oC hn];cases cO ps n<;>rfl
  rw [bH,xP,pG ps n ω,uN hn,je,List.nil_append,e]
  congr 1
  cases clear (ps.take n) ps[n] with
  | true=>rfl
  | false=>show dF ps [n]=[ps[n]];unfold dF;rw [List.filterMap_cons,hn];rfl
def jp(ps:à Pr):aN ps=cI [] ps:=by
 unfold aN hX
 rw [pG ps _ (ι _),Ŭ]
def vO(ps:à Pr)(x:Pr):aN (ps++[x])=aN ps++if clear ps x=true then [] else [x]:=by rw [jp,jp,je,List.nil_append]
theorem ky:∀{r pre:à Pr} {y:Pr},y∈cI pre r->y∈r
 | [],_,_,h=>by cases h
 | x::r,pre,y,h=>by
  have h':y∈if clear pre x=true then cI (pre++[x]) r else x::cI (pre++[x]) r:=h
  split at h'
  .exact Θ _ (ky h')
  .rcases ϕ.mp h' with e | h'
   .exact e▸Ω
   .exact Θ _ (ky h')
def rF{ps:à Pr}{y:Pr}(h:y∈aN ps):y∈ps:=by rw [jp] at h;exact ky h
def Ok2(a b:Pr):Prop:=a.1=b.1\/cq a.2 b.2=true
def zE{pre:à Pr}{x:Pr}(h:clear pre x=true):∀a∈pre,Ok2 a x:=λa ha=>by
 have:=ě.mp h a ha
 rcases Bool.or_eq_true_iff.mp this with z | z
 .exact .inl (Ξ z)
 .exact .inr z
def sj{pre:à Pr}{x:Pr}(h:∀a∈pre,Ok2 a x):clear pre x=true:=ě.mpr λa ha=>by
 rcases h a ha with z | z
 .rw [τ z,Bool.true_or]
 .rw [z,Bool.or_true]
def mem_pick{α:Type}{xs:à α}{b:ø}{x:α}:x∈dF xs b↔∃k∈b,xs[k]?=some x:=by
 unfold dF
 rw [ė]
def wplace_iff{ps:à Pr}{p:Pa}:fj ps p=none↔p∉(aN ps).map (·.1):=by
 constructor
 .intro h l
  obtain ⟨x,g,e⟩:=ϑ.mp l
  obtain ⟨k,b,i⟩:=mem_pick.mp g
  unfold hX at b
  obtain ⟨h1,j⟩:=Ş.mp b
  have f:=tm h k (ŗ.mp h1)
  unfold wpl at f
  rw [i] at f
  have d:(decide (x.1=p)&&(cO ps k).isSome)=false:=f
  rw [τ e,j] at d
  cases d
 .intro h
  refine kW λk b=>?_
  unfold wpl
  rw [ξ b]
  show (decide (ps[k].1=p)&&(cO ps k).isSome)=false
  cases e1:decide (ps[k].1=p) with
  | false=>rfl
  | true =>
   cases e2:(cO ps k).isSome with
   | false=>rfl
   | true =>
    refine absurd (ϑ.mpr ⟨ps[k],mem_pick.mpr ⟨k,?_,ξ b⟩,Ξ e1⟩) h
    unfold hX
    exact Ş.mpr ⟨ŗ.mpr b,e2⟩
def qb{ps:à Pr}{p:Pa}{k:Lk}:(cO (ps++[(p,k)]) ps.length).isNone=clear ps (p,k):=by
 rw [oC (x:=(p,k)) (by rw [ń (ι _),Nat.sub_self];rfl)]
 congr 1
 rw [List.take_append_of_le_length (ι _),Ŭ]
end Lo
namespace L2
open PySem PySem.Spec PyProof.Rows
section
variable {κ:Type} [DecidableEq κ]
def aY(kvs:à (κ×V))(k:κ):Option V:=(kvs.find? λkv=>decide (kv.1=k)).map (·.2)
def bZ(kvs:à (κ×V))(k:κ)(v:V):à (κ×V) :=
 if (kvs.any λkv=>decide (kv.1=k))=true then kvs.map (λkv=>if kv.1=k then (kv.1,v) else kv) else kvs++[(k,v)]
def cP(kvs:à (κ×V))(k:κ):à (κ×V):=kvs.filter λkv=>decide (kv.1≠k)
def bF{p:κ×V}{r:à (κ×V)}{k:κ}(e:p.1=k):aY (p::r) k=some p.2:=by simp [aY,List.find?_cons,e]
def bY{p:κ×V}{r:à (κ×V)}{k:κ}(e:¬p.1=k):aY (p::r) k=aY r k:=by simp [aY,List.find?_cons,e]
theorem gf(k:κ):∀kvs:à (κ×V),(kvs.any λkv=>decide (kv.1=k))=(aY kvs k).isSome
 | []=>rfl
 | p::r=>by
  rw [List.any_cons]
  by_cases e:p.1=k
  .simp only [bF e,decide_eq_true e,Bool.true_or,Option.isSome_some]
  .rw [bY e,Γ e,Bool.false_or];exact gf k r
theorem rH(k j:κ)(y:V):∀kvs:à (κ×V),aY (kvs.map λkv=>if kv.1=k then (kv.1,y) else kv) j=(aY kvs j).map λx=>if j=k then y else x
 | []=>rfl
 | p::r=>by
  have ih:=rH k j y r
  rw [ű]
  by_cases h:p.1=k
  .rw [Ź h]
   by_cases e:p.1=j
   .rw [bF (p:=(p.1,y)) e,bF e,Option.map_some,Ź (e.symm.trans h)]
   .rw [bY (p:=(p.1,y)) e,bY e,ih]
  .rw [ž h]
   by_cases e:p.1=j
   .rw [bF (p:=p) e,bF e,Option.map_some,ž (λz=>h (e.trans z))]
   .rw [bY (p:=p) e,bY e,ih]
theorem pL(k j:κ)(y:V):∀kvs:à (κ×V),aY kvs k=none->aY (kvs++[(k,y)]) j=if j=k then some y else aY kvs j
 | [],_=>by
  by_cases e:k=j
  .rw [Ź e.symm];exact bF (p:=(k,y)) e
  .rw [ž (λz=>e z.symm)];exact bY (p:=(k,y)) e
 | p::r,hn=>by
  rw [List.cons_append]
  have hk:¬p.1=k:=λz=>by rw [bF z] at hn;cases hn
  rw [bY hk] at hn
  have ih:=pL k j y r hn
  by_cases e:p.1=j
  .rw [bF e,bF e,ž (λz=>hk (e.trans z))]
  .rw [bY e,bY e,ih]
def rG(b:à (κ×V))(k j:κ)(y:V):aY (bZ b k y) j=if j=k then some y else aY b j:=by
 unfold bZ
 by_cases a:(b.any λf=>decide (f.1=k))=true
 .rw [Ź a,rH]
  rw [gf] at a
  by_cases e:j=k
  .obtain ⟨x,d⟩:=Option.isSome_iff_exists.mp a
   rw [Ź e,e,d,Option.map_some,Ź rfl]
  .rw [ž e]
   cases aY b j with
   | none=>rfl
   | some x=>rw [Option.map_some,ž e]
 .rw [ž a]
  refine pL k j y b ?_
  rw [gf] at a
  cases q:aY b k with
  | none=>rfl
  | some x=>rw [q] at a;exact (a rfl).elim
def eC(b:à (κ×V))(k:κ)(v:V):(bZ b k v).length<=b.length+1:=by
 unfold bZ
 split
 .rw [ν];omega
 .rw [Ž,ŭ,List.length_nil];omega
def il{b:à (κ×V)}{k:κ}(v:V)(h:aY b k=none):bZ b k v=b++[(k,v)]:=by
 unfold bZ
 rw [gf,h]
 exact ž ζ
def RelO.isSome_eq{o:Option V}{u:î}(r:RelO o u):o.isSome=u.isSome:=by
 cases o with
 | none=>cases u with
  | none=>rfl
  | some _=>exact (show False from r).elim
 | some _=>cases u with
  | none=>exact (show False from r).elim
  | some _=>rfl
def RelO.getD{o:Option V}{u:î}{d:V}{d':å}(r:RelO o u)(b:RelV d d'):RelV (o.getD d) (u.getD d'):=by
 cases o with
 | none=>cases u with
  | none=>exact b
  | some _=>exact (show False from r).elim
 | some _=>cases u with
  | none=>exact (show False from r).elim
  | some _=>exact r
def KV.val{d:à (κ×V)}{vs:à (κ×å)}(r:KV d vs)(k:κ):RelO (aY d k) (valueAt vs k):=by
 unfold KV at r
 induction r with
 | nil=>exact ϰ
 | @cons p q ps qs h t ih =>
  obtain ⟨h1,g⟩:=h
  by_cases e:p.1=k
  .have f:q.1=k:=h1.symm.trans e
   have b:valueAt (q::qs) k=some q.2:=by simp [valueAt,List.find?_cons,f]
   rw [bF e,b];exact g
  .have f:¬q.1=k:=λz=>e (h1.trans z)
   have b:valueAt (q::qs) k=valueAt qs k:=by simp [valueAt,List.find?_cons,f]
   rw [bY e,b];exact ih
def KV.any{b:à (κ×V)}{vs:à (κ×å)}(r:KV b vs)(k:κ):(b.any λkv=>decide (kv.1=k))=vs.any λkv=>decide (kv.1=k):=by
 unfold KV at r
 induction r with
 | nil=>rfl
 | cons h t ih=>rw [List.any_cons,List.any_cons,ih,h.1]
def KV.repl{b:à (κ×V)}{vs:à (κ×å)}(r:KV b vs)(k:κ){y:V}{u:å}(f:RelV y u) :
  KV (b.map λkv=>if kv.1=k then (kv.1,y) else kv) (vs.map λkv=>if kv.1=k then (kv.1,u) else kv):=by
 unfold KV at r ⊢
 induction r with
 | nil=>exact .nil
 | @cons p q ps qs h t ih =>
  rw [ű,ű]
  refine .cons ?_ ih
  obtain ⟨h1,d⟩:=h
  by_cases e:p.1=k
  .rw [Ź e,Ź (h1.symm.trans e)];exact ⟨h1,f⟩
  .rw [ž e,ž (λz=>e (h1.trans z))];exact ⟨h1,d⟩
def KV.put{b:à (κ×V)}{vs:à (κ×å)}(r:KV b vs)(k:κ){y:V}{u:å}(d:RelV y u):KV (bZ b k y) (stored vs k u):=by
 unfold bZ stored
 rw [r.any k]
 by_cases e:(vs.any λf=>decide (f.1=k))=true
 .rw [Ź e,Ź e];exact r.repl k d
 .rw [ž e,ž e];exact Paired.snoc r ⟨ϱ,d⟩
def KV.length{kvs:à (κ×V)}{vs:à (κ×å)}(r:KV kvs vs):kvs.length=vs.length:=Ĥ r
end
def oz{P:ê}{w:è}{k:Key}{u:å}(r:RelV (kV k) u):(aM P w).is k u=true:=by
 cases k with
 | inl i=>obtain ⟨t,e⟩:=(show ∃t,u=Value.int i t from r);subst e;exact ss P w i t
 | inr x=>obtain ⟨t,e⟩:=(show ∃t,u=Value.str x t from r);subst e;exact so P w x t
theorem pZ{P:ê}{w:è}:∀{ks:List Key} {us:ü},Vals (ks.map kV) us->ItemsAre (aM P w) ks us
 | [],_,r=>by rw [List.map_nil] at r;cases r;exact .nil
 | k::ks,_,r=>by
  rw [ű] at r
  cases r with
  | cons h t=>exact .cons (oz h) (pZ t)
abbrev KT(H:Hp):List (List Key×V)->à (à Key×Addr×å)->Prop:=Paired λp q=>p.1=q.1/\H q.2.1=some (.tup (p.1.map kV))/\RelV p.2 q.2.2
def KT.val{H:Hp}{d:List (List Key×V)}{xs:à (à Key×Addr×å)}(r:KT H d xs)(k:List Key):RelO (aY d k) ((atKey xs k).map (·.2)):=by
 induction r with
 | nil=>exact ϰ
 | @cons p q ps qs h t ih =>
  obtain ⟨h1,_,g⟩:=h
  by_cases e:p.1=k
  .have f:q.1=k:=h1.symm.trans e
   have b:atKey (q::qs) k=some q.2:=by simp [atKey,List.find?_cons,f]
   rw [bF e,b];exact g
  .have f:¬q.1=k:=λz=>e (h1.trans z)
   have b:atKey (q::qs) k=atKey qs k:=by simp [atKey,List.find?_cons,f]
   rw [bY e,b];exact ih
def KT.repl{H:Hp}{b:List (List Key×V)}{xs:à (à Key×Addr×å)}(r:KT H b xs)(k:List Key){y:V}{u:å}(g:RelV y u) :
  KT H (b.map λkv=>if kv.1=k then (kv.1,y) else kv) (xs.map (putAt k u)):=by
 induction r with
 | nil=>exact .nil
 | @cons p q ps qs h t ih =>
  rw [ű,ű]
  refine .cons ?_ ih
  obtain ⟨h1,d,f⟩:=h
  unfold putAt
  by_cases e:p.1=k
  .rw [Ź e,Ź (h1.symm.trans e)];exact ⟨h1,d,g⟩
  .rw [ž e,ž (λz=>e (h1.trans z))];exact ⟨h1,d,f⟩
def KT.put{H:Hp}{d:List (List Key×V)}{xs:à (à Key×Addr×å)}(r:KT H d xs)(k:List Key){b:é}{y:V}{u:å}(hb:H b=some (.tup (k.map kV)))(f:RelV y u) :
  KT H (bZ d k y) (storedH xs k b u):=by
 have e:(d.any λg=>decide (g.1=k))=(atKey xs k).isSome:=by
  rw [gf,(r.val k).isSome_eq,Option.isSome_map]
 unfold bZ storedH
 rw [e]
 by_cases q:(atKey xs k).isSome=true
 .rw [Ź q,Ź q];exact r.repl k f
 .rw [ž q,ž q];exact Paired.snoc r ⟨ϱ,hb,f⟩
def KT.keeps{H H':Hp}{kvs:List (List Key×V)}{xs:à (à Key×Addr×å)}(r:KT H kvs xs)(ht:∀b ys,H b=some (.tup ys)->H' b=some (.tup ys)):KT H' kvs xs :=
 Paired.mapP r λ_ _ z=>⟨z.1,ht _ _ z.2.1,z.2.2⟩
section
variable {P:ê}{w:è}{H:Hp}{h:ã}{a:é}
def Bq{u:HO}(ok:HOk P w H h)(e:Rd H a u):ObjOk P w H h a u:=e.ok ok
def oK{kvs:List (Key×V)}(ok:HOk P w H h)(e:Rd H a (.dK kvs)):kvs.length<=sizeLine/\(a==sysModules)=false/\∃vs,KV kvs vs/\h.DictOf (aM P w) a vs :=
 show ObjOk P w H h a (.dK kvs) from Bq ok e
def zt{kvs:List (Key×V)}(ok:HOk P w H h)(e:H a=some (.dK kvs)):kvs.length<=sizeLine/\(a==sysModules)=false/\∃vs,KV kvs vs/\h.DictOf (aM P w) a vs:=oK ok (.inl e)
def gQ{d:List Key}(ok:HOk P w H h)(e:H a=some (.tup (d.map kV))):(tupleKind (aM P w)).is h d a:=by
 obtain ⟨_,b,r,o,h1,f,n,g⟩:=(show ObjOk P w H h a (.tup (d.map kV)) from ok a _ e)
 exact ⟨o,b.toArray,n,h1,f,g,by simpa using pZ r⟩
def oI{b:List (List Key×V)}(ok:HOk P w H h)(e:Rd H a (.dT b)):b.length<=sizeLine/\(a==sysModules)=false /\
  ∃xs,KT H b xs/\h.DictOfH (tupleKind (aM P w)) a xs:=by
 obtain ⟨z,y,xs,r,o,es,d,h1,f,g,i,j⟩:=(show ObjOk P w H h a (.dT b) from Bq ok e)
 refine ⟨z,y,xs,r,o,es,d,h1,f,g,i,λx hx=>?_,j⟩
 have all:∀{l:List (List Key×V)} {m:à (à Key×Addr×å)},KT H l m->∀x∈m,(tupleKind (aM P w)).is h x.1 x.2.1:=by
  intro l m q
  induction q with
  | nil=>intro x hx;exact nomatch hx
  | @cons p q ps qs hq t ih =>
   intro x hx
   rcases ϕ.mp hx with e | hx
   .subst e
    exact gQ ok (by rw [← hq.1];exact hq.2.1)
   .exact ih x hx
 exact all r x hx
def vD{kvs:List (List Key×V)}(ok:HOk P w H h)(e:H a=some (.dT kvs)):kvs.length<=sizeLine/\(a==sysModules)=false /\
  ∃xs,KT H kvs xs/\h.DictOfH (tupleKind (aM P w)) a xs:=oI ok (.inl e)
end
def DGet(H:Hp)(a:é)(y:V)(r:Option V):Prop :=
 (∃kvs k,Rd H a (.dK kvs)/\y=kV k/\r=aY kvs k)\/∃kvs k b,Rd H a (.dT kvs)/\y=.ref b/\H b=some (.tup (k.map kV))/\r=aY kvs k
def DPut(H:Hp)(a:é)(y v:V)(H':Hp):Prop :=
 (∃kvs k,H a=some (.dK kvs)/\y=kV k/\kvs.length<sizeLine/\H'=upd H a (.dK (bZ kvs k v))) \/
 ∃kvs k b,H a=some (.dT kvs)/\y=.ref b/\H b=some (.tup (k.map kV))/\kvs.length<sizeLine/\H'=upd H a (.dT (bZ kvs k v))
def DGet.k{H:Hp}{a:é}{kvs:List (Key×V)}{k:Key}(e:H a=some (.dK kvs)):DGet H a (kV k) (aY kvs k):=.inl ⟨kvs,k,.inl e,ϱ,ϱ⟩
def DGet.t{H:Hp}{a b:é}{kvs:List (List Key×V)}{k:List Key}(e:H a=some (.dT kvs))(eb:H b=some (.tup (k.map kV))):DGet H a (.ref b) (aY kvs k):=.inr ⟨kvs,k,b,.inl e,ϱ,eb,ϱ⟩
def DPut.k{H:Hp}{a:é}{kvs:List (Key×V)}{k:Key}{v:V}(e:H a=some (.dK kvs))(hl:kvs.length<sizeLine):DPut H a (kV k) v (upd H a (.dK (bZ kvs k v))):=.inl ⟨kvs,k,e,ϱ,hl,ϱ⟩
def DPut.t{H:Hp}{a b:é}{kvs:List (List Key×V)}{k:List Key}{v:V}(e:H a=some (.dT kvs))(eb:H b=some (.tup (k.map kV)))(hl:kvs.length<sizeLine) :
  DPut H a (.ref b) v (upd H a (.dT (bZ kvs k v))):=.inr ⟨kvs,k,b,e,ϱ,eb,hl,ϱ⟩
section
variable {X:Cx}{pins:ă}{σ:St}{H:Hp}{s:ë}{a:é}{y v:V}{u r:å}{o:Option V}{A:æ}{E:Ă}
def Inv.big(I:Inv X pins σ H s):sysModules<s.heap.objs.size:=by
 have h:mainGlobals<s.heap.objs.size:=(I.mod.glob.keeps I.bk).lt
 exact Nat.lt_trans ζ h
def wK{Q:Ă}(D:A.units+1<cLine)(I:Inv X pins σ H s)(g:DGet H a y (some v))(q:RelV y u)(h:∀w' s',Inv X pins σ H s'->RelV v w'->Q w' s') :
  wpAny (model X.prog X.w) A (getItem (.ref a) u) Q E s:=by
 rcases g with ⟨kvs,k,e,ey,l⟩ | ⟨kvs,k,b,e,ey,eb,l⟩
 .subst ey
  obtain ⟨z,r,vs,d,dd⟩:=oK I.hok e
  obtain ⟨w',i,f⟩:=RelO.some_of (v:=v) (o:=valueAt vs k) (by rw [l];exact d.val k)
  exact wpAny_getItem_of (oz q) dd.mapOf i (h w' _ (I.tok _) f)
 .subst ey
  cases (show u=Value.ref b from q)
  obtain ⟨z,r,x,d,dd⟩:=oI I.hok e
  obtain ⟨w',i,f⟩:=RelO.some_of (v:=v) (o:=(atKey x k).map (·.2)) (by rw [l];exact d.val k)
  obtain ⟨p,C,j⟩:=ų.mp i
  refine wpAny_getItem_heap (Ō D) (gQ I.hok eb) dd C ?_
  rw [j]
  exact h w' _ (I.tok _) f
def EV{Q:Ă}(j:A.units+1<cLine)(I:Inv X pins σ H s)(g:DGet H a y o)(i:RelV y u)(h:∀s',Inv X pins σ H s'->Q (.bool o.isSome) s') :
  wpAny (model X.prog X.w) A (compareOp .In u (.ref a)) Q E s:=by
 rcases g with ⟨kvs,k,e,ey,l⟩ | ⟨kvs,k,b,e,ey,eb,l⟩
 .subst ey
  obtain ⟨z,f,vs,d,dd⟩:=oK I.hok e
  refine wpAny_in_of (oz i) f dd.mapOf ?_
  rw [← (d.val k).isSome_eq,← l]
  exact h _ (I.tok _)
 .subst ey
  cases (show u=Value.ref b from i)
  obtain ⟨z,f,r,d,dd⟩:=oI I.hok e
  refine wpAny_in_heap (Ō j) (gQ I.hok eb) f dd ?_
  have q:=(d.val k).isSome_eq
  rw [Option.isSome_map] at q
  rw [← q,← l]
  exact h _ (I.tok _)
def A7{Q:Ă}(j:A.units+1<cLine)(I:Inv X pins σ H s)(g:DGet H a y o)(i:RelV y u)(h:∀s',Inv X pins σ H s'->Q (.bool (!o.isSome)) s') :
  wpAny (model X.prog X.w) A (compareOp .NotIn u (.ref a)) Q E s:=by
 rcases g with ⟨kvs,k,e,ey,l⟩ | ⟨kvs,k,b,e,ey,eb,l⟩
 .subst ey
  obtain ⟨z,f,vs,d,dd⟩:=oK I.hok e
  refine wpAny_notIn_of (oz i) f dd.mapOf ?_
  rw [← (d.val k).isSome_eq,← l]
  exact h _ (I.tok _)
 .subst ey
  cases (show u=Value.ref b from i)
  obtain ⟨z,f,r,d,dd⟩:=oI I.hok e
  refine wpAny_notIn_heap (Ō j) (gQ I.hok eb) f dd ?_
  have q:=(d.val k).isSome_eq
  rw [Option.isSome_map] at q
  rw [← q,← l]
  exact h _ (I.tok _)
def jR{h':ã}{t':Nat}{ob:HO}(I:Inv X pins σ H s)(mu:Mut (H a))(hs:Heap.SameBut a s.heap h')(he:∃q,h'.get? a=some q)(new:ObjOk X.prog X.w (upd H a ob) h' a ob) :
  Inv X pins σ (upd H a ob) {s with heap:=h',toks:=t'} :=
 I.write (x:=a) (e:=a) mu (.inl rfl) (λb q hb z=>(hs.2 b hb).trans z) he new
def uA{P:ê}{w:è}{H':Hp}{h':ã}{kvs:List (Key×V)}{vs:à (Key×å)}(z:kvs.length<=sizeLine)(hd:(a==sysModules)=false)(rel:KV kvs vs)(dd:h'.DictOf (aM P w) a vs) :
  ObjOk P w H' h' a (.dK kvs):=⟨z,hd,vs,rel,dd⟩
def wJ{H':Hp}{Q:Unit->ë->Prop}(Z:A.units+1<cLine)(I:Inv X pins σ H s)(g:DPut H a y v H')(G:RelV y u)(J:RelV v r)(h:∀s',Inv X pins σ H' s'->Q () s') :
  wpAny (model X.prog X.w) A (setItem (.ref a) u r) Q E s:=by
 rcases g with ⟨kvs,k,e,ey,l,eH⟩ | ⟨kvs,k,b,e,ey,eb,l,eH⟩
 .subst ey eH
  obtain ⟨z,j,vs,d,dd⟩:=zt I.hok e
  have o:vs.length<=sizeLine:=by rw [← d.length];exact z
  have x:(bZ kvs k v).length<=sizeLine:=by have:=eC kvs k v;omega
  refine wpAny_setItem_pairs (hsz:=o) (oz G) dd λD f C=>h _ ?_
  have Y:∃q,D.get? a=some q:=let ⟨q,_,_,i,_⟩:=f;⟨q,i⟩
  exact jR I (by rw [e];exact ϰ) C Y (uA x j (d.put k J) f)
 .subst ey eH
  cases (show u=Value.ref b from G)
  obtain ⟨z,j,K,d,dd⟩:=vD I.hok e
  have o:K.length<=sizeLine:=by rw [← Ĥ d];exact z
  have x:(bZ kvs k v).length<=sizeLine:=by have:=eC kvs k v;omega
  refine wpAny_setItem_heap (hsz:=o) (Ō Z) (gQ I.hok eb) dd λD f C=>h _ ?_
  obtain ⟨q,es,L,i,O,P,U,_,W⟩:=f
  refine jR I (by rw [e];exact ϰ) C ⟨q,i⟩ ⟨x,j,_,(d.put k eb J).keeps λc ys F=>?_,q,es,L,i,O,P,U,W⟩
  rw [am (jH F e (λz=>nomatch z))]
  exact F
end
def Be(i:á):Prop:=∀ov iv,subscripted i false ov iv=operate [ov,iv] (getItem ov iv)
def uQ{prog:ê}{w:è}{A:æ}{E:Ă}{s:ë}{env:Env}{d b:á}{pos:Pos}{T id:String}{Q:Ă}
  (q:typeLookup (.type T) "__getitem__"=pure (some (.builtin id)))(u:Be b)
  (h:wpAny (model prog w) A (eval d env) (λo s₁=>wpAny (model prog w) A (eval b env) (λi s₂=>s₂.TypeIs o T/\wpAny (model prog w) A (getItem o i) Q E s₂) E s₁) E s) :
  wpAny (model prog w) A (eval (.Subscript d b pos) env) Q E s:=by
 refine Subscript_ (ū h (λo s₁ j=>ū j (λi s₂ e=>?_) λ_ _ x=>x) λ_ _ x=>x)
 obtain ⟨f,e⟩:=e
 unfold subscriptTail
 refine ε ?_
 rw [getitemInPython_of_ne f.not_modules]
 refine ε (wpAny_specialOf f q ?_)
 have fin:wpAny (model prog w) A (subscripted b false o i) (λr g=>wpAny (model prog w) A (letTemporaryGo d o r >>= λ_=>pure r) Q E g) E s₂:=by
  rw [u o i]
  exact wpAny_operating (ū e (λr g l=>ε (wpAny_letTemporaryGo (π l))) λ_ _ x=>x)
 first
  | exact π (ε fin)
  | exact ε (π (ε fin))
  | exact ε fin
def sP{X:Cx}{d:ă}{σ:St}{H:Hp}{s:ë}{a:é}{y:V}{o:Option V}(I:Inv X d σ H s)(g:DGet H a y o):s.TypeIs (.ref a) "dict":=by
 rcases g with ⟨kvs,k,e,_,_⟩ | ⟨kvs,k,b,e,_,_,_⟩
 .obtain ⟨_,_,vs,_,dd⟩:=oK I.hok e
  exact dd.typeIs
 .obtain ⟨_,_,f,_,dd⟩:=oI I.hok e
  exact dd.typeIs
inductive XDG (Q:VK) (x y:V) (H:Hp):Prop|mk a v:x=.ref a->DGet H a y (some v)->Q v H->XDG Q x y H
def DK(td ty:TE):TE:=fun σ H Q=>td σ H λx H1=>ty σ H1 λy H2=>XDG Q x y H2
def EG(ty td:TE):TE:=fun σ H Q=>ty σ H λy H1=>td σ H1 λx H2=>∃a o,x=.ref a/\DGet H2 a y o/\Q (.bl o.isSome) H2
def zT(ty td:TE):TE:=fun σ H Q=>ty σ H λy H1=>td σ H1 λx H2=>∃a o,x=.ref a/\DGet H2 a y o/\Q (.bl (!o.isSome)) H2
def DT(td ty tv:TE):TS:=λD σ H=>tv σ H λv H1=>td σ H1 λx H2=>ty σ H2 λy H3=>∃a H4,x=.ref a/\DPut H3 a y v H4/\D.nx σ H4
section
variable {X:Cx}{o i e value:á}{pos pos' tpos:Pos}{td ty tv:TE}
def dQ(z:X.A.units+1<cLine)(C:PE X o td)(D:PE X i ty)(G:Be i):PE X (.Subscript o i pos) (DK td ty):=by
 intro b s σ H Q I h
 refine uQ PySem.F.slot_dict_getitem.lookup G (thn (C b s σ H _ I h) λu f ⟨x,H1,j,l,q1⟩=>thn (D b f σ H1 _ j q1) λJ K ⟨y,q,e,r,a,v,ex,g,q2⟩=>?_)
 subst ex
 obtain rfl:u=Value.ref a:=l
 exact ⟨sP e g,wK z e g r λL O w d=>⟨v,q,w,d,q2⟩⟩
def qS(z:X.A.units+1<cLine)(C:PE X i ty)(D:PE X o td):PC X .In i o (EG ty td):=by
 intro b s σ H Q I h
 refine thn (C b s σ H _ I h) λF d ⟨y,H1,e,f,q1⟩=>thn (D b d σ H1 _ e q1) λu G ⟨x,j,l,q,a,r,ex,g,q2⟩=>?_
 subst ex
 obtain rfl:u=Value.ref a:=q
 exact EV z l g f λJ w=>⟨.bl r.isSome,j,w,ϱ,q2⟩
def iP(z:X.A.units+1<cLine)(C:PE X i ty)(D:PE X o td):PC X .NotIn i o (zT ty td):=by
 intro b s σ H Q I h
 refine thn (C b s σ H _ I h) λF d ⟨y,H1,e,f,q1⟩=>thn (D b d σ H1 _ e q1) λu G ⟨x,j,l,q,a,r,ex,g,q2⟩=>?_
 subst ex
 obtain rfl:u=Value.ref a:=q
 exact A7 z l g f λJ w=>⟨.bl (!r.isSome),j,w,ϱ,q2⟩
def gB(J:X.A.units+1<cLine)(K:PE X o td)(L:PE X i ty)(O:PE X value tv)(P:swapsWith value (some (.Subscript o i pos')) pos.line X.env=pure false) :
  PS X (.Assign [.Subscript o i pos'] value pos) (DT td ty tv):=by
 intro b s σ H D I h
 refine wpAny_Assign_Subscript (thn (O b s σ H _ I h) λr d ⟨v,H1,e,f,q1⟩=>thn (K b d σ H1 _ e q1) λu j ⟨x,l,q,w,q2⟩=>thn (L b j σ l _ q q2) λQ U ⟨y,W,z,C,a,F,ex,g,q3⟩=>?_) P
 subst ex
 obtain rfl:u=Value.ref a:=w
 exact wJ J z g C f λY G=>⟨σ,F,G,q3⟩
end
def zv{P:ê}{w:è}{H:Hp}(h:ã)(hb:sysModules<h.objs.size):ObjOk P w H (h.push {cls:=.type "dict",data:=.dict #[]}) h.objs.size (.dK []) :=
 ⟨ϖ _,ś.mpr (Ne.symm (Φ hb)),[],.nil,Heap.DictOf.new h⟩
def zo{P:ê}{w:è}{H:Hp}(h:ã)(hb:sysModules<h.objs.size):ObjOk P w H (h.push {cls:=.type "dict",data:=.dict #[]}) h.objs.size (.dT []) :=
 ⟨ϖ _,ś.mpr (Ne.symm (Φ hb)),[],.nil,_,#[],0,ψ _ rfl,⟨ϱ,ϱ,ϱ⟩,ϱ,ϱ,ĉ⟩
def BW:TE:=λ_ H Q=>∀p,H p=none->Q (.ref p) (upd H p (.dK []))
def BV:TE:=λ_ H Q=>∀p,H p=none->Q (.ref p) (upd H p (.dT []))
section
variable {X:Cx}{pos:Pos}
def jG:PE X (.Dict [] [] pos) BW:=λpins s σ H Q I h =>
 wpAny_Dict_empty ⟨.ref s.heap.objs.size,_,I.laid (a:=s.heap.objs.size) (o:=.dK []) (t':=s.toks) (λ_ _ q=>ρ _ q) (ι _) (zv s.heap I.big),ϱ,h _ (I.hok.fresh (ι _))⟩
def c8:PE X (.Dict [] [] pos) BV:=λpins s σ H Q I h =>
 wpAny_Dict_empty ⟨.ref s.heap.objs.size,_,I.laid (a:=s.heap.objs.size) (o:=.dT []) (t':=s.toks) (λ_ _ q=>ρ _ q) (ι _) (zo s.heap I.big),ϱ,h _ (I.hok.fresh (ι _))⟩
end
def aV(kvs more:List (Key×V)):List (Key×V):=more.foldl (λacc kv=>bZ acc kv.1 kv.2) kvs
def KV.merge:∀{more:List (Key×V)} {d:à (Key×å)} {b:List (Key×V)} {vs:à (Key×å)},KV more d->KV b vs->KV (aV b more) (merged vs d):=by
 intro more d b vs r
 unfold KV at r
 induction r generalizing b vs with
 | nil=>intro q;exact q
 | @cons p q ps qs h t ih =>
  intro f
  have e:KV (bZ b p.1 p.2) (stored vs q.1 q.2):=by
   have:=f.put p.1 h.2
   rw [← h.1];exact this
  exact ih e
theorem dR:∀(more kvs:List (Key×V)),(aV kvs more).length<=kvs.length+more.length
 | [],kvs=>by show kvs.length<=kvs.length+0;omega
 | p::r,kvs=>by
  have h1:=dR r (bZ kvs p.1 p.2)
  have h2:=eC kvs p.1 p.2
  show (aV (bZ kvs p.1 p.2) r).length<=_
  rw [ŭ];omega
structure M1(X:Cx)(o:á)(m:Str)(apos:Pos)(e:á)(cpos:Pos):Prop where
 base:attributeBase o m X.env (eval o X.env)=eval o X.env
 few:((backTo cpos (starEach [e] X.env)).all (λx=>!x.1)&&(backToKw cpos (keywordEach [] X.env)).all (λx=>x.1.isSome)
  && decide (([e]:õ).length+([]:à Keyword).length+(if ([]:à Keyword).isEmpty then 0 else 1)<30))=true
 line:(apos.endLine==cpos.line)=true
 trees:backTo cpos (starEach [e] X.env)=[(false,eval e X.env)]
structure M2(X:Cx)(o:á)(m:Str)(apos:Pos)(e f:á)(cpos:Pos):Prop where
 base:attributeBase o m X.env (eval o X.env)=eval o X.env
 few:((backTo cpos (starEach [e,f] X.env)).all (λx=>!x.1)&&(backToKw cpos (keywordEach [] X.env)).all (λx=>x.1.isSome)
  && decide (([e,f]:õ).length+([]:à Keyword).length+(if ([]:à Keyword).isEmpty then 0 else 1)<30))=true
 line:(apos.endLine==cpos.line)=true
 trees:backTo cpos (starEach [e,f] X.env)=[(false,eval e X.env),(false,eval f X.env)]
def IsD(H:Hp)(a:é):Prop:=(∃kvs,Rd H a (.dK kvs))\/∃kvs,Rd H a (.dT kvs)
def jk{X:Cx}{f:ă}{σ:St}{H:Hp}{s:ë}{a:é}(I:Inv X f σ H s)(d:IsD H a) :
  s.TypeIs (.ref a) "dict"/\(∀b,Value.ref a=.ref b->∃ob,s.heap.get? b=some ob/\ob.dict=none)/\(a==sysModules)=false:=by
 rcases d with ⟨kvs,e⟩ | ⟨kvs,e⟩
 .obtain ⟨_,g,vs,_,dd⟩:=oK I.hok e
  refine ⟨dd.typeIs,λb q=>?_,g⟩
  cases q
  obtain ⟨ob,_,_,h1,h,_⟩:=dd
  exact ⟨ob,h1,h.2.1⟩
 .obtain ⟨_,g,i,_,dd⟩:=oI I.hok e
  refine ⟨dd.typeIs,λb q=>?_,g⟩
  cases q
  obtain ⟨ob,_,_,h1,h,_⟩:=dd
  exact ⟨ob,h1,h.2.1⟩
section
variable {X:Cx}{pins:ă}{σ:St}{H:Hp}{s:ë}{a:é}{y d:V}{u r:å}{o:Option V}{A:æ}{E:Ă}
def De{Q:Ă}(C:A.units+1<cLine)(I:Inv X pins σ H s)(g:DGet H a y o)(j:RelV y u)(q:RelV d r)(h:∀w' s',Inv X pins σ H s'->RelV (o.getD d) w'->Q w' s') :
  wpAny (model X.prog X.w) A (call (.builtin "dict.get") [.ref a,u,r]) Q E s:=by
 rcases g with ⟨kvs,k,e,ey,l⟩ | ⟨kvs,k,b,e,ey,eb,l⟩
 .subst ey
  obtain ⟨z,i,vs,f,dd⟩:=oK I.hok e
  refine call_meetsIn č dd.typeIs PySem.F.entry_dict_get (PySem.F.args_dict_get_3 _ _ _) (meets_dict_get_default (aM X.prog X.w) a (oz j) i r) ⟨_,dd.mapOf,h _ _ (I.tok _) ?_⟩
  rw [l]
  exact (f.val k).getD q
 .subst ey
  cases (show u=Value.ref b from j)
  obtain ⟨z,i,x,f,dd⟩:=oI I.hok e
  refine call_meetsIn č dd.typeIs PySem.F.entry_dict_get (PySem.F.args_dict_get_3 _ _ _) (meetsH_dict_get_default (tupleKind (aM X.prog X.w)) a b i r) ⟨Ō C,k,x,gQ I.hok eb,dd,h _ _ (I.tok _) ?_⟩
  rw [l]
  exact (f.val k).getD q
end
def BX(td ty tx:TE):TE:=fun σ H Q=>td σ H λx H1=>∃a,x=.ref a/\IsD H1 a/\ty σ H1 λy H2=>tx σ H2 λz H3=>∃o,DGet H3 a y o/\Q (o.getD z) H3
section
variable {X:Cx}{o e f:á}{apos cpos:Pos}{td ty tx:TE}
def rY(U:X.A.units+1<cLine)(W:PE X o td)(Y:PE X e ty)(hf:PE X f tx)(m:M2 X o "get" apos e f cpos):PE X (.Call (.Attribute o "get" apos) [e,f] [] cpos) (BX td ty tx):=by
 intro b s σ H Q I h
 refine Ħ m.base m.few m.line š č PySem.F.type_dict_get (thn (W b s σ H _ I h) λu r ⟨x,H1,j,w,a,ex,d,q1⟩=>?_)
 subst ex
 obtain rfl:u=Value.ref a:=w
 obtain ⟨l,q,_⟩:=jk j d
 refine ⟨l,q,?_⟩
 rw [m.trees]
 refine Ū rfl (Ŋ (Ť (thn (Y b r σ H1 _ j q1) λZ C ⟨y,D,G,J,q2⟩ =>
  Ť (thn (hf b C σ D _ G q2) λfv s3 ⟨z,K,L,O,ov,g,q3⟩=>Ņ ?_))))
 exact De U L g J O λw' s4 P i=>⟨_,K,P,i,q3⟩
end
end L2
namespace Lo
open PySem L2
def sPa(_:ä)(H:Hp)(x:Pa)(v:V):Prop:=∃a,v=.ref a/\H a=some (.tup [.int x.1,.int x.2])
def sPa.c{K:ä}{H:Hp}{x:Pa}{v:V}(h:sPa K H x v):cPa.rp K H x v:=by
 obtain ⟨a,rfl,e⟩:=h
 exact ⟨a,_,_,ϱ,.inl e,ϱ,ϱ⟩
def sPa.keep{K:ä}{H H':Hp}{x:Pa}{v:V}(e:TSame H H')(h:sPa K H x v):sPa K H' x v:=by
 obtain ⟨a,rfl,q⟩:=h
 exact ⟨a,ϱ,e _ _ q⟩
def pk(x:Pa):List Key:=[.inl x.1,.inl x.2]
def t8{x y:Pa}(h:pk x=pk y):x=y:=by
 unfold pk at h
 simp only [List.cons.injEq,Sum.inl.injEq,and_true] at h
 exact Ć h.1 h.2
end Lo
namespace L2
open PySem PySem.Spec PyProof.Rows PySem.W Lo
def BB(mg:ā)(h:ã):Prop:=∃bm ob,mg "__builtins__"=some (.ref bm)/\bm≠builtinsNs/\h.get? bm=some ob/\ob.cls=.type "module"/\ob.dict=some builtinsNs/\ob.data=.plain
def iK(c:é)(q:Str):HO:=.ext λh=>∃o vs t,h.get? c=some o/\o.data=.fields vs/\vs[1]?=some (.str q t)
def mD(p:Pos)(c:é):ì:=#[]++#[rawInt p.line,rawInt p.col,.ref c]
def xj(p:Pos)(c:é):(mD p c).toList=[rawInt p.line,rawInt p.col,.ref c]:=by simp [mD]
def xk(p:Pos)(c:é):codeAmong p (mD p c).toList=some (.ref c):=by
 rw [xj]
 simp [codeAmong,rawInt]
def zQ(p:Pos)(c:é):TriplesOk (mD p c).toList:=by
 rw [xj]
 exact trivial
def Tb(H:Hp)(P:é)(p:Pos)(q:Str):Prop:=H P=some (.tbl #[])\/∃c,H P=some (.tbl (mD p c))/\H c=some (iK c q)
def noT:HO->Prop
 | .tbl _=>False
 | _=>True
def zB{Pg:ê}{w:è}{H:Hp}{h:ã}{c:é}{q:Str}{o:Obj}{vs:ì}{t:Tok}(e:h.get? c=some o)(d:o.data=.fields vs)(v:vs[1]?=some (.str q t)) :
  ObjOk Pg w H h c (iK c q):=⟨⟨o,vs,t,e,d,v⟩,⟨_,e⟩,λ_ _ ⟨o,vs,t,e,r⟩ k=>⟨o,vs,t,k _ e,r⟩⟩
end L2
namespace HT
open PySem PyProof.Rows
section
open PySem.SeqAt
open PySem.AutoSeq1 (wpAny_loadPart')
open PySem.MeetsSeq PySem.MeetsSeq2 PySem.MeetsSeq3
end
end HT
namespace L2
open PySem PySem.Spec PyProof.Rows PySem.W Lo
def Fun.okC{P:ê}{w:è}{K:ä}{mg:ā}{base:ã}{x d:Str}{st:â}{f:é}{g:ç}{N ps:ú}{k:Nat}{sp:Sp}(F:Fun K x d st f g)(S:ao N ps (defScope st))(len:∀vs H Q E,sp vs H Q E->vs.length=ps.length)
  (e:∀(A:æ) (b:ö) (s:ë) (H:Hp) (vs:à V) (Q:VK) (E:XK),Room k (A.deeper (envOfC d (defScope st) s.heap.objs.size f g.code))->sp vs H Q E ->
   ∃t,PSs (sQ CX0 P w K mg base N d (defScope st) f g.code A b s H E).nox (defBody st) t/\t {nx:=λ_ H'=>Q .non H',rt:=Q} (start N vs) H):FnOk P w K mg base CX0 (k+1) f g ps sp:=by
 obtain ⟨z,C,kV,l,pm,an,o,D,r,rfl,u,i⟩:=F.ex
 refine BG u i S len λA b s H vs Q E y j=>?_
 obtain ⟨t,h,q⟩:=e A b s H vs Q E y j
 exact ⟨t,h.nox,q⟩
theorem vz{h B f:ã}:∀{l:ö},h.FunFrames B l->(∀b∈frs l,f.get? b=none)->h.FunFrames f l
 | [],_,_=>trivial
 | env::r,⟨k,⟨L,o,fr,_,e,d⟩,t⟩,n=>by
  have m:frs (env::r)=L::frs r:=by
   show List.filterMap _ (env::r)=_
   rw [ġ,fr]
   rfl
  rw [m] at n
  exact ⟨k,⟨L,o,fr,n L Ω,e,d⟩,vz t λb hb=>n b (Θ _ hb)⟩
def jU(l:ö)(H:Hp)(h:ã):ã:=hideAll h (trk h H++frs l)
def kR{l:ö}{H:Hp}{h:ã}{b:é}{o:Obj}(e:h.get? b=some o)(n:H b=none)(nf:b∉frs l):(jU l H h).get? b=some o:=hideAll_get _ e λhm=>by
 rcases Ŷ.mp hm with z | z
 .have q:(H b).isSome=true:=(Ş.mp z).2
  rw [n] at q
  simp at q
 .exact nf z
def on{l:ö}{H:Hp}{h:ã}{b:é}{o:Obj}(e:(jU l H h).get? b=some o):h.get? b=some o/\H b=none/\b∉frs l:=by
 have d:h.get? b=some o:=of_hideAll _ e
 refine ⟨d,?_,λz=>?_⟩
 .cases q:H b with
  | none=>rfl
  | some x =>
   have f:b∈trk h H++frs l:=List.mem_append_left _ (List.mem_filter.mpr ⟨List.mem_range.mpr (Heap.lt_size d),by simp [q]⟩)
   have z:(jU l H h).get? b=none:=hideAll_none _ f
   rw [z] at e
   cases e
 .have z:(jU l H h).get? b=none:=hideAll_none _ (Ψ _ z)
  rw [z] at e
  cases e
def Bd(pp:ă)(cs:à (Addr×V))(h:ã):Prop:=(∀p∈pp,h.get? p.1=some p.2)/\∀c∈cs,∃u,RelV c.2 u/\h.IsCell c.1 (some u)
def rD(X:Cx)(cs:à (Addr×V))(σ:St):Prop:=∀c∈cs,∃(i:Nat) (x:Str),X.N[i]?=some x/\σ[i]?=some (some c.2)/\X.env.kindOf x=some .cell/\X.env.cells.lookup x=some c.1/\X.fn x=true
section
variable {X:Cx}{pins:ă}{σ:St}{H:Hp}{s:ë}
def Inv.nfr2(I:Inv X pins σ H s){b:é}{o:Obj}(e:X.base.get? b=some o):b∉frs X.stack:=λz=>by
 rcases ϕ.mp (I.stkSub b z) with z | z
 .have:=η (I.ok.bs b o e).1
  rw [z] at this
  exact absurd this (Nat.not_lt.mpr I.ok.above)
 .exact I.ok.nofr e z
def Inv.baseK(I:Inv X pins σ H s):∀b o,X.base.get? b=some o->(jU X.stack H s.heap).get? b=some o:=λb o e=>kR (I.bs b o e).1 (I.bs b o e).2 (I.nfr2 e)
def Inv.modB(I:Inv X pins σ H s):Mod X.K X.mg (jU X.stack H s.heap):=by
 obtain ⟨d,e,⟨f,g,h⟩,i⟩:=I.ok.mod
 have b:=I.baseK
 exact ⟨d.keeps b,e.keeps b,⟨f,g.keeps b,h⟩,i.keeps b⟩
def Inv.env0B(I:Inv X pins σ H s):Env0 X.prog X.w X.K X.mg (jU X.stack H s.heap) X.A X.stack s H:=by
 refine ⟨I.ok.frames,I.modB,λb o e=>⟨(on e).1,(on e).2.1⟩,Nat.le_of_eq (hideAll_size _ _),vz I.stack λb hb=>?_,I.stkFree,I.hok,I.bare⟩
 cases z:(jU X.stack H s.heap).get? b with
 | none=>rfl
 | some o=>exact absurd hb (on z).2.2
def Inv.pinB{pp:ă}{cs:à (Addr×V)}(I:Inv X pins σ H s)(C:∀p∈pp,p∈X.pn)(D:rD X cs σ):Bd pp cs (jU X.stack H s.heap):=by
 refine ⟨λp f=>?_,λc f=>?_⟩
 .obtain ⟨e,n,h,j,_⟩:=I.pin p (ź _ (C p f))
  exact kR e n λz=>(ϕ.mp (I.stkSub _ z)).elim h j
 .obtain ⟨i,x,h1,l,g,b,q⟩:=D c f
  obtain ⟨m,F,w⟩:=I.loc
  obtain ⟨u,r,y⟩:=w i x c.2 h1 l (.inr (.inl g))
  rcases y with ⟨z,_⟩ | ⟨_,c',e,o,ho,hd⟩
  .rw [g] at z
   cases z
  .rw [b] at e
   cases e
   refine ⟨u,r,o,kR ho (I.freeC x _ b) λz=>?_,hd⟩
   rcases ϕ.mp (I.stkSub _ z) with z | z
   .exact I.cne x _ b z
   .obtain ⟨_,G,d,_⟩:=I.ok.funs.mem z
    exact absurd (η d) (Nat.not_lt.mpr (I.ok.cab x _ q b))
end
structure zM(N:ú)(x:Str)(sc:Scope)(cl:ý):Prop where
 kind:sc.kind=.function
 co:sc.isCoroutine=false
 gen:sc.isGenerator=false
 nd:N.Nodup
 pre:N[0]?=some x
 par:sc.names.lookup x=some .local
 nocell:∀y∈sc.names,y.2≠.cell
 free:∀y,sc.names.lookup y=some .free->∃c,cl.lookup y=some c
 inj:∀y z c,cl.lookup y=some c->cl.lookup z=some c->y=z
def zA(CX:CXT)(P:ê)(w:è)(K:ä)(mg:ā)(base:ã)(N:ú)(qual:Str)(scope:Scope)(f:é)(cd:å)(cl:ý)(A:æ)(outer:ö)(s:ë)(H:Hp)(E:XK):Cx where
 prog:=P
 w:=w
 K:=K
 mg:=mg
 base:=base
 A:=A.deeper (envX qual scope s.heap.objs.size f cd cl)
 N:=N
 s₀:=s
 H₀:=H
 env:=envX qual scope s.heap.objs.size f cd cl
 outer:=outer
 stack:=envX qual scope s.heap.objs.size f cd cl::outer
 ex:=[]
 calm:=true
 fn:=λ_=>false
 pn:=[]
 xe:=λe s'=>wpAny (model P w) (A.deeper (envX qual scope s.heap.objs.size f cd cl)) (leaving (envX qual scope s.heap.objs.size f cd cl) e) (λ_ s''=>CX outer H s E e s'') (λe' s''=>CX outer H s E e' s'') s'
end L2
namespace L2
open PySem PySem.Spec PyProof.Rows Lo
def ue{X:Cx}(n:Nat)(f:X.A.units+n<cLine):OpR X (compareOp .Eq) (λx y H Q=>tf X.K n H x y true/\Q (.bl true) H):=by
 intro b s σ H x y v u Q I d e h
 exact h.1 X.prog X.w X.A s v u f I.hok I.kIn d e X.prog X.w X.xe _ ⟨.bl true,H,I,ϱ,h.2⟩
open PySem.W
def AR{k:Key}{u:å}(h:oy k u=true):RelV (kV k) u:=by
 cases k with
 | inl i=>exact Value.isInt_shape h
 | inr x=>exact Value.isStrOf_shape h
def jX(f:é)(q:Str)(pr:Arguments)(b:á)(sc:Scope)(cl:ý)(c:é):HO:=.ext λh=>∃pm ct,h.get? f=some {cls:=.type "function",data:=.func (kla_fn "<lambda>" q pr b sc cl pm (.ref c) ct)}
def sC{Pg:ê}{w:è}{H:Hp}{h:ã}{f:é}{q:Str}{pr:Arguments}{b:á}{sc:Scope}{cl:ý}{c:é}{pm ct:å}(e:h.get? f=some {cls:=.type "function",data:=.func (kla_fn "<lambda>" q pr b sc cl pm (.ref c) ct)}) :
  ObjOk Pg w H h f (jX f q pr b sc cl c):=⟨⟨pm,ct,e⟩,⟨_,e⟩,λ_ _ ⟨pm,ct,e⟩ k=>⟨pm,ct,k _ e⟩⟩
def DF(P:é)(p:Pos)(q:Str)(pr:Arguments)(b:á)(sc:Scope)(cl:ý):TE:=λ_ H Q=>Tb H P p q/\∀f c H',Kp P H H'->H' P=some (.tbl (mD p c))->((H P=some (.tbl #[])/\H c=none)\/H P=some (.tbl (mD p c)))->H f=none->H' f=some (jX f q pr b sc cl c)->H' c=some (iK c q)->Q (.ref f) H'
def vf{X:Cx}{cl:ý}{cc P:é}{pos:Pos}{q:Str}{J:Arguments}{b:á}{L:Scope}(x:X.env.code=.ref cc)(hC:codeHdIn X.K cc P=true)(hB:BB X.mg X.base)(hq:X.env.qual++"<lambda>"=q)
  (a6:closureFor L X.env=pure cl)(a7:defaultsOf J X.env=([],[])):PE X (.Lambda J b L pos) (DF P pos q J b L cl):=by
 intro a5 s σ H Q I h
 obtain ⟨D,hQ⟩:=h
 subst hq
 refine kla_eval a7 ?_
 have hg:s.heap.Ns mainGlobals X.mg:=I.ok.mod.glob.keeps I.bk
 have C:CodeHd s.heap cc P:=codeHd_of_K I.kIn hC
 obtain ⟨bm,ob,b1,b2,b3,b4,b5,b6⟩:=hB
 have i:=I.bk _ _ b3
 have a0:bm≠mainGlobals:=λz=>by
  obtain ⟨o,es,ep,e,Y,_⟩:=hg
  rw [z,e] at i
  cases i
  rw [Y] at b6
  cases b6
 have nG:∀ps,s.heap.get? P=some (tabObj ps)->mainGlobals≠P/\bm≠P:=λps e=>by
  refine ⟨λz=>?_,λz=>?_⟩
  .obtain ⟨o,es,ep,e',Y,_⟩:=hg
   rw [z,e] at e'
   cases e'
   cases Y
  .rw [z,e] at i
   cases i
   cases b4
 rcases D with e | ⟨c,e,ec⟩
 .have W:s.heap.get? P=some (tabObj #[]):=I.hok P _ e
  obtain ⟨n1,Z⟩:=nG _ W
  refine kla_makeFunction (mg:=X.mg) (clos:=cl) a6 I.ok.glob hg x C W trivial rfl n1 ⟨bm,ob,b1,b2,a0,Z,i,b4,b5,b6⟩ λc ct g tk hx j G a4 D=>?_
  obtain ⟨c₂,oc,vs,t,e2,aR,Y,hv⟩:=a4
  cases e2
  have ltP:P<s.heap.objs.size:=η W
  have a1:H c=none:=I.hok.fresh j
  have w:H g.objs.size=none:=I.hok.fresh (Ĉ (Š j G))
  have cf:c≠g.objs.size:=Φ G
  have Pc:P≠c:=Φ (ŷ ltP j)
  have Pf:P≠g.objs.size:=Φ (Nat.lt_trans (ŷ ltP j) G)
  let H3:Hp:=upd (upd (upd H P (.tbl (mD pos c))) c (iK c (X.env.qual++"<lambda>"))) g.objs.size (jX g.objs.size (X.env.qual++"<lambda>") J b L cl c)
  have O:∀d,d≠g.objs.size->d≠c->d≠P->H3 d=H d:=λd n1 Z n3=>(am n1).trans ((am Z).trans (am n3))
  have a2:H3 g.objs.size=some (jX g.objs.size (X.env.qual++"<lambda>") J b L cl c):=ae
  have a3:H3 c=some (iK c (X.env.qual++"<lambda>")):=(am cf).trans ae
  have U:H3 P=some (.tbl (mD pos c)):=(am Pf).trans ((am Pc).trans ae)
  have old:∀d o,d≠P->H d=some o->H3 d=some o:=λd o n z=>(O d (aq z w) (aq z a1) n).trans z
  have kp:∀d o,d≠P->s.heap.get? d=some o->(g.push (kla_obj "<lambda>" (X.env.qual++"<lambda>") J b L cl ((X.mg "__name__").getD .none) c ct)).get? d=some o:=λd o n z=>ρ _ (hx d o n z)
  have F:∀d,H d=none->d≠P:=λd z y=>by
   rw [y,e] at z
   cases z
  have f:∀d o,noT o->H d=some o->d≠P:=λd o n z y=>by
   rw [y,e] at z
   cases z
   exact n
  have I3:Inv X a5 σ H3 {s with heap:=g.push (kla_obj "<lambda>" (X.env.qual++"<lambda>") J b L cl ((X.mg "__name__").getD .none) c ct),toks:=tk}:=by
   refine I.step (g':=s.gens) (d':=s.drawn) (t':=tk) (ch:=[]) (λ_ z=>nomatch z) (λd o _ _ _ z n=>kp d o (F d n) z) (λd o _ _ _ z n=>⟨o.slots,kp d o (F d n) z⟩) (λd o _ z n=>?_) (λd o _ z=>?_)
    (λd xs z=>old d _ (f d (.tup xs) trivial z) z) (λd o u z=>old d _ (f d (.frz o u) trivial z) z) (λd ps z=>?_) (λm hm=>?_) (λd u z=>?_) I.bare
   .have l:=η z
    exact (O d (Φ (ŷ l (Ĉ (Š j G)))) (Φ (ŷ l j)) (F d n)).trans n
   .by_cases y:d=P
    .rw [y]
     exact ⟨_,ρ _ D⟩
    .exact ⟨o,kp d o y z⟩
   .by_cases y:d=P
    .subst y
     rw [e] at z
     cases z
     exact ⟨#[rawInt pos.line,rawInt pos.col,.ref c],U⟩
    .exact ⟨#[],by rw [old d _ y z];simp⟩
   .obtain ⟨o,es,ep,ho,r⟩:=hm
    exact ⟨o,es,ep,kp _ o (F _ I.free) ho,r⟩
   .by_cases y1:d=g.objs.size
    .subst y1
     rw [a2] at z
     cases z
     exact sC (ψ _ rfl)
    .by_cases y2:d=c
     .subst y2
      rw [a3] at z
      cases z
      exact zB (ρ _ aR) Y hv
     .by_cases y3:d=P
      .subst y3
       rw [U] at z
       cases z
       exact ρ _ D
      .rw [O d y1 y2 y3] at z
       refine (I.hok d u z).stay (λa v ha q=>kp a v ?_ q) (λa q=>old a _ (f a (.own d) trivial q) q) λa xs q=>old a _ (f a (.tup xs) trivial q) q
       rcases ha with ha | ha
       .rw [ha]
        exact y3
       .exact f a (.own d) trivial ha
  exact ⟨.ref g.objs.size,H3,I3,ϱ,hQ _ c H3 (λd o n z=>old d o n z) U (.inl ⟨e,a1⟩) w a2 a3⟩
 .have W:s.heap.get? P=some (tabObj (mD pos c)):=I.hok P _ e
  obtain ⟨n1,Z⟩:=nG _ W
  refine kla_makeFunctionHit (mg:=X.mg) (clos:=cl) (cv:=.ref c) a6 I.ok.glob hg x C W (zQ _ _) (xk _ _) ⟨bm,ob,b1,b2,a0,Z,i,b4,b5,b6⟩ λct g tk hk hz=>?_
  have w:H g.objs.size=none:=I.hok.fresh hz
  have sm:=af (o:=jX g.objs.size (X.env.qual++"<lambda>") J b L cl c) w
  exact ⟨.ref g.objs.size,_,I.laid (o:=jX g.objs.size (X.env.qual++"<lambda>") J b L cl c) (t':=tk) (λd o z=>ρ _ (hk d o z)) hz (sC (ψ _ rfl)),ϱ,
   hQ _ c _ (Kp.of sm) (sm _ _ e) (.inr e) w ae (sm _ _ ec)⟩
def sB{P:ê}{w:è}{K:ä}{mg:ā}{base:ã}{A:æ}{d:ö}{s:ë}{H:Hp}{k:Nat}{f c:é}{q:Str}{pr:Arguments}{b:á}{g:Scope}{cl:ý}{N:ú}{x:Str}{fvs:à V}{cs:à (Addr×V)}{u:å}{v:V}{Q:VK}
  (hr:Room (k+1) A)(e0:Env0 P w K mg base A d s H)(hB:Bd [] cs base)(S:zM N x g cl)(W:N.length=fvs.length+1)(a6:∀y a,cl.lookup y=some a->∃v,(a,v)∈cs)
  (a7:∀(j:Nat) (y:Str) (v:V),N[j+1]?=some y->fvs[j]?=some v->g.names.lookup y=some .free/\∃a,cl.lookup y=some a/\∀v',(a,v')∈cs->v'=v)(hf:H f=some (jX f q pr b g cl c))(hc:H c=some (iK c q))(r:RelV v u)
  (hb:∀pm ct,BindsTo s (kla_fn "<lambda>" q pr b g cl pm (.ref c) ct) ⟨[u],[]⟩ [(x,u)])(L:∃t,PE (zA CX0 P w K mg base N q g f (.ref c) cl A d s H E0) b t/\t ((v::fvs).map some) H Q) :
  codeAny (model P w) A (.call (.ref f) ⟨[u],[]⟩) (CR CX0 d P w H s Q E0) s:=by
 have a2:s.heap.NoLimit:=e0.mod.nolimit.keeps λb o e=>(e0.bs b o e).1
 obtain ⟨⟨pm,ct,C⟩,_⟩:=(show ObjOk P w H s.heap f (jX f q pr b g cl c) from e0.hok f _ hf)
 obtain ⟨⟨oc,ws,t,X,Y,hv⟩,_⟩:=(show ObjOk P w H s.heap c (iK c q) from e0.hok c _ hc)
 obtain ⟨_,Z⟩:=hB
 refine kla_callFunE (by have:=hr.dp;omega) C rfl S.co S.gen rfl ⟨c,oc,ws,t,ϱ,X,Y,hv⟩ (hb pm ct _ _ _ _ ?_)
 refine wpAny_newFunctionEnv S.nocell (λy hy=>by obtain rfl:=ϵ.mp hy;exact S.par) (λh₁ a3 U=>⟨a2.fresh _ U,kla_codeExpr ?_⟩) S.kind
 have l:∀b o,s.heap.get? b=some o->h₁.get? b=some o:=λb o e=>U.extBut b o (Φ (η e)) (ρ _ e)
 obtain ⟨t,ht,hq⟩:=L
 have dh:∀y a,cl.lookup y=some a->∃v,(a,v)∈cs/\∃u,RelV v u/\s.heap.IsCell a (some u)/\H a=none:=λy a e=>by
  obtain ⟨v,O⟩:=a6 y a e
  obtain ⟨u,ru,o,C,Y⟩:=Z _ O
  exact ⟨v,O,u,ru,⟨o,(e0.bs _ _ C).1,Y⟩,(e0.bs _ _ C).2⟩
 have F:∀b:é,b∉(zA CX0 P w K mg base N q g f (.ref c) cl A d s H E0).ex:=λb z=>absurd (show b∈([]:û) from z) (by simp)
 have I:Inv (zA CX0 P w K mg base N q g f (.ref c) cl A d s H E0) [] ((v::fvs).map some) H {s with heap:=h₁,toks:=s.toks+[(x,u)].length}:=by
  refine ⟨⟨e0.mod,S.kind,ϱ,ϱ,ι _,S.inj,λy hy=>?_,λy c h _=>absurd h (by show ¬(false=true);decide),λ_=>hr.hd,Around.frames_deeper e0.frames,.inr ⟨ϱ,ϱ⟩,λb z=>absurd z (F b),e0.bs,e0.bsz,λb _ _=>F b,λb z=>absurd z (F b),e0.funs,e0.frf⟩,
   rfl,e0.bare,Un.kept l,⟨_,a3,λi y v' h1 h2 h3=>?_⟩,λy a e=>?_,e0.hok.fresh (Nat.le_refl _),λy a e=>?_,λp hp=>absurd (show p∈([]:ă) from hp) (by simp),e0.hok.kept l,?_⟩
  .have hy:g.names.lookup y=some .cell\/g.names.lookup y=some .free:=hy
   rcases hy with hy | hy
   .exact absurd rfl (S.nocell _ (ů hy))
   .exact S.free y hy
  .cases i with
   | zero =>
    have e1:some x=some y:=S.pre.symm.trans h1
    cases e1
    have G:some (some v)=some (some v'):=h2
    cases G
    exact ⟨u,r,.inl ⟨S.par,by simp⟩⟩
   | succ j =>
    have G:(fvs.map some)[j]?=some (some v'):=h2
    rw [Ż] at G
    cases e3:fvs[j]? with
    | none =>
     rw [e3] at G
     cases G
    | some v2 =>
     rw [e3] at G
     cases G
     obtain ⟨hf,a,ea,hu⟩:=a7 j y _ h1 e3
     obtain ⟨v3,O,u3,r3,⟨o,C,D⟩,_⟩:=dh y a ea
     obtain rfl:=hu _ O
     exact ⟨u3,r3,.inr ⟨.inr hf,a,ea,o,l _ _ C,D⟩⟩
  .obtain ⟨v3,O,u3,r3,⟨o,C,D⟩,_⟩:=dh y a e
   exact ⟨_,o,l _ _ C,D⟩
  .obtain ⟨v3,O,u3,r3,_,n⟩:=dh y a e
   exact n
  .show _=N.length
   rw [W]
   simp
 refine ū (ht [] _ _ H Q I hq) (λu s' hs=>?_) λe s' hs=>hs
 obtain ⟨v,H',J,rv,q⟩:=hs
 exact ⟨v,H',J.os,J.bare,J.base,J.hok,rv,q⟩
structure CloT(P:ê)(w:è)(K:ä)(mg:ā)(base:ã)(k:Nat)(f:é)(sp:Sp)(H:Hp):Prop where
 fn:∃q pr b sc cl c,H f=some (jX f q pr b sc cl c)
 run:∀(H1:Hp) (A:æ) (outer:ö) (s:ë) (v:V) (u:å) (Q:VK),Same H H1->Room k A->Env0 P w K mg base A outer s H1->RelV v u->sp [v] H1 Q E0->codeAny (model P w) A (.call (.ref f) ⟨[u],[]⟩) (CR CX0 outer P w H1 s Q E0) s
def CloT.keep{P:ê}{w:è}{K:ä}{mg:ā}{base:ã}{k:Nat}{f:é}{sp:Sp}{H H':Hp}(h:CloT P w K mg base k f sp H)(e:Same H H'):CloT P w K mg base k f sp H' :=
 ⟨let ⟨q,pr,b,sc,cl,c,z⟩:=h.fn;⟨q,pr,b,sc,cl,c,e _ _ z⟩,λH1 A outer s v u Q e1 hr e0 r hs=>h.run H1 A outer s v u Q (e.trans e1) hr e0 r hs⟩
section
variable {X:Cx}{CX:CXT}{k:Nat}{f C:é}{fd:ç}{ps:ú}{E:XK}{x m:Str}{p pos apos:Pos}{e o:á}{es:õ}{ta:TE}{t:TA}{cs:à (Addr×V)}
def BZ(P:ê)(w:è)(K:ä)(mg:ā)(base:ã)(k i:Nat)(sp:Sp)(t:TA):TE:=fun σ H Q=>∃f,σ[i]?=some (some (.ref f))/\(∃q pr b sc cl c,H f=some (jX f q pr b sc cl c))/\t σ H λvs H1=>∃v,vs=[v]/\CloT P w K mg base k f sp H1/\sp [v] H1 Q E0
def og{i:Nat}{sp:Sp}(P:ê)(w:è)(K:ä)(mg:ā)(base:ã)(hN:X.N[i]?=some x)(hv:Vis X.env.scope x)(hr:Room k X.A)(ha:PA X [e] t)(hP:X.prog=P:=by rfl)(hw:X.w=w:=by rfl)(hK:X.K=K:=by rfl)(C:X.mg=mg:=by rfl)(D:X.base=base:=by rfl)
  (F:(x==("__debug__":Str))=false:=by decide)(G:(x==("__classdict__":Str))=false:=by decide)(he:starEach [e] X.env=(false,eval e X.env)::starEach [] X.env:=by rfl)(L:(backTo pos (starEach [] X.env)).any (·.1)=false:=by rfl) :
  PE X (.Call (.Name x p) [e] [] pos) (BZ P w K mg base k i sp t):=by
 subst hP hw hK C D
 intro d s σ H Q I ⟨f,hσ,hf,h⟩
 have j:∀{σ':St} {g:Hp} {l:ë},Inv X d σ' g l->(∃q pr b sc cl c,g f=some (jX f q pr b sc cl c))->FnAt f l.heap:=λ{σ' g l} J ⟨q,pr,b,sc,cl,c,z⟩=>by
  obtain ⟨⟨pm,ct,W⟩,_⟩:=(show ObjOk X.prog X.w g l.heap f (jX f q pr b sc cl c) from J.hok f _ z)
  exact ⟨_,_,_,_,W⟩
 refine Ļ (thn ((ua (pos:=p) hN hv F G) d s σ H (λv g=>v=.ref f/\g=H) I ⟨_,hσ,ϱ,ϱ⟩) λu Y ⟨v,H1,O,r,Z,e2⟩=>?_)
 subst Z
 subst e2
 cases r
 refine callWith_F (first:=[]) (j O hf) (thn (ha pos d Y σ H1 _ O h) λus s2 ⟨vs,H2,y,r,v,ev,U,q⟩=>⟨j y U.fn,?_⟩) he L
 subst ev
 cases r with
 | cons rv rr =>
  cases rr
  refine wpAny_call (Ė (U.run H2 X.A X.stack s2 v _ Q (Same.refl _) hr y.env0 rv q) λr l o=>?_)
  cases r with
  | error e=>exact False.elim o
  | ok fl =>
   cases fl with
   | ret u=>exact y.after o
   | next=>exact False.elim o
   | brk=>exact False.elim o
   | cont=>exact False.elim o
def BQ(X:Cx)(cs:à (Addr×V))(C:é)(m:Str)(sp:ã->Sp)(E:XK)(ta:TE)(t:TA):TE:=fun σ H Q=>rD X cs σ/\ta σ H λx H1=>∃a dx fs,x=.ref a/\H1 a=some (.ins C dx fs)/\fs.lookup m=none /\
 t σ H1 λvs H2=>∀B,X.K.In B->Bd [] cs B->sp B (x::vs) H2 Q E
def xS{sp:ã->Sp}{pl:Sem Bool}(he:PE X o ta)(c:Cls X.K C)(U:i9 X.K C m f)(F:∀B:ã,X.K.In B->FnOk X.prog X.w X.K X.mg B CX k f fd ps (sp B))(hr:Room k X.A)(hb:Binds X.K fd ps [])(hx:dO CX X E)(ha:PA X (e::es) t)
  (D:starEach (e::es) X.env=(false,eval e X.env)::starEach es X.env:=by rfl)(G:(backTo pos (starEach es X.env)).any (·.1)=false:=by rfl)
  (ht:eval (.Call (.Attribute o m apos) (e::es) [] pos) X.env=(do
   let ov ← eval o X.env
   standAt apos.atName
   let (f,first) ← holding [ov] (getMethod ov m pl)
   callWith pos f first (backTo pos (starEach (e::es) X.env)) (backToKw pos (keywordEach [] X.env))):=by rfl) :
  PE X (.Call (.Attribute o m apos) (e::es) [] pos) (BQ X cs C m sp E ta t):=by
 intro b s σ H Q I ⟨hc,h⟩
 refine Ď (pl:=pl) (thn (he b s σ H _ I h) λu Z ⟨x,H1,O,rx,a,dx,fs,ex,ea,l,q⟩=>?_) ht
 subst ex
 obtain rfl:u=Value.ref a:=rx
 refine jl O ea c U l ?_
 refine ĕ (first:=[.ref a]) (h₀:=X.base) I.ok.mod.kin U.kp (thn (ha pos b Z σ H1 _ O q) λj y ⟨vs,P,g,r,q2⟩=>⟨g.kIn,?_⟩) D G
 have d:=q2 _ g.modB.kin (g.pinB (pp:=[]) (λp z=>nomatch z) hc)
 have J:=F _ g.modB.kin
 have L:Vals (.ref a::vs) (.ref a::j):=.cons rfl r
 have Y:((Value.ref a::j)++[]).length=ps.length:=by rw [ţ,← L.length];exact J.len _ _ _ _ d
 have i:=hb y (.ref a::j) g.kIn Y
 rw [ţ] at i
 refine wpAny_call (Ė (J.run X.A X.stack y P ⟨.ref a::j,[]⟩ (.ref a::j) (.ref a::vs) Q E hr g.env0B i L d) λr s' d=>?_)
 cases r with
 | error e=>exact hx b σ P y e s' g d
 | ok fl =>
  cases fl with
  | ret u=>exact g.after d
  | next=>exact False.elim d
  | brk=>exact False.elim d
  | cont=>exact False.elim d
end
def fH:plainId "dict.update.loop"=true:=by decide +kernel
def lA : entryFor table "dict.update.loop" = some Builtin.«dict.update.loop» := entryFor_of_tree (by kernel_rfl)
def uH(P:ê)(w:è)(h:ã)(u:å)(kv:Key×å):Prop:=∃b key,u=.ref b/\h.IsTuple b #[key,kv.2]/\(aM P w).is kv.1 key=true
def uB{P:ê}{w:è}{A:æ}{R:Result->ë->Prop}{d it t:é}(hh:A.in1.handled=none)(D:d≠it)(ak:d≠t)(ap:it≠t)(us:ü)(g:à (Key×å))(lk:us.length=g.length) :
  ∀(n i:Nat) (s:ë) (f:à (Key×å)) (tk:Tok),us.length-i=n->i<=us.length->s.heap.IsTupleIter it t i->s.heap.IsTuple t us.toArray->s.heap.DictOf (aM P w) d f->f.length+us.length<=sizeLine+i ->
   (∀(j:Nat) (u:å) (h:Key×å),us[j]?=some u->g[j]?=some h->uH P w s.heap u h/\u≠.ref d/\u≠.ref it) ->
   (∀h' tk',h'.DictOf (aM P w) d (merged f (g.drop i))->(∀b o,b≠d->b≠it->s.heap.get? b=some o->h'.get? b=some o)->R (.ok (.ret .none)) {s with heap:=h',toks:=tk'}) ->
   codeAny (model P w) A (.builtin "dict.update.loop" ⟨[.ref d,.ref it,.int i tk,.none],[]⟩) R s:=by
 intro n
 induction n with
 | zero =>
  intro i s f tk hn hi C L hd hz hp hR
  have e:i=us.length:=by omega
  subst e
  refine Đ lA ?_
  rw [ĵ fH _]
  show wpAny _ A.in1 (pyNext (.ref it) >>= _) _ _ s
  refine wpAny_bind (wpAny_pyNext_tuple_end hh C L (by simp) λh' eb=>?_)
  have e0:g.drop us.length=[]:=by rw [lk];exact List.drop_length
  show wpAny _ _ (Builtin.Dict.addKeywords d [] >>= λ_=>ret Value.none) _ _ _
  refine ε (π (π ?_))
  refine hR h' s.toks ?_ (λb o _ nb e=>eb b o nb e)
  rw [e0]
  exact hd.extBut eb D
 | succ n ih =>
  intro i s f tk hn hi C L hd hz hp hR
  have H:i<us.length:=by omega
  have Y:us[i]?=some us[i]:=ξ H
  have K:g[i]?=some (g[i]'(ω)):=ξ ω
  generalize us[i]=u at Y
  generalize (g[i]'(ω))=h at K
  have ek:g.drop i=h::g.drop (i+1):=by
   rw [List.drop_eq_getElem_cons ω]
   rw [ξ ω] at K
   rw [Δ K]
  obtain ⟨⟨b,y,rfl,hb,F⟩,nd,ni⟩:=hp i u h Y K
  have b5:b≠d:=λz=>nd (by rw [z])
  have Z:b≠it:=λz=>ni (by rw [z])
  refine Đ lA ?_
  rw [ĵ fH _]
  show wpAny _ A.in1 (pyNext (.ref it) >>= _) _ _ s
  refine wpAny_bind (wpAny_pyNext_tuple_item C L (by simpa using Y) λh1 J l=>?_)
  have I:h1.IsTuple b #[y,h.2]:=by
   obtain ⟨o,q,r⟩:=hb
   exact ⟨o,(l.2 b Z).trans q,r⟩
  have a0:h1.DictOf (aM P w) d f:=hd.sameBut l D
  have a1:h1.IsTuple t us.toArray:=by
   obtain ⟨o,q,r⟩:=L
   exact ⟨o,(l.2 t (Ne.symm ap)).trans q,r⟩
  refine ε (Ŝ (ε (wpAny_tryCatch ?_)))
  show wpAny _ _ (Builtin.Dict.pairItems (.ref b)) _ _ _
  unfold Builtin.Dict.pairItems
  refine ε (wpAny_typeOf I.typeIs ?_)
  rw [Ź ζ]
  obtain ⟨ob,O,b1,nb,Q⟩:=id I
  refine ε (wpAny_seqItems O Q (π ?_))
  show wpAny _ _ (holding [y,h.2] (dictSet d y h.2)) _ _ _
  refine Ŝ (wpAny_dictSet_pairs F a0 (λh2 a2 x=>?_) ω)
  refine π ⟨plainId_quiet fH _,ih (i+1) _ (stored f h.1 h.2) _ ω H ?_ ?_ a2 ?_ ?_ λh' tk' a3 kp=>?_⟩
  .obtain ⟨o,q,r⟩:=J
   exact ⟨o,(x.2 it (Ne.symm D)).trans q,r⟩
  .obtain ⟨o,q,r⟩:=a1
   exact ⟨o,(x.2 t (Ne.symm ak)).trans q,r⟩
  .have:(stored f h.1 h.2).length<=f.length+1:=by
    unfold stored
    split
    .rw [ν];omega
    .rw [Ž];exact ι _
   omega
  .intro j u2 ab e1 e2
   obtain ⟨⟨U,G,rfl,W,X⟩,n1,n2⟩:=hp j u2 ab e1 e2
   refine ⟨⟨U,G,ϱ,?_,X⟩,n1,n2⟩
   obtain ⟨o,q,r⟩:=W
   exact ⟨o,(x.2 U λz=>n1 (by rw [z])).trans ((l.2 U λz=>n2 (by rw [z])).trans q),r⟩
  .refine hR h' tk' ?_ λb3 o3 x1 x2 e3=>kp b3 o3 x1 x2 ((x.2 b3 x1).trans ((l.2 b3 x2).trans e3))
   rw [ek]
   exact a3
def AH:typeLookup (.type "tuple") "keys"=pure none:=am_miss_of_fast (by kernel_rfl)
set_option maxRecDepth 100000 in
def sD{prog:ê}{w:è}{A:æ}{E:Ă}{s:ë}{a:é}{xs:ì}{k:Nat}{l:Array (î)}{Q:î->ë->Prop}
  (q:s.heap.get? a=some {cls:=.type "tuple",dict:=none,data:=.seq xs k,slots:=l})(x:A.handled=none)
  (h:∀h' tk,(∀b o,s.heap.get? b=some o->h'.get? b=some o)->Q none {s with heap:=h',toks:=tk}) :
  wpAny (model prog w) A (getAttr? (.ref a) "keys") Q E s:=by
 obtain ⟨r,g,d,tk,u⟩:=s
 have j:∀f,(⟨r,g,d,f,u⟩:ë).TypeIs (.ref a) "tuple":=λ_=>⟨_,q,ϱ⟩
 have D:=sub_AttributeError
 have G:=F.slot_tuple_getattribute.lookup
 have H:=F.slot_tuple_getattribute.bind (.ref a)
 have I:=am_tuple_getattr_none
 unfold getAttr? getAttrBy? getAttrBy
 repeat (any_goals (first | assumption | exact j _ | ((with_reducible show wpAny _ _ (call (Value.builtin "tuple.__getattribute__") _ _) _ _ _);refine call_meets F.slot_tuple_getattribute (j _) am_entry_tuple_getattribute (F.args_tuple_getattribute_2 _ _) (meets_getattribute_miss_tuple a xs k l "keys" _ AH θ θ) ⟨q,x,λh' f e i=>?_⟩) | wp_step))
 obtain ⟨y,z,C⟩:=i.there
 show wpAny _ _ (getattributeRaised _ _ _ _ _ _ _) _ _ _
 unfold getattributeRaised
 repeat (any_goals (first | assumption | wp_step))
 exact h _ _ i.keeps
def lY{P:ê}{w:è}{A:æ}{E:Ă}{s:ë}{t:é}{us:ü}{l:à (Key×å)}{Q:Ă}(hh:A.handled=none)(nd:s.heap.NoDictAt (.ref t))(ht:s.heap.IsTuple t us.toArray)(lk:us.length=l.length)(hz:us.length<=sizeLine)
  (hp:∀(j:Nat) (u:å) (H:Key×å),us[j]?=some u->l[j]?=some H->uH P w s.heap u H)
  (h:∀h' tk,h'.DictOf (aM P w) s.heap.objs.size (merged [] l)->(∀b o,s.heap.get? b=some o->h'.get? b=some o)->Q (.ref s.heap.objs.size) {s with heap:=h',toks:=tk}) :
  wpAny (model P w) A (call (.type "dict") [.ref t]) Q E s:=by
 refine callType_codes (Q₁:=λC s₁=>C=.ref s.heap.objs.size/\s₁={s with heap:=s.heap.push {cls:=.type "dict",data:=.dict #[]}}) F.kt_called_dict (F.kt_typeCall_dict_1 _) F.entry_dict_init (kt_code_dict_new _ ⟨ϱ,ϱ⟩) ?_
 rintro C s₁ ⟨rfl,rfl⟩
 have f:(s.heap.push {cls:=.type "dict",data:=.dict #[]}).DictOf (aM P w) s.heap.objs.size []:=Heap.DictOf.new s.heap
 obtain ⟨o,I,Y,n,q⟩:=ht
 have L:=nd.of I
 have x:t<s.heap.objs.size:=η I
 refine ⟨f.typeIs,F.args_dict_init_2 _ _,?_⟩
 unfold Builtin.«dict.__init__»
 refine ε ?_
 unfold Builtin.Dict.selfAndRest
 refine ε (ļ f.typeIs ?_)
 show wpAny _ _ (pure (s.heap.objs.size,[Value.ref t])) _ _ _
 refine π ?_
 show wpAny _ _ (Builtin.Dict.updateFrom "dict.__init__" s.heap.objs.size (.ref t) [] .none) _ _ _
 unfold Builtin.Dict.updateFrom
 have g:(s.heap.push {cls:=.type "dict",data:=.dict #[]}).get? t=some o:=ρ _ I
 have O:({s with heap:=s.heap.push {cls:=.type "dict",data:=.dict #[]}}:ë).TypeIs (.ref t) "tuple":=⟨o,g,Y⟩
 refine ε (wpAny_typeOf O ?_)
 rw [Ź ζ]
 obtain ⟨oc,od,J,a6⟩:=o
 cases (show oc=_ from Y)
 cases (show od=_ from L)
 cases (show J=_ from q)
 refine ε (sD g hh λD a8 G=>?_)
 rw [Ź (show (none:î).isNone=true from rfl)]
 refine ε (Ą ?_)
 have y:D.DictOf (aM P w) s.heap.objs.size []:=by
  obtain ⟨o,es,Z,e,r⟩:=f
  exact ⟨o,es,Z,G _ _ e,r⟩
 have U:D.IsTuple t us.toArray:=⟨_,G _ _ g,ϱ,_,ϱ⟩
 refine ε (wpAny_pyIter_tuple U ?_)
 have i:s.heap.objs.size<D.objs.size:=by
  obtain ⟨o,es,Z,e,r⟩:=y
  exact η e
 have kk:∀b o,s.heap.get? b=some o->(D.push {cls:=.type "tuple_iterator",data:=.fields #[.ref t,.int 0 0]}).get? b=some o:=λb o e=>ρ _ (G b o (ρ _ e))
 refine wpAny_pure ⟨plainId_quiet fH _,uB (A:=A.in1) (d:=s.heap.objs.size) (it:=D.objs.size) (t:=t) hh (Nat.ne_of_lt i) (Nat.ne_of_gt x) (Nat.ne_of_gt (Nat.lt_trans x i)) us l lk us.length 0 _ [] _ ω (Nat.zero_le _) ⟨_,Heap.get?_push_size _ rfl,ϱ,ϱ⟩ ?_ (y.push _) (by simp;exact hz) ?_ λh' W X kp=>?_⟩
 .exact ⟨_,ρ _ (G _ _ g),ϱ,_,ϱ⟩
 .intro j u H e1 e2
  obtain ⟨b,K,rfl,⟨o,hb,r⟩,hk⟩:=hp j u H e1 e2
  have lb:=η hb
  exact ⟨⟨b,K,ϱ,⟨o,kk _ _ hb,r⟩,hk⟩,λz=>absurd lb (by cases z;exact ņ _),λz=>absurd (Nat.lt_trans lb i) (by cases z;exact ņ _)⟩
 .exact ⟨ϱ,h h' W X λb o e=>kp b o (Φ (η e)) (Φ (Nat.lt_trans (η e) i)) (kk b o e)⟩
section
variable {X:Cx}{es:õ}{t:TA}{pos:Pos}
def prD(H:Hp)(kv:Key×V)(u:V):Prop:=∃b,u=.ref b/\H b=some (.tup [kV kv.1,kv.2])
def uE(hc:X.calm=true):du X (.type "dict") (λxs H Q=>∃t us kvs,xs=[.ref t]/\(∀h,HOk X.prog X.w H h->∃its:ü,Vals us its/\h.NoDictAt (.ref t)/\h.IsTuple t its.toArray)/\Paired (prD H) kvs us/\kvs.length<=1000/\∀p,H p=none->Q (.ref p) (upd H p (.dK (aV [] kvs)))):=by
 intro F s σ H xs us Q I r h
 obtain ⟨t,vs,kvs,rfl,G,y,hl,q⟩:=h
 obtain ⟨u,rfl,J⟩:=dm r
 cases J
 obtain ⟨its,z,nd,K⟩:=G _ I.hok
 have l1:=y.len
 have l2:=z.length
 have ex:∀{kvs:List (Key×V)} {vs:à V} {its:ü},Paired (prD H) kvs vs->Vals vs its->∃f:à (Key×å),KV kvs f/\its.length=f.length/\∀(j:Nat) (u:å) (d:Key×å),its[j]?=some u->f[j]?=some d->uH X.prog X.w s.heap u d:=by
  intro kvs vs its h
  induction h generalizing its with
  | nil=>intro r;cases r;exact ⟨[],.nil,rfl,λj u d e=>by cases e⟩
  | cons p _ ih =>
   rename_i d v kvs vs _
   intro r
   cases r with
   | cons r1 r2 =>
    obtain ⟨f,g,i,l⟩:=ih r2
    obtain ⟨b,rfl,hb⟩:=p
    obtain ⟨_,L,O,P⟩:=(show ObjOk X.prog X.w H s.heap b (.tup [kV d.1,d.2]) from I.hok b _ hb)
    obtain ⟨U,W,rfl,Y,o⟩:=uK O
    cases r1
    refine ⟨(d.1,W)::f,.cons ⟨ϱ,o⟩ g,congrArg (·+1) i,λj u x C D=>?_⟩
    cases j with
    | zero =>
     cases C
     cases D
     exact ⟨b,U,ϱ,P,oz Y⟩
    | succ j=>exact l j u x C D
 obtain ⟨f,g,i,l⟩:=ex y z
 have hs:(1000:Nat)<=sizeLine:=by decide
 have l3:=g.length
 refine lY (I.ok.hd hc) nd K i ω l λh' tk hd kp=>?_
 refine ⟨.ref s.heap.objs.size,_,I.laid (t':=tk) kp (ι _) ?_,ϱ,q _ (I.hok.fresh (ι _))⟩
 have Z:(aV [] kvs).length<=sizeLine:=by
  have h1:=dR kvs []
  rw [List.length_nil] at h1
  omega
 exact uA Z (by have:=I.big;exact beq_false_of_ne (į this)) (g.merge .nil) hd
def TF(H:Hp)(t:é)(us:à V):Prop:=∃o,H t=some (.frz o (.tup us))/\o.dict=none
def uD(l:X.calm=true):du X (.type "dict") (λxs H Q=>∃t us kvs,xs=[.ref t]/\TF H t us/\Paired (prD H) kvs us/\kvs.length<=1000/\∀p,H p=none->Q (.ref p) (upd H p (.dK (aV [] kvs)))):=by
 intro b s σ H xs us Q I r h
 obtain ⟨t,vs,kvs,rfl,⟨o,e,f⟩,q⟩:=h
 refine uE l b s σ H _ us Q I r ⟨t,vs,kvs,ϱ,λh ok=>?_,q⟩
 obtain ⟨g,z,d,i,j⟩:=(show ObjOk X.prog X.w H h t (.frz o (.tup vs)) from ok t _ e)
 exact ⟨d,i,⟨_,g,f⟩,j⟩
end
def DJ(td ty:TE):TE:=fun σ H Q=>td σ H λx H1=>∃a,x=.ref a/\IsD H1 a/\ty σ H1 λy H2=>∃b kvs more,y=.ref b/\a≠b/\H2 a=some (.dK kvs)/\H2 b=some (.dK more)/\kvs.length+more.length<=sizeLine/\Q .non (upd H2 a (.dK (aV kvs more)))
def Ae{X:Cx}{o e:á}{j l:Pos}{Z ty:TE}(ho:PE X o Z)(K:PE X e ty)(m:M1 X o "update" j e l):PE X (.Call (.Attribute o "update" j) [e] [] l) (DJ Z ty):=by
 intro i s σ H Q I h
 refine Ħ m.base m.few m.line š PySem.F.slot_dict_update PySem.F.type_dict_update (thn (ho i s σ H _ I h) λu s1 ⟨x,H1,U,rx,a,ex,d,q1⟩=>?_)
 subst ex
 obtain rfl:u=Value.ref a:=rx
 obtain ⟨t1,t2,_⟩:=jk U d
 refine ⟨t1,t2,?_⟩
 rw [m.trees]
 refine Ū rfl (Ŋ (Ť (thn (K i s1 σ H1 _ U q1) λiv s2 ⟨y,H2,L,ry,b,O,more,ey,P,W,eb,hz,q2⟩=>Ņ ?_)))
 subst ey
 cases ry
 obtain ⟨z1,z,C,f,r⟩:=zt L.hok W
 obtain ⟨z2,D,G,g,J⟩:=zt L.hok eb
 refine call_meetsIn PySem.F.slot_dict_update r.typeIs PySem.F.entry_dict_update (PySem.F.args_dict_update_2 _ _) (meets_dict_update (aM X.prog X.w) a b P D) ⟨C,G,r,J,by rw [← f.length,← g.length];exact hz,λh' Y d2 hs=>?_⟩
 have K:∃q,h'.get? a=some q:=let ⟨q,_,_,hq,_⟩:=Y;⟨q,hq⟩
 refine ⟨.non,_,jR (t':=s2.toks) L (by rw [W];exact ϰ) hs K (uA ?_ z (g.merge f) Y),ϱ,q2⟩
 have:=dR more O
 omega
end L2
namespace L2
open PySem
abbrev Dm:=(Int×Int)×Int
def vU{h:ã}{a:é}{xs ys:ì}(p:h.IsTuple a xs)(q:h.IsTuple a ys):xs=ys:=by
 obtain ⟨o,e,_,n,d⟩:=p
 obtain ⟨g,f,_,i,b⟩:=q
 cases e.symm.trans f
 rw [d] at b
 injection b
variable {prog:ê}{w:è}{A:æ}{E:Ă}{s:ë}
def yN(k:Dm):Int:=reduceHash (Builtin.Tuple.tupleHashOf [reduceHash (Builtin.Tuple.tupleHashOf [hashInt k.1.1,hashInt k.1.2]),hashInt k.2])
def w9{α:Type}{a b:α}{j:Nat}(h:j<(#[a,b]:Array α).size):(j=0/\(#[a,b]:Array α)[j]=a)\/(j=1/\(#[a,b]:Array α)[j]=b):=by
 have d:j<2:=h
 match j,d with
 | 0,_=>exact .inl ⟨rfl,rfl⟩
 | 1,_=>exact .inr ⟨rfl,rfl⟩
def wv{b c:é}{i j d f:Int}{t u t' h:Tok}(r:A.units<cLine)(p:s.heap.IsTuple b #[.int i t,.int j u])(q:s.heap.IsTuple c #[.int d t',.int f h]) :
  SeqAt.EqAt A s (.ref b) (.ref c) (decide (i=d)&&decide (j=f)):=by
 by_cases e:b=c
 .subst e
  have g:=vU p q
  simp only [Array.mk.injEq,List.cons.injEq,Value.int.injEq,and_true] at g
  rw [τ g.1.1,τ g.2.1]
  exact SeqAt.EqAt.same _
 .refine SeqAt.EqAt.of_refs e ?_
  have z:=SeqAt.RcAt.tuples (A:=A) (s:=s) (e:=λn=>if n=0 then decide (i=d) else decide (j=f)) p q r (λn h1 o=>by
   rcases w9 h1 with ⟨n0,e1⟩ | ⟨n0,e1⟩<;>rcases w9 o with ⟨m0,g⟩ | ⟨m0,g⟩<;>first | (exfalso;omega) | skip
   .rw [e1,g];subst n0;show SeqAt.EqAt _ _ _ _ (decide (i=d));rw [← Ĭ];exact Ĕ _ t _ t'
   .rw [e1,g];subst n0;show SeqAt.EqAt _ _ _ _ (decide (j=f));rw [← Ĭ];exact Ĕ _ u _ h)
  have l:((List.range (min (#[Value.int i t,.int j u]:ì).size (#[Value.int d t',.int f h]:ì).size)).all (λn=>if n=0 then decide (i=d) else decide (j=f))&&(#[Value.int i t,.int j u]:ì).size==(#[Value.int d t',.int f h]:ì).size)=(decide (i=d)&&decide (j=f)):=by
   show ((decide (i=d)&&(decide (j=f)&&true))&&true)=_
   rw [Bool.and_true,Bool.and_true]
  rw [l] at z
  exact z
section
variable {κ:Type} [DecidableEq κ] {knd:HeapKind prog w κ}{d a:é}
def i4{xs:à (κ×Addr×å)}{k:κ}{v:å}{Q:Ă}(C:knd.room A)(b:knd.is s.heap k a)(I:s.heap.DictOfH knd d xs)
  (h1:∀p,atKey xs k=some p->Q p.2 {s with toks:=s.toks+knd.draws k})
  (J:atKey xs k=none->∀h',h'.DictOfH knd d (xs++[(k,a,v)])->Heap.SameBut d s.heap h'->Q v {s with heap:=h',toks:=s.toks+knd.draws k})(hsz:xs.length<=sizeLine) :
  wpAny (model prog w) A (dictSetDefault d (.ref a) v) Q E s:=by
 obtain ⟨o,es,D,g,F,f,l,h,q⟩:=I
 unfold dictSetDefault
 try with_reducible refine Ŝ ?_
 refine ε (knd.pyHash C b ?_)
 refine ε (wpAny_dictFind_heap (s:={s with toks:=s.toks+knd.draws k}) C b g f l h q (λi=>?_) (λj p z=>?_))
 .have e0:=atKey_none_of_get i
  have G:k∉xs.map (·.1):=not_mem_keys_of_get i
  refine ε (Ą (ε (wpAny_updateDictKeys (hz:=by have e:=size_of_entries l;omega) (s:={s with toks:=s.toks+knd.draws k}) g f (π (J e0 _ ⟨_,_,D+1,ľ _ g (Obj.isFreed_of_dict (Obj.data_mapDictKeys f _)),
   F.mapDictKeys _,Obj.data_mapDictKeys f _,?_,λx hx=>?_,?_⟩ (Ś ..))))))
  .simp [l,entryOfKey]
  .rcases Ŷ.mp hx with hx | hx
   .exact knd.keeps (h x hx) g f (Ś ..)
   .have r:=ϵ.mp hx
    subst r
    exact knd.keeps b g f (Ś ..)
  .rw [ſ,Ŧ]
   refine ⟨q,by simp,λx hx y H r=>?_⟩
   have u:y=k:=by simpa using H
   exact G (u▸r▸hx)
 .refine ε (Ř (s:={s with toks:=s.toks+knd.draws k}) g f ?_)
  rw [entry_at l j,z]
  exact ε (Ą (π (h1 p (atKey_of_get q z))))
def jK(knd:HeapKind prog w κ)(d a:é)(hd:(d==sysModules)=false)(v:å) :
  MeetsIn prog w (Builtin.«dict.setdefault» ⟨[.ref d, .ref a, v], []⟩) (fun A R s => knd.room A.in1 ∧ ∃ k xs, knd.is s.heap k a ∧ s.heap.DictOfH knd d xs ∧ xs.length ≤ sizeLine ∧
   (∀p,atKey xs k=some p->R (.ok (.ret p.2)) {s with toks:=s.toks+knd.draws k}) /\
   (atKey xs k=none->∀h',h'.DictOfH knd d (xs++[(k,a,v)])->Heap.SameBut d s.heap h'->R (.ok (.ret v)) {s with heap:=h',toks:=s.toks+knd.draws k})) :=
 .of_wp λA R s ⟨hu,k,xs,hkey,hm,hz,h1,h2⟩=>by
  unfold Builtin.«dict.setdefault»
  refine ε ?_
  unfold Builtin.Dict.keyAndDefault
  refine ε (ļ hm.typeIs ?_)
  show wpAny _ _ (pure (d,Value.ref a,some v)) _ _ s
  refine π ?_
  show wpAny _ _ (if (d==sysModules)=true then _ else (dictSetDefault d (.ref a) v >>= λ_=>_)) _ _ s
  have hne:¬((d==sysModules)=true):=by rw [hd];decide
  rw [ž hne]
  exact ε (i4 hu hkey hm (λp hp=>π ⟨_,ϱ,h1 p hp⟩) (λe0 h' hm' hs'=>π ⟨_,ϱ,h2 e0 h' hm' hs'⟩) hz)
end
end L2
namespace L2
open PySem PySem.Spec PyProof.Rows
abbrev Ew:=Dm×Addr×é
def EM(xs:à Ew):à (Dm×Addr×å):=xs.map λx=>(x.1,x.2.1,Value.ref x.2.2)
def EN(a:é)(xs:à Ew)(h:ã):Prop:=(a==sysModules)=false/\∃o es ep,h.get? a=some o/\o.ExactDict/\o.data=.dict es ep/\es.toList=(EM xs).map λx=>⟨yN x.1,.ref x.2.1,x.2.2⟩
def DL(td ty tx:TE):TE:=fun σ H Q=>td σ H λx H1=>∃a,x=.ref a/\IsD H1 a/\ty σ H1 λy H2=>tx σ H2 λz H3=>∃kvs k b,H3 a=some (.dT kvs)/\y=.ref b/\H3 b=some (.tup (k.map kV))/\kvs.length<sizeLine /\
 (∀v,aY kvs k=some v->Q v H3)/\(aY kvs k=none->Q z (upd H3 a (.dT (kvs++[(k,z)]))))
section
variable {X:Cx}{o e f i value:á}{apos cpos pos pos':Pos}{td ty tx tv:TE}
def vg(hu:X.A.units+1<cLine)(ho:PE X o td)(he:PE X e ty)(hf:PE X f tx)(m:M2 X o "setdefault" apos e f cpos):PE X (.Call (.Attribute o "setdefault" apos) [e,f] [] cpos) (DL td ty tx):=by
 intro g s σ H Q I h
 refine Ħ m.base m.few m.line š PySem.F.slot_dict_setdefault PySem.F.type_dict_setdefault (thn (ho g s σ H _ I h) λu s1 ⟨x,H1,U,rx,a,ex,d,q1⟩=>?_)
 subst ex
 obtain rfl:u=Value.ref a:=rx
 obtain ⟨t1,t2,_⟩:=jk U d
 refine ⟨t1,t2,?_⟩
 rw [m.trees]
 refine Ū rfl (Ŋ (Ť (thn (he g s1 σ H1 _ U q1) λiv s2 ⟨y,H2,I2,ry,q2⟩ =>
  Ť (thn (hf g s2 σ H2 _ I2 q2) λW s3 ⟨z,Y,D,Z,r,k,b,K,ey,eb,hl,q3,q4⟩=>Ņ ?_))))
 subst ey
 obtain rfl:iv=Value.ref b:=ry
 obtain ⟨hz,O,G,i,dd⟩:=vD D.hok K
 have J:G.length<=sizeLine:=by rw [← Ĥ i];exact hz
 refine call_meetsIn PySem.F.slot_dict_setdefault dd.typeIs PySem.F.entry_dict_setdefault (PySem.F.args_dict_setdefault_3 _ _ _) (jK (tupleKind (aM X.prog X.w)) a b O W) ⟨Ō hu,k,G,gQ D.hok eb,dd,J,λp hp=>?_,λhn h' L hs=>?_⟩
 .have j:=i.val k
  rw [hp] at j
  cases l:aY r k with
  | none=>rw [l] at j;exact (show False from j).elim
  | some v =>
   rw [l] at j
   exact ⟨v,Y,D.tok _,j,q3 v l⟩
 .have j:=i.val k
  rw [hn] at j
  have l:aY r k=none:=by
   cases l:aY r k with
   | none=>rfl
   | some v=>rw [l] at j;exact (show False from j).elim
  refine ⟨z,_,?_,Z,q4 l⟩
  obtain ⟨q,es,ep,P,h2,h3,h4,_,h5⟩:=L
  have C:KT Y (r++[(k,z)]) (G++[(k,b,W)]):=Paired.snoc i ⟨ϱ,eb,Z⟩
  refine jR D (by rw [K];exact ϰ) hs ⟨q,P⟩ ⟨by rw [Ž];exact hl,O,_,C.keeps λc ys ec=>?_,q,es,ep,P,h2,h3,h4,h5⟩
  rw [am (jH ec K (λz=>nomatch z))]
  exact ec
end
end L2
namespace Lo
open PySem L2
def dW(ps:à Pa):List (List Key×V):=ps.map λp=>(pk p,V.bl true)
def dE(es:à (Pa×Str)):List (List Key×V):=es.map λx=>(pk x.1,V.str x.2)
def md{α:Type}(xs:à α)(k:α->Pa)(f:α->V)(p:Pa):aY (xs.map λx=>(pk (k x),f x)) (pk p)=(xs.find? λx=>decide (k x=p)).map f:=by
 induction xs with
 | nil=>rfl
 | cons x r ih =>
  rw [ű]
  by_cases h:k x=p
  .rw [bF (by rw [h]),List.find?_cons,τ h]
   rfl
  .rw [bY (λz=>h (t8 z)),ih,List.find?_cons,Γ h]
def rB(ps:à Pa)(p:Pa):à Pa:=if p∈ps then ps else ps++[p]
def zf(ps:à Pa)(p:Pa):(ps.find? λx=>decide (x=p))=if p∈ps then some p else none:=by
 by_cases h:p∈ps
 .rw [Ź h]
  cases e:ps.find? λx=>decide (x=p) with
  | none=>exact absurd (τ rfl) (ũ.mp e p h)
  | some y =>
   have:y=p:=by simpa using List.find?_some e
   rw [this]
 .rw [ž h,ũ]
  intro x b c
  exact h ((Ξ c)▸b)
def wV(ps:à Pa)(p:Pa):aY (dW ps) (pk p)=if p∈ps then some (.bl true) else none:=by
 unfold dW
 rw [md ps (λp=>p) (λ_=>V.bl true) p,zf]
 split<;>rfl
def Ce(ps:à Pa)(p:Pa):bZ (dW ps) (pk p) (.bl true)=dW (rB ps p):=by
 unfold rB
 by_cases h:p∈ps
 .rw [Ź h]
  unfold bZ
  rw [gf,wV,Ź h,Ź (show (some (V.bl true)).isSome=true from rfl)]
  unfold dW
  rw [ķ]
  refine ğ λx _=>?_
  show (if pk x=pk p then (pk x,V.bl true) else (pk x,V.bl true))=_
  rw [ite_self]
 .rw [ž h,il _ (by rw [wV,ž h])]
  unfold dW
  rw [ſ]
  rfl
def sN(es:à (Pa×Str))(p:Pa):Option Str:=(es.find? λx=>decide (x.1=p)).map (·.2)
def BK(es:à (Pa×Str))(p:Pa):aY (dE es) (pk p)=(sN es p).map V.str:=by
 unfold dE sN
 rw [md es (λx=>x.1) (λx=>V.str x.2) p,Option.map_map]
 rfl
def apply(cs:ù)(ch:à Pa):ù:=ch.foldl (λcs c=>cs.set c.1.toNat c.2) cs
def qm(ch:à Pa):∀cs:ù,(apply cs ch).length=cs.length:=by
 induction ch with
 | nil=>intro cs;rfl
 | cons c r ih =>
  intro cs
  show (apply (cs.set c.1.toNat c.2) r).length=cs.length
  rw [ih,List.length_set]
def uG(cs:ù)(ch:à Pa)(c:Pa):apply cs (ch++[c])=(apply cs ch).set c.1.toNat c.2:=by
 unfold apply
 rw [List.foldl_append]
 rfl
structure Ad where
 (l dx cl bg wk rd en wa ov:é)
def sf(A:Ad):List (Str×V):=ax "overs" (.ref A.ov) (ax "walks" (.ref A.wa) (ax "ends" (.ref A.en) (ax "readies" (.ref A.rd) (ax "worked" (.ref A.wk) (ax "begins" (.ref A.bg) (ax "cells" (.ref A.cl) []))))))
def xy(A:Ad):(sf A).lookup ("ends":Str)=some (.ref A.en):=by
 unfold sf
 rw [al,ž θ,al,ž θ,al,Ź rfl]
def rL(A:Ad):(sf A).lookup ("readies":Str)=some (.ref A.rd):=by
 unfold sf
 rw [al,ž θ,al,ž θ,al,ž θ,al,Ź rfl]
def DQ(A:Ad):(sf A).lookup ("worked":Str)=some (.ref A.wk):=by
 unfold sf
 rw [al,ž θ,al,ž θ,al,ž θ,al,ž θ,al,Ź rfl]
def u5(A:Ad):(sf A).lookup ("cells":Str)=some (.ref A.cl):=by
 unfold sf
 rw [al,ž θ,al,ž θ,al,ž θ,al,ž θ,al,ž θ,al,ž θ,al,Ź rfl]
def jz{A:Ad}{m:Str}(h:decide (m∈(["overs","walks","ends","readies","worked","begins","cells"]:ú))=false):(sf A).lookup m=none:=by
 have b:m∉(["overs","walks","ends","readies","worked","begins","cells"]:ú):=ē h
 simp only [List.mem_cons,List.not_mem_nil,or_false,not_or] at b
 obtain ⟨h1,d,e,f,g,i,j⟩:=b
 unfold sf
 rw [al,ž h1,al,ž d,al,ž e,al,ž f,al,ž g,al,ž i,al,ž j]
 rfl
def cPS:Cod (Pa×Str):=cT2 cPa cStr
structure TxD(K:ä)(CS:é):Prop where
 cl:Cls K CS
 nc:NoAttr K CS "cells"
 nb:NoAttr K CS "begins"
 nw:NoAttr K CS "worked"
 nr:NoAttr K CS "readies"
 ne:NoAttr K CS "ends"
 na:NoAttr K CS "walks"
 no:NoAttr K CS "overs"
def bo{f:Str}{v:V}{fs:List (Str×V)}{n:Nat}(h:fs.length<n):(ax f v fs).length<n+1:=by
 have:=eE f v fs
 omega
def cE{k:Nat}{A:æ}(hr:Room k A):A.units+1<cLine:=hun (c:=0) hr
def C5{n:Nat}{i:Int}(h0:0<=i)(h1:i<n):ixN n i=some i.toNat:=by
 unfold ixN
 rw [Ź h0,Ź h1]
def at0{x:V}{us:à V}:atI (x::us) (0:Int)=some x:=br (j:=0) rfl
def at1{x y:V}{us:à V}:atI (x::y::us) (1:Int)=some y:=br (j:=1) rfl
def at2{x y z:V}{us:à V}:atI (x::y::z::us) (2:Int)=some z:=br (j:=2) rfl
end Lo
namespace L2
open PySem PySem.Spec PyProof.Rows
open PySem.W
inductive KAll (n:Nat) {α:Type} (P:α->Prop):KasT α->Prop
 | ret {a:α}:P a->KAll n P (.ret a)
 | ask {i j:Nat} {k:Bool->KasT α}:i<n->j<n->(∀b,KAll n P (k b))->KAll n P (.ask i j k)
def ph{α:Type}(lt:Nat->Nat->Bool):KasT α->α
 | .ret a=>a
 | .ask i j k=>ph lt (k (lt i j))
theorem KAll.bind{n:Nat}{α β:Type}{P:α->Prop}{R:β->Prop}{f:α->KasT β}:∀{t:KasT α},KAll n P t->(∀a,P a->KAll n R (f a))->KAll n R (t.bind f)
 | _,.ret h,g=>g _ h
 | _,.ask h1 h2 h3,g=>.ask h1 h2 λb=>KAll.bind (h3 b) g
theorem KAll.wp{n:Nat}{α:Type}{P:α->Prop}{cmp:Nat->Nat->(Bool->ë->Prop)->ë->Prop}{lt:Nat->Nat->Bool}{s:ë}(hc:∀i j (C:Bool->ë->Prop),i<n->j<n->C (lt i j) s->cmp i j C s){Q:α->ë->Prop} :
  ∀{t:KasT α},KAll n P t->(P (ph lt t)->Q (ph lt t) s)->t.kasWp cmp Q s
 | _,.ret h,q=>q h
 | _,.ask (i:=i) (j:=j) h1 h2 h3,q=>hc i j _ h1 h2 (KAll.wp hc (h3 (lt i j)) q)
def InP(n:Nat)(p:Array Nat):Prop:=p.size=n/\∀x∈p,x<n
def InP.get{n:Nat}{p:Array Nat}(h:InP n p)(h0:0<n)(i:Nat):p.getD i 0<n:=by
 rw [Array.getD_eq_getD_getElem?]
 cases e:p[i]? with
 | none=>exact h0
 | some x=>exact h.2 x (Array.mem_of_getElem? e)
def InP.perm{n:Nat}{p q:Array Nat}(h:InP n p)(e:q.Perm p):InP n q:=⟨e.size_eq.trans h.1,λx hx=>h.2 x (e.mem_iff.mp hx)⟩
def InP.rev{n:Nat}{p:Array Nat}(h:InP n p)(i j:Nat):InP n (kas_rev p i j):=h.perm (mirror_perm _ _ _ _)
theorem rA{n:Nat}{p:Array Nat}(h:InP n p)(h0:0<n):∀f m,KAll n (λ_=>True) (kas_asc p f m)
 | 0,_=>.ret trivial
 | f+1,m=>.ask (h.get h0 _) (h.get h0 _) λb=>by
  cases b with
  | true=>exact .ret trivial
  | false=>exact rA h h0 f (m+1)
theorem jW{n:Nat}(h0:0<n):∀f (p:Array Nat) m q,InP n p->KAll n (λr=>InP n r.1) (kas_desc f p m q)
 | 0,_,_,_,h=>.ret h
 | f+1,p,m,q,h=>.ask (h.get h0 _) (h.get h0 _) λb=>by
  cases b with
  | true =>
   show KAll n _ (if q>0 then kas_desc f (kas_rev p (m-(q+1)) m) (m+1) 0 else kas_desc f p (m+1) 0)
   split
   .exact jW h0 f _ _ _ (h.rev _ _)
   .exact jW h0 f _ _ _ h
  | false =>
   refine .ask (h.get h0 _) (h.get h0 _) λc=>?_
   cases c with
   | true=>exact .ret h
   | false=>exact jW h0 f _ _ _ h
def sX{n:Nat}{p:Array Nat}(h:InP n p)(h0:0<n)(m k:Nat):KAll n (λr=>InP n r.2) (kas_tail3 m k p):=(rA (h.rev 0 m) h0 _ _).bind λ_ _=>.ret (h.rev 0 m)
def sZ{n:Nat}{p:Array Nat}(h:InP n p)(h0:0<n)(m k:Nat):KAll n (λr=>InP n r.2) (kas_descPart m k p):=(jW h0 _ _ _ _ h).bind λr hr=>by
 split
 .exact sX (hr.rev _ _) h0 _ _
 .exact sX hr h0 _ _
def wM{n:Nat}{p:Array Nat}(h:InP n p)(h0:0<n)(k:Nat):KAll n (λr=>InP n r.2) (kas_count k p):=(rA h h0 _ _).bind λm _=>by
 split
 .exact .ret h
 .split
  .refine .ask (h.get h0 _) (h.get h0 _) λc=>?_
   cases c with
   | true=>exact .ret h
   | false=>exact sZ (h.rev _ _) h0 _ _
  .exact sZ h h0 _ _
theorem kT{n:Nat}{p:Array Nat}(h:InP n p)(h0:0<n)(k:Nat):∀f l r,KAll n (λ_=>True) (kas_place p k f l r)
 | 0,_,_=>.ret trivial
 | f+1,l,r=>by
  show KAll n _ (if l≥r then .ret l else .ask (p.getD k 0) (p.getD ((l+r)/2) 0) λc=>if c=true then kas_place p k f l ((l+r)/2) else kas_place p k f ((l+r)/2+1) r)
  split
  .exact .ret trivial
  .refine .ask (h.get h0 _) (h.get h0 _) λc=>?_
   cases c with
   | true=>exact kT h h0 k f _ _
   | false=>exact kT h h0 k f _ _
theorem vI{n:Nat}(h0:0<n):∀f (p:Array Nat) k,InP n p->KAll n (InP n) (kas_bin f p k)
 | 0,_,_,h=>.ret h
 | f+1,p,k,h=>(kT h h0 k k 0 k).bind λl _=>vI h0 f _ _ (h.perm (bubble_perm _ _ _))
def sY{n:Nat}(h0:0<n):KAll n (InP n) (kas_sort n):=by
 have h:InP n (List.toArray (List.range n)):=⟨by simp,λx d=>by simpa using d⟩
 refine (wM h h0 n).bind λr b=>?_
 split
 .exact vI h0 _ _ _ b
 .exact .ret b
def vL(h:ã)(x:(Int×Int)×Str)(v:å):Prop:=∃a b t1 t2 t3,v=.ref a/\h.IsTuple a #[.ref b,.str x.2 t3]/\h.IsTuple b #[.int x.1.1 t1,.int x.1.2 t2]
def ltE(x y:(Int×Int)×Str):Bool:=if x.1=y.1 then (if x.2=y.2 then false else decide (x.2.cps.toList<y.2.cps.toList)) else HT.gl [x.1.1,x.1.2] [y.1.1,y.1.2]
section
variable {prog:ê}{w:è}{A:æ}{E:Ă}{s:ë}
def Db{x y:(Int×Int)×Str}{u v:å}{Q:Bool->ë->Prop}(K:A.units+1<cLine)(h1:vL s.heap x u)(r:vL s.heap y v)(q:Q (ltE x y) s):wpAny (model prog w) A (keyLt' (tuples' false) u v) Q E s:=by
 obtain ⟨a,b,C,D,f,rfl,g,e⟩:=h1
 obtain ⟨c,d,u1,F,h,rfl,q1,q2⟩:=r
 obtain ⟨G,i,_,H,j⟩:=id g
 obtain ⟨I,l,_,J,o⟩:=id q1
 refine kat_lt i j l o (kat_cons (wv ω e q2 _ _ _ _ ?_))
 have dn:(decide (x.1.1=y.1.1)&&decide (x.1.2=y.1.2))=decide (x.1=y.1):=by
  rw [← Bool.decide_and]
  exact Ĺ.mpr ⟨λz=>Ć z.1 z.2,λz=>by rw [z];exact ⟨ϱ,ϱ⟩⟩
 rw [dn]
 unfold ltE at q
 by_cases en:x.1=y.1
 .rw [Ź en] at q
  rw [τ en]
  refine kat_yes (kat_cons (SeqAt.EqAt.str_str _ f _ h _ _ _ _ ?_))
  by_cases es:x.2=y.2
  .rw [Ź es] at q
   rw [← dX,τ es]
   exact kat_yes (kat_nil q)
  .rw [ž es] at q
   rw [← dX,Γ es]
   exact kat_no (kat_one _ _ (lt_str q))
 .rw [ž en] at q
  rw [Γ en]
  exact kat_no (kat_one _ _ (HT.ur e q2 (.cons _ _ (.cons _ _ .nil)) (.cons _ _ (.cons _ _ .nil)) ω q))
def cu{α:Type} [Inhabited α](lt:α->α->Bool)(xs:à α):à α:=((ph (λi j=>lt (xs.getD i default) (xs.getD j default)) (kas_sort xs.length)).toList).map λi=>xs.getD i default
def qR{α β:Type}{R:α->β->Prop}{xs:à α}{ys:à β}(h:Paired R xs ys){i:Nat}(e:i<xs.length)(a:α)(b:β):R (xs.getD i a) (ys.getD i b):=by
 have d:i<ys.length:=by rw [← h.len];exact e
 obtain ⟨u,f,g⟩:=h.get1 (ξ e)
 rw [ξ d] at f
 cases f
 rw [Ŗ,Ŗ,ξ e,ξ d]
 exact g
theorem qQ{α β:Type}{R:α->β->Prop}{xs:à α}{ys:à β}(h:Paired R xs ys)(a:α)(b:β):∀{p:ø},(∀i∈p,i<xs.length)->Paired R (p.map λi=>xs.getD i a) (p.map λi=>ys.getD i b)
 | [],_=>.nil
 | i::p,hp=>.cons (qR h (hp i Ω) a b) (qQ h a b λj hj=>hp j (Θ _ hj))
instance:Inhabited ((Int×Int)×Str):=⟨((0,0),Str.empty)⟩
def uR{α:Type} [Inhabited α](lt:α->α->Bool)(xs:à α)(h:0<xs.length):(cu lt xs).length=xs.length/\∀i∈(ph (λi j=>lt (xs.getD i default) (xs.getD j default)) (kas_sort xs.length)).toList,i<xs.length:=by
 have:InP xs.length (ph (λi j=>lt (xs.getD i default) (xs.getD j default)) (kas_sort xs.length)):=by
  have g:∀{t:KasT (Array Nat)},KAll xs.length (InP xs.length) t->InP xs.length (ph (λi j=>lt (xs.getD i default) (xs.getD j default)) t):=by
   intro t k
   induction k with
   | ret h=>exact h
   | ask _ _ _ ih=>exact ih _
  exact g (sY h)
 refine ⟨?_,λi b=>this.2 i (Array.mem_toList_iff.mp b)⟩
 unfold cu
 rw [ν,Ğ]
 exact this.1
end
section
variable {prog:ê}{w:è}{A:æ}{E:Ă}{s:ë}{h₀:ã}{L:é}{m:ā}{news:ă}
def zg{vs:ü}{a n:Nat}{P:PySem.Fin->ë->Prop}(F:Fr h₀ L s.heap m)(N:News h₀ L s.heap news)(h:s.heap.get? a=some (seqObj "list" vs.toArray n))(d:a≠L)(f:h₀.get? a=none)(g:∀p∈news,p.1≠a)(u:vs.length<2)
  (q:∀h' c,Fr h₀ L h' m->News h₀ L h' ((a,PySem.W.listOf vs.toArray c)::news)->P (.done (.ret .none)) {s with heap:=h'}) :
  wpAny (model prog w) A (Builtin.«list.sort» ⟨[.ref a], []⟩) P E s := by
 have z0:vs.length<=sizeLine:=by rw [Ķ];omega
 have sb1:=Ś s.heap a (Obj.mapSeq λ_=>(#[]:ì))
 obtain ⟨c1,o1⟩:∃c,(s.heap.update a (Obj.mapSeq λ_=>(#[]:ì))).get? a=some (seqObj "list" #[] c):=⟨_,get?_update_seq h λ_=>#[]⟩
 rw [list_sort_plain]
 refine ε (listItems_at h rfl (ε (listUpdate_at h rfl ?_ (by rw [ŵ];exact z0) (ϖ _))))
 refine ε (seqEpoch_at o1 rfl (ε (wpAny_newTuple ?_ (by show vs.length<=_;exact z0))))
 refine ε (wpAny_newList (Ŝ ?_) (ϖ _))
 have lt2:vs.toArray.size<2:=by rw [ŵ];exact u
 dsimp only
 rw [Ź lt2,Ź lt2]
 refine ε (π (ε (π ?_)))
 have o2:=ρ (seqObj "list" #[] 0) (ρ (seqObj "tuple" vs.toArray 0) o1)
 refine ε (seqEpoch_at o2 rfl ?_)
 have ez:(arrOf (SortSt.mk' general' (vs.toArray.zip vs.toArray) #[] 7 none)).map (·.2)=vs.toArray:=by
  show (vs.toArray.zip vs.toArray).map (·.2)=vs.toArray
  have o:∀l:ü,(l.zip l).map (·.2)=l:=λl=>by
   induction l with
   | nil=>rfl
   | cons x r ih=>rw [List.zip_cons_cons,ű,ih]
  apply ĭ.mp
  simpa using o vs
 rw [ez]
 refine ε (listUpdate_at o2 rfl ?_ (ϖ _) (by rw [ŵ];exact υ z0))
 simp only [bne_self_eq_false,Bool.false_eq_true,if_false]
 obtain ⟨i,j⟩:∃c,((((s.heap.update a (Obj.mapSeq λ_=>(#[]:ì))).push (seqObj "tuple" vs.toArray 0)).push (seqObj "list" #[] 0)).update a (Obj.mapSeq λ_=>vs.toArray)).get? a=some (seqObj "list" vs.toArray c):=⟨_,get?_update_seq o2 λ_=>vs.toArray⟩
 refine π (q _ i ?_ ?_)
 .exact kas_fr (((kas_fr F sb1 d f).push _).push _) (Ś _ _ _) d f
 .intro p hp
  rcases ϕ.mp hp with z | hp
  .subst z
   exact ⟨j,d,f⟩
  .exact kas_news ((kas_news N sb1 g).grown λb x e=>ρ _ (ρ _ e)) (Ś _ _ _) g p hp
end
def sPS(K:ä)(H:Hp)(x:(Int×Int)×Str)(v:V):Prop:=∃a b,v=.ref a/\H a=some (.tup [.ref b,.str x.2])/\H b=some (.tup [.int x.1.1,.int x.1.2])
def sPS.keep{K:ä}{H H':Hp}{x:(Int×Int)×Str}{v:V}(e:TSame H H')(h:sPS K H x v):sPS K H' x v:=by
 obtain ⟨a,b,rfl,h1,d⟩:=h
 exact ⟨a,b,ϱ,e _ _ h1,e _ _ d⟩
def sPS.ent{P:ê}{w:è}{K:ä}{H:Hp}{h:ã}{x:(Int×Int)×Str}{v:V}{u:å}(ok:HOk P w H h)(q:sPS K H x v)(r:RelV v u):vL h x u:=by
 obtain ⟨a,b,rfl,h1,e⟩:=q
 cases (show u=Value.ref a from r)
 obtain ⟨_,f,g,p⟩:=(show ObjOk P w H h a (.tup [.ref b,.str x.2]) from ok a _ h1)
 obtain ⟨_,d,i,j⟩:=(show ObjOk P w H h b (.tup [.int x.1.1,.int x.1.2]) from ok b _ e)
 obtain ⟨u1,F,rfl,l,o⟩:=g.two
 obtain ⟨G,I,rfl,y,z⟩:=i.two
 cases (show u1=Value.ref b from l)
 obtain ⟨t,rfl⟩:=o
 obtain ⟨C,rfl⟩:=y
 obtain ⟨D,rfl⟩:=z
 exact ⟨a,b,C,D,t,ϱ,p,j⟩
def vP{us:à V}{vs:ü}(h:Vals us vs)(p:ø)(hp:∀i∈p,i<us.length):Vals (p.map λi=>us.getD i .non) (p.map λi=>vs.getD i Value.none):=qQ h _ _ hp
abbrev gX(own:å)(f:Bool)(d:é)(i n ep:Nat)(ok ov:å):Obj:={cls:=.type "dict_itemiterator",dict:=none,data:=.fields #[own,.bool f,.ref d,.int i 0,.int n 0,.int ep 0,ok,ov],slots:=#[]}
def zL(h:ã)(it d:é)(i n ep:Nat):Prop:=∃own f ok ov,h.get? it=some (gX own f d i n ep ok ov)/\(own=.none\/∃a oa,own=rawInt (a:Nat)/\a≠it/\h.get? a=some oa)
def RawD(h:ã)(d:é)(es:Array DictEntry)(ep:Nat):Prop:=∃od,h.get? d=some od/\od.ExactDict/\od.data=.dict es ep
section
variable {prog:ê}{w:è}{A:æ}{E:Ă}{s:ë}{it d:é}{i ep:Nat}{es:Array DictEntry}
def RawD.at{h h':ã}(x:RawD h d es ep)(k:∀o,h.get? d=some o->h'.get? d=some o):RawD h' d es ep:=let ⟨od,e,r⟩:=x;⟨od,k _ e,r⟩
def BA{own ok ov:å}{f:Bool}{n:Nat}(hit:s.heap.get? it=some (gX own f d i n ep ok ov)):s.TypeIs (.ref it) "dict_itemiterator":=⟨_,hit,ϱ⟩
def qT:Builtin.Dict_items.ownsTuple "dict_itemiterator"=true:=by decide
def AU{n:Nat}{C ok U j val:å}{f:Bool}{Q:Ă}(I:s.heap.get? it=some (gX C f d i n ep ok U))(W:C=.none\/∃a oa,C=rawInt (a:Nat)/\a≠it/\s.heap.get? a=some oa)
  (X:∀h',zL h' it d i n ep->h'.get? s.heap.objs.size=some {cls:=.type "tuple",data:=.seq #[j,val]}->h'.objs.size=s.heap.objs.size+1->(∀b o,b≠it->s.heap.get? b=some o->h'.get? b=some o)->Q (.ref s.heap.objs.size) {s with heap:=h'}) :
  wpAny (model prog w) A (Builtin.Dict_items.pairFromOwner (.ref it) 6 j val) Q E s:=by
 obtain ⟨l,g,dr,tk,os⟩:=s
 unfold Builtin.Dict_items.pairFromOwner
 refine ε (wpAny_newTuple ?_)
 have J:it<l.objs.size:=η I
 have h:(l.push {cls:=.type "tuple",data:=.seq #[j,val]}).get? it=some (gX C f d i n ep ok U):=ρ _ I
 have q:(l.push {cls:=.type "tuple",data:=.seq #[j,val]}).get? l.objs.size=some {cls:=.type "tuple",data:=.seq #[j,val]}:=ψ _ rfl
 have u:(l.push {cls:=.type "tuple",data:=.seq #[j,val]}).objs.size=l.objs.size+1:=Ċ ..
 have r:∀b o,l.get? b=some o->(l.push {cls:=.type "tuple",data:=.seq #[j,val]}).get? b=some o:=λb o e=>ρ _ e
 generalize (l.push {cls:=.type "tuple",data:=.seq #[j,val]})=G at h q u r
 have y:l.objs.size≠it:=į J
 unfold Builtin.Dict_items.ownedTupleIsFree
 rcases W with z | ⟨a,oa,z,na,ha⟩
 .subst z
  refine ε (ε (wpAny_field h rfl (x:=.none) rfl (π ?_)))
  simp only [if_true]
  refine ε (wpAny_field h rfl (x:=ok) rfl (ε (wpAny_field h rfl (x:=U) rfl ?_)))
  refine wpAny_bind (wpAny_setField_rec h (by simp) λL O H=>wpAny_bind (wpAny_setField_rec O (by simp) λh3 e3 Y=>wpAny_bind (wpAny_setField_rec e3 (by simp) λh4 e4 Z=>wpAny_bind (wpAny_setField_rec e4 (by simp) λP e5 s5=>?_))))
  have K:∀b o,b≠it->G.get? b=some o->P.get? b=some o:=λb o D e=>s5.extBut b o D (Z.extBut b o D (Y.extBut b o D (H.extBut b o D e)))
  refine ε (wpAny_letGo (π (X P ⟨_,_,_,_,e5,.inr ⟨l.objs.size,_,ϱ,y,K _ _ y q⟩⟩ (K _ _ y q) ?_ λb o D e=>K b o D (r b o e))))
  show P.objs.size=l.objs.size+1
  rw [s5.1,Z.1,Y.1,H.1]
  exact u
 .subst z
  have F:=r _ _ ha
  refine ε (ε (wpAny_field h rfl (x:=rawInt (a:Nat)) rfl ?_))
  show wpAny _ _ (loadIfAlive ((a:Int).toNat) >>= λ_=>_) _ _ _
  rw [ř]
  refine ε (kdx_alive F ?_)
  simp only [Option.isNone_some,Bool.false_eq_true,if_false]
  refine ε (wpAny_field h rfl (x:=.bool f) rfl ?_)
  cases f with
  | true =>
   rw [ž (show ¬((Value.bool true != Value.bool true)=true) by decide)]
   refine π ?_
   simp only [Bool.false_eq_true,if_false]
   exact π (X G ⟨_,_,_,_,h,.inr ⟨a,oa,ϱ,na,F⟩⟩ q u λb o _ e=>r b o e)
  | false =>
   rw [Ź (show (Value.bool false != Value.bool true)=true by decide)]
   refine wpAny_bind (wpAny_setField_rec h (by simp) λL O H=>wpAny_pure ?_)
   simp only [Bool.false_eq_true,if_false]
   exact π (X L ⟨_,_,_,_,O,.inr ⟨a,oa,ϱ,na,H.extBut _ _ na F⟩⟩ (H.extBut _ _ y q) (by show L.objs.size=_;rw [H.1];exact u) λb o D e=>H.extBut b o D (r b o e))
def AV{e:DictEntry}{Q:î->ë->Prop}(J:zL s.heap it d i es.size ep)(hd:RawD s.heap d es ep)(O:es[i]?=some e)
  (hQ:∀h',zL h' it d (i+1) es.size ep->h'.get? s.heap.objs.size=some {cls:=.type "tuple",data:=.seq #[e.key,e.val]}->h'.objs.size=s.heap.objs.size+1->(∀b o,b≠it->s.heap.get? b=some o->h'.get? b=some o)->Q (some (.ref s.heap.objs.size)) {s with heap:=h'}) :
  wpAny (model prog w) A (pyNext (.ref it)) Q E s:=by
 obtain ⟨g,f,ok,P,h1,D⟩:=J
 obtain ⟨od,l,_,q⟩:=hd
 have h:=BA h1
 unfold pyNext
 refine ε (wpAny_attempt (Ě (name:=Str.ofString "__next__") h Ő (ň Ő h PySem.F.entry_dict_itemiterator_next ?_ (PySem.F.args_dict_itemiterator_next_1 _))))
 refine ε (π (ε (ε ?_)))
 first | refine ε (ĸ h (π ?_)) | refine ε (ĩ h (π ?_))
 refine ε (wpAny_fieldsOf h1 rfl ?_)
 simp only [qT,if_true]
 show wpAny _ _ (if (Value.ref d==Value.none)=true then _ else (_:Sem (Option (Array DictEntry×Int)))) _ _ s
 rw [ž (show ¬((Value.ref d==Value.none)=true) by intro z;cases z)]
 refine ε (π (ε (Ř l q ?_)))
 rw [if_neg (by simp)]
 refine ε (π (ε (ď l q ?_)))
 rw [if_neg (by simp)]
 refine π ?_
 have U:i<es.size:=(Array.getElem?_eq_some_iff.mp O).1
 simp only [show ¬((i:Int)<0) by omega,if_false,Int.toNat_natCast,O]
 refine ε ?_
 first | refine ε (ĸ h (π ?_)) | refine ε (ĩ h (π ?_))
 refine ε (wpAny_isOneOf_itemiter h ?_)
 show wpAny _ _ (setField (.ref it) 3 (rawInt ((i:Int)+1)) >>= λ_=>_) _ _ s
 refine wpAny_bind (wpAny_setField_rec h1 (by simp) λj W H=>?_)
 have r:j.get? it=some (gX g f d (i+1) es.size ep ok P):=by
  have z:((i+1:Nat):Int)=(i:Int)+1:=by omega
  unfold gX
  rw [z]
  simpa [rawInt] using W
 have u:Shared.TypeIs {s with heap:=j} (.ref it) "dict_itemiterator":=⟨_,r,ϱ⟩
 refine ε (Ŝ (ε (wpAny_isOneOf_itemiter u (ε (wpAny_isOneOf_itemiter u ?_)))))
 have y:g=.none\/∃a C,g=rawInt (a:Nat)/\a≠it/\j.get? a=some C:=D.imp id λ⟨a,C,X,K,I⟩=>⟨a,C,X,K,H.extBut a C K I⟩
 refine AU (s:={s with heap:=j}) r y λY Z t3 I k3=>π ⟨_,ϱ,π ?_⟩
 have G:j.objs.size=s.heap.objs.size:=H.1
 have q3:=hQ Y Z (by rw [← G];exact t3) (by rw [← G];exact I) λb o L x=>k3 b o L (H.extBut b o L x)
 show Q (some (.ref j.objs.size)) _
 rw [G]
 exact q3
def C6{Q:î->ë->Prop}(q:A.handled=none)(j:zL s.heap it d i es.size ep)(r:RawD s.heap d es ep)(u:es.size<=i)
  (x:∀h',Heap.ExtBut it s.heap h'->Q none {s with heap:=h'}):wpAny (model prog w) A (pyNext (.ref it)) Q E s:=by
 obtain ⟨l,f,ok,y,h1,o⟩:=j
 obtain ⟨C,g,_,h⟩:=r
 have e:=BA h1
 unfold pyNext
 refine ε (wpAny_attempt (Ě (name:=Str.ofString "__next__") e Ő (ň Ő e PySem.F.entry_dict_itemiterator_next ?_ (PySem.F.args_dict_itemiterator_next_1 _))))
 refine ε (π (ε (ε ?_)))
 first | refine ε (ĸ e (π ?_)) | refine ε (ĩ e (π ?_))
 refine ε (wpAny_fieldsOf h1 rfl ?_)
 simp only [qT,if_true]
 show wpAny _ _ (if (Value.ref d==Value.none)=true then _ else (_:Sem (Option (Array DictEntry×Int)))) _ _ s
 rw [ž (show ¬((Value.ref d==Value.none)=true) by intro z;cases z)]
 refine ε (π (ε (Ř g h ?_)))
 rw [if_neg (by simp)]
 refine ε (π (ε (ď g h ?_)))
 rw [if_neg (by simp)]
 refine π ?_
 simp only [show ¬((i:Int)<0) by omega,if_false,Int.toNat_natCast,Array.getElem?_eq_none u]
 refine ε ?_
 first | refine ε (ĸ e (π ?_)) | refine ε (ĩ e (π ?_))
 show wpAny _ _ (setField (.ref it) 2 .none >>= λ_=>_) _ _ s
 refine wpAny_bind (wpAny_setField h1 rfl (by simp) ?_)
 show wpAny _ _ (newExc (.type "StopIteration") [] >>= λ_=>_) _ _ _
 refine ε ?_
 simp only [newExc,newTuple]
 refine wpAny_bind (wpAny_newObj_type (wpAny_bind (m:=firstArgMember _ _) (wpAny_of_eq (a:=Value.none) (by first | rfl | (simp only [firstArgMember];rfl)) (wpAny_newObj_type ?_ (by size_fits)))) (by size_fits))
 simp only [raiseNew]
 refine ε (wpAny_handled ?_)
 rw [show A.in1.handled=none from q]
 refine ε (π (wpAny_throw ?_));refine ε (wpAny_isInstance (T:="StopIteration") (b:=true) ⟨_,ψ _ rfl,ϱ⟩ isSubtype_stop ?_)
 exact π (x _ (((Ś ..).extBut.push _).push _))
def wP(h:ã)(es:Array DictEntry)(as:û):Prop:=∀(j:Nat) (a:é),as[j]?=some a->∃e,es[j]?=some e/\h.get? a=some {cls:=.type "tuple",data:=.seq #[e.key,e.val]}
theorem vx{S:é}{R:Result->ë->Prop}{h1:ã}(I:A.handled=none)(r:S≠it)(D:d≠S)(G:d≠it)(Q:es.size<=sizeLine)(C:å)
  (J:∀h' u g c l,(∀b o,b≠S->b≠it->h1.get? b=some o->h'.get? b=some o)->h'.get? S=some {cls:=.type "list",dict:=none,data:=.seq g c,slots:=#[]}->l.length=es.size->wP h' es l->(∀a∈l,h1.objs.size<=a/\a≠S/\a≠it)->l.Nodup ->
   g.toList=l.map Value.ref->R (.ok (.ret C)) {s with heap:=h',toks:=u}) :
  ∀(k i:Nat) (h:ã) (u c:Nat) (g:ì) (l:û),es.size-i=k->i<=es.size->zL h it d i es.size ep->RawD h d es ep->(∀b o,b≠S->b≠it->h1.get? b=some o->h.get? b=some o) ->
   h.get? S=some {cls:=.type "list",dict:=none,data:=.seq g c,slots:=#[]}->g.toList=l.map Value.ref->l.length=i->wP h es l->(∀a∈l,h1.objs.size<=a/\a≠S/\a≠it/\a<h.objs.size)->l.Nodup->h1.objs.size<=h.objs.size ->
   codeAny (model prog w) A (.builtin "list.extend.loop" ⟨[.ref S,.ref it,C],[]⟩) R {s with heap:=h,toks:=u}
 | 0,i,h,u,c,g,l,hk,hi,hit,hd,kp,hS,ha,hl,tu,ab,ndp,hz=>by
  refine Đ PySem.F.entry_extend_loop ?_
  rw [ĵ ŀ _]
  show wpAny _ A.in1 (pyNext (.ref it) >>= λ_=>_) _ _ _
  refine ε (C6 (s:={s with heap:=h,toks:=u}) (A:=A.in1) I hit hd ω λh' xb=>?_)
  exact π (J h' u g c l (λb o n1 n2 e=>xb b o n2 (kp b o n1 n2 e)) (xb S _ r hS) ω (λj a hj=>by
   obtain ⟨e,e1,e2⟩:=tu j a hj
   exact ⟨e,e1,xb a _ (ab a (Ŵ hj)).2.2.1 e2⟩) (λa hm=>⟨(ab a hm).1,(ab a hm).2.1,(ab a hm).2.2.1⟩) ndp ha)
 | k+1,i,h,u,c,g,l,hk,hi,hit,hd,kp,hS,ha,hl,tu,ab,ndp,hz=>by
  have hlt:i<es.size:=by omega
  have hx:es[i]?=some es[i]:=Array.getElem?_eq_getElem hlt
  have hsz:g.size=i:=by rw [← Ğ,ha,ν,hl]
  have lS:S<h.objs.size:=η hS
  have lI:it<h.objs.size:=by obtain ⟨_,_,_,_,e,_⟩:=hit;exact η e
  refine Đ PySem.F.entry_extend_loop ?_
  rw [ĵ ŀ _]
  show wpAny _ A.in1 (pyNext (.ref it) >>= λ_=>_) _ _ _
  refine ε (AV (s:={s with heap:=h,toks:=u}) hit hd hx λh' hit' ht z' k'=>?_)
  have z'':h'.objs.size=h.objs.size+1:=z'
  have hS':=k' S _ r hS
  have up:∀b o,b≠S->h'.get? b=some o->(h'.update S (Obj.mapSeq (·.push (Value.ref h.objs.size)))).get? b=some o:=λb o nb e=>(ŧ _ _ (Ne.symm nb)).trans e
  have zu:(h'.update S (Obj.mapSeq (·.push (Value.ref h.objs.size)))).objs.size=h.objs.size+1:=by rw [Heap.size_update];exact z''
  show wpAny _ A.in1 (updateSeq S (·.push (Value.ref h.objs.size)) >>= λ_=>_) _ _ _
  refine ε (wpAny_updateSeq hS' rfl (π ⟨plainId_quiet ŀ _,?_⟩) (by rw [hsz];omega) (by show (g.push (Value.ref h.objs.size)).size<=sizeLine+1;rw [Array.size_push,hsz];omega))
  refine vx I r D G Q C J k (i+1) _ u _ (g.push (Value.ref h.objs.size)) (l++[h.objs.size]) ω hlt ?_ (hd.at λo e=>up d o D (k' d o G e)) (λb o n1 n2 e=>up b o n1 (k' b o n2 (kp b o n1 n2 e)))
   (ľ _ hS' rfl) (by rw [Array.toList_push,ha,ſ];rfl) (by rw [Ž,hl];rfl) ?_ ?_ ?_ (by rw [zu];omega)
  .obtain ⟨own,f,ok,ov,e1,how⟩:=hit'
   refine ⟨own,f,ok,ov,up it _ (Ne.symm r) e1,how.imp id λ⟨a,oa,w1,w2,w3⟩=>?_⟩
   by_cases aS:a=S
   .subst aS
    exact ⟨a,_,w1,w2,ľ _ hS' rfl⟩
   .exact ⟨a,oa,w1,w2,up a oa aS w3⟩
  .intro j a hj
   by_cases hja:j<l.length
   .rw [List.getElem?_append_left hja] at hj
    obtain ⟨e,e1,e2⟩:=tu j a hj
    obtain ⟨_,n1,n2,_⟩:=ab a (Ŵ hj)
    exact ⟨e,e1,up a _ n1 (k' a _ n2 e2)⟩
   .rw [ń ω] at hj
    have hj0:j-l.length=0:=by
     cases q:j-l.length with
     | zero=>rfl
     | succ n=>rw [q] at hj;simp at hj
    rw [hj0] at hj
    have K:h.objs.size=a:=by simpa using hj
    subst K
    have L:j=i:=by omega
    subst L
    exact ⟨_,hx,up _ _ (į lS) ht⟩
  .intro a hm
   rw [zu]
   rcases Ŷ.mp hm with hm | hm
   .obtain ⟨m1,m2,m3,m4⟩:=ab a hm
    exact ⟨m1,m2,m3,Nat.lt_succ_of_lt m4⟩
   .have:=ϵ.mp hm
    subst this
    exact ⟨hz,į lS,į lI,Į _⟩
  .rw [Ŧ]
   refine ⟨ndp,by simp,λx H y P z=>?_⟩
   have O:y=h.objs.size:=ϵ.mp P
   exact Φ (ab x H).2.2.2 (z.trans O)
def AW{v:é}{Q:Ă}(b:s.heap.IsItemsView v d)(i:RawD s.heap d es ep)(r:es.size<=sizeLine)
  (j:Q (.ref s.heap.objs.size) {s with heap:=s.heap.push (gX .none false d 0 es.size ep .none .none)}):wpAny (model prog w) A (pyIter (.ref v)) Q E s:=by
 obtain ⟨l,g,o,h⟩:=id b
 obtain ⟨q,e,_,f⟩:=i
 refine wpAny_pyIter_slot b.typeIs PySem.F.slot_dict_items_iter (ň PySem.F.slot_dict_items_iter b.typeIs PySem.F.entry_dict_items_iter ?_ (PySem.F.args_dict_items_iter_1 _))
 unfold Builtin.«dict_items.__iter__»
 refine ε (π (ε ?_))
 unfold Builtin.Dict_items.dictOf
 refine ε (wpAny_field g h (x:=.ref d) rfl (π (ε ?_)))
 unfold Builtin.Dict_items.newIterator
 refine ε (Ř e f (ε (ď e f ?_)))
 simp only [qT,if_true]
 refine wpAny_newObj_type (wpAny_pure ⟨_,ϱ,"dict_itemiterator",_,⟨_,Heap.get?_push_size _ rfl,ϱ⟩,PySem.F.slot_dict_itemiterator_next.lookup,?_⟩) (by simp only [sizeOk,Builtin.Dict_items.ownedTupleFields,List.size_toArray,List.length_append,List.length_cons,List.length_nil,sizeLine_eq];omega)
 simpa [gX,rawInt,Builtin.Dict_items.ownedTupleFields] using j
def wz{v S:é}{L:Nat}{R:Result->ë->Prop}(hh:A.handled=none)(D:s.heap.IsItemsView v d)(G:RawD s.heap d es ep)(O:es.size<=sizeLine)(H:S≠v)(u:d≠S)(g:å)(P:s.heap.get? S=some {cls:=.type "list",data:=.seq #[] L})
  (hR:∀h' tk acc c as,(∀b o,b≠S->s.heap.get? b=some o->h'.get? b=some o)->h'.get? S=some {cls:=.type "list",dict:=none,data:=.seq acc c,slots:=#[]}->as.length=es.size->wP h' es as->(∀a∈as,s.heap.objs.size<=a)->as.Nodup->acc.toList=as.map Value.ref->R (.ok (.ret g)) {s with heap:=h',toks:=tk}) :
  wpAny (model prog w) A.in1 (Builtin.List.listExtendWith (.ref S) (.ref v) g) (λfin s'=>match fin with | .done f=>R (.ok f) s' | .again c'=>c'.quiet=true/\codeAny (model prog w) A c' R s') (λe s'=>R (.error e) s') s:=by
 have I:S<s.heap.objs.size:=η P
 have Q:d<s.heap.objs.size:=let ⟨_,e,_⟩:=G;η e
 have J:∀(h:ã) (c tk:Nat),(∀b o,b≠S->(s.heap.push (gX .none false d 0 es.size ep .none .none)).get? b=some o->h.get? b=some o)->h.get? S=some {cls:=.type "list",data:=.seq #[] c}->s.heap.objs.size<=h.objs.size ->
   codeAny (model prog w) A (.builtin "list.extend.loop" ⟨[.ref S,.ref s.heap.objs.size,g],[]⟩) R {s with heap:=h,toks:=tk}:=by
  intro h c tk kp eS zh
  have U:=kp s.heap.objs.size _ (į I) (ψ _ rfl)
  refine vx (s:=s) (it:=s.heap.objs.size) (d:=d) (ep:=ep) (es:=es) (h1:=s.heap) hh (Φ I) u (Φ Q) O g (λh' y acc c' as X z Y Z ab n' a'=>hR h' y acc c' as (λb o l e=>X b o l (Φ (η e)) e) z Y Z (λa C=>(ab a C).1) n' a')
   es.size 0 h tk c #[] [] (Nat.sub_zero _) (Nat.zero_le _) ⟨_,_,_,_,U,.inl rfl⟩ (G.at λo e=>kp d o u (Heap.get?_push_of_some _ e)) (λb o l _ e=>kp b o l (Heap.get?_push_of_some _ e)) eS rfl rfl (λj a hj=>by simp at hj) (λa C=>nomatch C) List.nodup_nil zh
 unfold Builtin.List.listExtendWith
 refine ε (wpAny_typeOf (T:="dict_items") D.typeIs ?_)
 have W:Builtin.List.listSameRef (.ref S) (.ref v)=false:=by simp [Builtin.List.listSameRef,H]
 have K:(Value.type "dict_items"==Value.type "list")=false/\(Value.type "dict_items"==Value.type "tuple")=false:=⟨ζ,ζ⟩
 simp only [W,K.1,K.2,Bool.or_false,Bool.false_eq_true,if_false]
 have i:=ρ (gX .none false d 0 es.size ep .none .none) P
 have q:s.heap.objs.size<=(s.heap.push (gX .none false d 0 es.size ep .none .none)).objs.size:=by rw [Ċ];exact Ł _
 refine ε (AW D G O (ε (Ŝ (kdx_hint (let ⟨o,e,c,_⟩:=D;⟨o,ρ _ e,c⟩) ?_))))
 refine wpAny_ite_split (λ_=>?_) (λ_=>π ⟨plainId_quiet ŀ _,J _ L _ (λb o _ e=>e) i q⟩)
 refine ε (Ą (ε ?_))
 show wpAny _ _ (updateSeq S (·.push .none) >>= λ_=>updateSeq S (·.pop)) _ _ {s with heap:=s.heap.push (gX .none false d 0 es.size ep .none .none)}
 have r:=ľ (Obj.mapSeq (·.push Value.none)) i rfl
 have x:=ľ (Obj.mapSeq (·.pop)) r rfl
 refine ε (wpAny_updateSeq i rfl (wpAny_updateSeq (hz:=by seq_fits) r rfl (π ⟨plainId_quiet ŀ _,J _ _ _ (λb o l e=>?_) x ?_⟩)))
 .exact (ŧ _ _ (Ne.symm l)).trans ((ŧ _ _ (Ne.symm l)).trans e)
 .rw [Heap.size_update,Heap.size_update]
  exact q
def ux{v:é}{R:ü->ë->Prop}(Z:A.handled=none)(P:s.heap.IsItemsView v d)(Q:RawD s.heap d es ep)(hn:es.size<=sizeLine)
  (hR:∀(h':ã) (j:Nat) (h:û),(∀b o,s.heap.get? b=some o->h'.get? b=some o)->h.length=es.size->wP h' es h->(∀a∈h,s.heap.objs.size<=a)->h.Nodup->R (h.map Value.ref) {s with heap:=h',toks:=j}) :
  wpAny (model prog w) A (collect (.ref v)) R E s:=by
 have U:v<s.heap.objs.size:=let ⟨_,e,_⟩:=P;η e
 have W:d<s.heap.objs.size:=let ⟨_,e,_⟩:=Q;η e
 unfold collect
 refine ε (wpAny_runValue (Đ entry_proto_collect' ?_))
 rw [ĵ PySem.F.plain_proto_collect _]
 show wpAny _ A.in1 (newList [] >>= λl=>again (.builtin "list.__iadd__" (Args.mk [l,.ref v] []))) _ _ s
 refine ε (wpAny_newObj_type (π ⟨plainId_quiet PySem.F.plain_list_iadd _,Đ entry_list_iadd' ?_⟩))
 rw [ĵ PySem.F.plain_list_iadd _]
 have X:(s.heap.push {cls:=.type "list",data:=.seq ([]:ü).toArray}).get? s.heap.objs.size=some {cls:=.type "list",data:=.seq #[] 0}:=ψ _ rfl
 have G:=wz (prog:=prog) (w:=w) (A:=A) (s:={s with heap:=s.heap.push {cls:=.type "list",data:=.seq ([]:ü).toArray}}) (v:=v) (S:=s.heap.objs.size) (d:=d) (es:=es) (ep:=ep)
  (R:=λ(q:Result) (z:ë)=>∃(h':ã) (j:Nat) (i:ì) (c:Nat) (h:û),q=.ok (.ret (.ref s.heap.objs.size))/\z={s with heap:=h',toks:=j}/\(∀b o,s.heap.get? b=some o->h'.get? b=some o) /\
   h'.get? s.heap.objs.size=some {cls:=.type "list",dict:=none,data:=.seq i c,slots:=#[]}/\h.length=es.size/\wP h' es h/\(∀a∈h,s.heap.objs.size<=a)/\h.Nodup/\i.toList=h.map Value.ref)
  Z (let ⟨o,e,r⟩:=P;⟨o,ρ _ e,r⟩) (Q.at λo e=>ρ _ e) hn (į U) (Φ W) (.ref s.heap.objs.size) X
  (λh' j i c h H u I J K L O=>⟨h',j,i,c,h,ϱ,ϱ,λb o e=>H b o (Φ (η e)) (ρ _ e),u,I,J,λa Y=>Nat.le_of_succ_le (by have:=K a Y;rw [Ċ] at this;exact this),L,O⟩)
 have fin:∀(q:Result) (z:ë),(∃(h':ã) (j:Nat) (i:ì) (c:Nat) (h:û),q=.ok (.ret (.ref s.heap.objs.size))/\z={s with heap:=h',toks:=j}/\(∀b o,s.heap.get? b=some o->h'.get? b=some o) /\
   h'.get? s.heap.objs.size=some {cls:=.type "list",dict:=none,data:=.seq i c,slots:=#[]}/\h.length=es.size/\wP h' es h/\(∀a∈h,s.heap.objs.size<=a)/\h.Nodup/\i.toList=h.map Value.ref) ->
   ∃h' j,q=.ok (.ret (.ref s.heap.objs.size))/\z={s with heap:=h',toks:=j}/\wpAny (model prog w) A (load s.heap.objs.size >>= λo=>match o.data with | .seq xs _=>pure xs.toList | _=>unsupported "internal:collect") R E {s with heap:=h',toks:=j}:=by
  rintro q z ⟨h',j,i,c,h,rfl,rfl,H,u,I,J,K,L,O⟩
  refine ⟨h',j,ϱ,ϱ,ε (wpAny_load u (π ?_))⟩
  show R i.toList _
  rw [O]
  exact hR h' j h H I J K L
 refine ū G (λf z x=>?_) λe z x=>?_
 .cases f with
  | done fl =>
   obtain ⟨h',j,C,D,g⟩:=fin _ _ x
   cases C
   subst D
   exact g
  | again c1 =>
   refine ⟨x.1,Ė x.2 λq s2 y=>?_⟩
   obtain ⟨h',j,C,D,g⟩:=fin _ _ y
   subst C D
   exact g
 .obtain ⟨h',j,C,_⟩:=fin _ _ x
  cases C
end
section
variable {prog:ê}{w:è}{A:æ}{E:Ă}{s:ë}{it d:é}{i ep:Nat}{es:Array DictEntry}
def sd:Builtin.Dict_items.ownsTuple "dict_keyiterator"=false:=by decide
def u9{Q:Ă}(f:(d==sysModules)=false)(j:RawD s.heap d es ep)
  (l:Q (.ref s.heap.objs.size) {s with heap:=s.heap.push {cls:=.type "dict_keyiterator",data:=.fields #[.ref d,.int 0 0,.int es.size 0,.int ep 0]}}):wpAny (model prog w) A (pyIter (.ref d)) Q E s:=by
 obtain ⟨h,b,i,g⟩:=j
 have e:s.TypeIs (.ref d) "dict":=⟨h,b,i.1⟩
 refine wpAny_pyIter_slot e PySem.F.slot_dict_iter (ň PySem.F.slot_dict_iter e PySem.F.entry_dict_iter ?_ (PySem.F.args_dict_iter_1 _))
 unfold Builtin.«dict.__iter__» Builtin.Dict.dictSlotNone
 refine ε (ε (ļ e ?_))
 refine π ?_
 show wpAny _ _ (Builtin.Dict.showsAll d >>= λ_=>_) _ _ s
 unfold Builtin.Dict.showsAll
 rw [ž (by rw [f];exact Ÿ)]
 refine ε (π (ε (Ř b g (ε (ď b g ?_)))))
 refine ε (wpAny_newObj_type (π ⟨_,ϱ,"dict_keyiterator",_,⟨_,ψ _ rfl,ϱ⟩,PySem.F.slot_dict_keyiterator_next.lookup,?_⟩))
 simpa [rawInt] using l
def u8{e:DictEntry}{Q:î->ë->Prop}(j:s.heap.IsKeyIter it d i es.size ep)(o:RawD s.heap d es ep)(q:es[i]?=some e)
  (r:∀h',h'.IsKeyIter it d (i+1) es.size ep->Heap.SameBut it s.heap h'->Q (some e.key) {s with heap:=h'}):wpAny (model prog w) A (pyNext (.ref it)) Q E s:=by
 obtain ⟨u,h1,l,hf⟩:=id j
 obtain ⟨x,g,_,h⟩:=o
 have f:=j.typeIs
 unfold pyNext
 refine ε (wpAny_attempt (Ě (name:=Str.ofString "__next__") f ş (ň ş f PySem.F.entry_dict_keyiterator_next ?_ (PySem.F.args_dict_keyiterator_next_1 _))))
 refine ε (π (ε (ε ?_)))
 first | refine ε (Ĵ f (π ?_)) | refine ε (Ģ f (π ?_))
 refine ε (wpAny_fieldsOf h1 hf ?_)
 simp only [sd,Bool.false_eq_true,if_false]
 show wpAny _ _ (if (Value.ref d==Value.none)=true then _ else (_:Sem (Option (Array DictEntry×Int)))) _ _ s
 rw [ž (show ¬((Value.ref d==Value.none)=true) by intro z;cases z)]
 refine ε (π (ε (Ř g h ?_)))
 rw [if_neg (by simp)]
 refine ε (π (ε (ď g h ?_)))
 rw [if_neg (by simp)]
 refine π ?_
 simp only [show ¬((i:Int)<0) by omega,if_false,Int.toNat_natCast,q]
 refine ε ?_
 first | refine ε (Ĵ f (π ?_)) | refine ε (Ģ f (π ?_))
 refine ε (wpAny_isOneOf_keyiter f ?_)
 show wpAny _ _ (setField (.ref it) 1 (rawInt ((i:Int)+1)) >>= λ_=>_) _ _ s
 refine wpAny_bind (wpAny_setField h1 hf (by simp) ?_)
 have b:(s.heap.update it (Obj.mapFields (·.setIfInBounds 1 (rawInt ((i:Int)+1))))).IsKeyIter it d (i+1) es.size ep :=
  ⟨_,Heap.get?_update_self _ h1 (Obj.isFreed_of_fields (Obj.data_mapFields hf _)),(Obj.cls_mapFields ..).trans l,by rw [Obj.data_mapFields hf];simp [rawInt]⟩
 refine ε (Ŝ (ε (wpAny_isOneOf_keyiter (s:={s with heap:=s.heap.update it (Obj.mapFields (·.setIfInBounds 1 (rawInt ((i:Int)+1))))}) b.typeIs ?_)))
 show wpAny _ _ (pure e.key) _ _ _
 exact π (π ⟨_,ϱ,π (r _ b (Ś ..))⟩)
def xE{Q:î->ë->Prop}(j:A.handled=none)(h:s.heap.IsKeyIter it d i es.size ep)(l:RawD s.heap d es ep)(o:es.size<=i)
  (q:∀h',Heap.ExtBut it s.heap h'->Q none {s with heap:=h'}):wpAny (model prog w) A (pyNext (.ref it)) Q E s:=by
 obtain ⟨r,h1,u,hf⟩:=id h
 obtain ⟨x,f,_,g⟩:=l
 have e:=h.typeIs
 unfold pyNext
 refine ε (wpAny_attempt (Ě (name:=Str.ofString "__next__") e ş (ň ş e PySem.F.entry_dict_keyiterator_next ?_ (PySem.F.args_dict_keyiterator_next_1 _))))
 refine ε (π (ε (ε ?_)))
 first | refine ε (Ĵ e (π ?_)) | refine ε (Ģ e (π ?_))
 refine ε (wpAny_fieldsOf h1 hf ?_)
 simp only [sd,Bool.false_eq_true,if_false]
 show wpAny _ _ (if (Value.ref d==Value.none)=true then _ else (_:Sem (Option (Array DictEntry×Int)))) _ _ s
 rw [ž (show ¬((Value.ref d==Value.none)=true) by intro z;cases z)]
 refine ε (π (ε (Ř f g ?_)))
 rw [if_neg (by simp)]
 refine ε (π (ε (ď f g ?_)))
 rw [if_neg (by simp)]
 refine π ?_
 simp only [show ¬((i:Int)<0) by omega,if_false,Int.toNat_natCast,Array.getElem?_eq_none o]
 refine ε ?_
 first | refine ε (Ĵ e (π ?_)) | refine ε (Ģ e (π ?_))
 show wpAny _ _ (setField (.ref it) 0 .none >>= λ_=>_) _ _ s
 refine wpAny_bind (wpAny_setField h1 hf (by simp) ?_)
 show wpAny _ _ (newExc (.type "StopIteration") [] >>= λ_=>_) _ _ _
 refine ε ?_
 simp only [newExc,newTuple]
 refine wpAny_bind (wpAny_newObj_type (wpAny_bind (m:=firstArgMember _ _) (wpAny_of_eq (a:=Value.none) (by first | rfl | (simp only [firstArgMember];rfl)) (wpAny_newObj_type ?_ (by size_fits)))) (by size_fits))
 simp only [raiseNew]
 refine ε (wpAny_handled ?_)
 rw [show A.in1.handled=none from j]
 refine ε (π (wpAny_throw ?_));refine ε (wpAny_isInstance (T:="StopIteration") (b:=true) ⟨_,ψ _ rfl,ϱ⟩ isSubtype_stop ?_)
 exact π (q _ (((Ś ..).extBut.push _).push _))
end
def Fz(a:é)(o:Obj):HO:=.ext λh=>h.get? a=some o
def FzD(P:ê)(w:è)(H:Hp)(a:é)(o:Obj)(kvs:List (List Key×V)):Prop :=
 kvs.length<=sizeLine/\(a==sysModules)=false/\∃xs es ep,KT H kvs xs/\o.ExactDict/\o.data=.dict es ep/\es.toList=xs.map (entryOfKey (tupleKind (aM P w)))/\(xs.map (·.1)).Nodup
def FzD.keep{P:ê}{w:è}{H H':Hp}{a:é}{o:Obj}{b:List (List Key×V)}(e:TSame H H')(f:FzD P w H a o b):FzD P w H' a o b:=by
 obtain ⟨z,d,g,es,h,r,q⟩:=f
 exact ⟨z,d,g,es,h,r.keeps e,q⟩
section
variable {X:Cx}{pins:ă}{σ:St}{H:Hp}{s:ë}{a:é}{o:Obj}{kvs:List (List Key×V)}
def C9(I:Inv X pins σ H s)(e:H a=some (.dT kvs)):∃o,Inv X pins σ (upd H a (Fz a o)) s/\FzD X.prog X.w (upd H a (Fz a o)) a o kvs/\s.heap.get? a=some o:=by
 obtain ⟨z,d,f,r,o,es,g,h1,h,i,j,l⟩:=(show ObjOk X.prog X.w H s.heap a (.dT kvs) from I.hok a _ e)
 refine ⟨o,I.write (x:=a) (e:=a) (h':=s.heap) (t':=s.toks) (by rw [e];exact ϰ) (.inl rfl) (λb u _ q=>q) ⟨_,h1⟩ ⟨h1,⟨_,h1⟩,λg1 y p k=>k _ p⟩,⟨z,d,f,es,g,KT.keeps (H:=H) r λb C q=>?_,h,i,j,l⟩,h1⟩
 rw [am (jH q e (λz=>nomatch z))]
 exact q
def xh(I:Inv X pins σ H s)(e:H a=some (Fz a o))(f:FzD X.prog X.w H a o kvs):Inv X pins σ (upd H a (.dT kvs)) s:=by
 obtain ⟨z,d,g,es,h,r,i,j,l,y⟩:=f
 obtain ⟨h1,_⟩:=(show ObjOk X.prog X.w H s.heap a (Fz a o) from I.hok a _ e)
 refine I.write (x:=a) (e:=a) (h':=s.heap) (t':=s.toks) (by rw [e];exact ϰ) (.inl rfl) (λb u _ q=>q) ⟨_,h1⟩ ⟨z,d,g,r.keeps λb C q=>?_,o,es,h,h1,i,j,l,y⟩
 rw [am (jH q e (λz=>nomatch z))]
 exact q
def AZ(I:Inv X pins σ H s)(e:H a=some (Fz a o))(f:FzD X.prog X.w H a o kvs):(a==sysModules)=false/\∃xs,KT H kvs xs/\s.heap.DictOfH (tupleKind (aM X.prog X.w)) a xs:=by
 obtain ⟨_,d,xs,r,dd⟩:=vD (xh I e f).hok ae
 refine ⟨d,xs,r.keeps λb g q=>?_,dd⟩
 by_cases hb:b=a
 .rw [hb,ae] at q
  cases q
 .rw [am hb] at q
  exact q
end
def Dy(P:ê)(w:è)(t:TE):TE:=fun σ H Q=>t σ H λv H1=>∃a o kvs,H1 a=some (Fz a o)/\FzD P w H1 a o kvs/\Q v (upd H1 a (.dT kvs))
def Ab{X:Cx}{e:á}{t:TE}(l:PE X e t):PE X e (Dy X.prog X.w t):=by
 intro b s σ H Q I h
 refine thn (l b s σ H _ I h) λu r ⟨x,H1,d,g,a,o,i,j,f,q⟩=>?_
 exact ⟨x,_,xh d j f,g,q⟩
def xl(P:ê)(w:è)(td ty:TE):TE:=fun σ H Q=>td σ H λx H1=>ty σ H1 λy H2=>∃a o kvs k b v,x=.ref a/\y=.ref b/\H2 a=some (Fz a o)/\FzD P w H2 a o kvs/\H2 b=some (.tup (List.map kV k))/\aY kvs k=some v/\Q v H2
def xX{X:Cx}{o i:á}{pos:Pos}{r z:TE}(hu:X.A.units+1<cLine)(ho:PE X o r)(hi:PE X i z)(hs:Be i):PE X (.Subscript o i pos) (xl X.prog X.w r z):=by
 intro d s σ H Q I h
 refine uQ PySem.F.slot_dict_getitem.lookup hs (thn (ho d s σ H _ I h) λu J ⟨x,H1,K,L,q1⟩=>thn (hi d J σ H1 _ K q1) λO s2 ⟨y,P,q,U,a,ob,W,k,b,v,ex,Y,Z,f,eb,l,q2⟩=>?_)
 subst ex Y
 obtain rfl:u=Value.ref a:=L
 obtain rfl:O=Value.ref b:=U
 obtain ⟨_,C,e,dd⟩:=AZ q Z f
 obtain ⟨w',D,g⟩:=RelO.some_of (v:=v) (o:=(atKey C k).map (·.2)) (by rw [← l];exact e.val k)
 obtain ⟨p,G,j⟩:=ų.mp D
 refine ⟨dd.typeIs,wpAny_getItem_heap (Ō hu) (gQ q.hok eb) dd G ?_⟩
 rw [j]
 exact ⟨v,P,q.tok _,g,q2⟩
def Itk(a:é)(o:Obj):It :=
 ⟨λi H=>H a=some (Fz a o)/\∃es ep h b v,o.data=.dict es ep/\es[i]?=some ⟨h,.ref b,v⟩,λi H x H'=>H'=H/\∃es ep h b v,o.data=.dict es ep/\es[i]?=some ⟨h,.ref b,v⟩/\x=.ref b,
  λi H=>H a=some (Fz a o)/\∃es ep,o.data=.dict es ep/\es.size<=i⟩
def vR{P:ê}{w:è}{K:ä}{tg:á}(a it:é)(o:Obj)(U:o.ExactDict):wO P w K tg (Itk a o) [it] it (λi h=>∃es ep,o.data=.dict es ep/\h.IsKeyIter it a i es.size ep) where
 mem:=by simp
 obj:=λi h st b hb=>by
  have e:b=it:=by simpa using hb
  subst e
  obtain ⟨_,_,_,o,e,c,d⟩:=st
  exact ⟨o,e,λv z=>by rw [d] at z;cases z⟩
 keep:=λi h h' st k=>by
  obtain ⟨es,ep,d,st⟩:=st
  exact ⟨es,ep,d,st.at λo e=>k it (by simp) o e⟩
 item:=by
  intro X G J L Q i j s σ H E I hf st O
  subst G J L
  obtain ⟨es,ep,g,st⟩:=st
  obtain ⟨e0,r,u,W,b,v,f,q⟩:=O
  rw [g] at f
  cases f
  obtain ⟨h1,_⟩:=(show ObjOk X.prog X.w H s.heap a (Fz a o) from I.hok a _ e0)
  obtain ⟨x,y,Y,C,D,F⟩:=hf it (by simp)
  refine u8 st ⟨o,h1,U,g⟩ q λh' l sb=>?_
  have Z:Inv X j σ H {s with heap:=h'}:=I.turned (t':=s.toks) (λb o hb e=>(sb.2 b hb).trans e) x y C D F
  obtain ⟨oi,e,c,d⟩:=id l
  exact ⟨.ref b,ϱ,sH (s:={s with heap:=h'}) e c d ζ ⟨.ref b,H,Z,ϱ,⟨ϱ,es,ep,W,b,v,g,q,ϱ⟩,⟨es,ep,g,l⟩,λb hb=>(hf b hb).1⟩⟩
 done:=by
  intro X G J L Q i j s σ H E I hf st O
  subst G J L
  obtain ⟨es,ep,g,st⟩:=st
  obtain ⟨e0,r,u,f,q⟩:=O
  rw [g] at f
  cases f
  obtain ⟨h1,_⟩:=(show ObjOk X.prog X.w H s.heap a (Fz a o) from I.hok a _ e0)
  obtain ⟨x,y,Y,C,D,F⟩:=hf it (by simp)
  exact xE (I.ok.hd Q) st ⟨o,h1,U,g⟩ q λh' eb=>⟨ϱ,I.turned (t':=s.toks) (λb o hb e=>eb b o hb e) x y C D F⟩
 self:=λ_ _ _ _ _ st h=>by
  obtain ⟨es,ep,g,st⟩:=st
  exact wpAny_pyIter_keyiter st h
def El(P:ê)(w:è)(tl:TE):TI:=fun σ H R=>tl σ H λx H1=>∃a kvs,x=.ref a/\H1 a=some (.dT kvs)/\∀o,FzD P w (upd H1 a (Fz a o)) a o kvs->R (Itk a o) (upd H1 a (Fz a o))
def z9{X:Cx}{J l:á}{u:TE}(K:PE X l u):PI X J l (El X.prog X.w u):=by
 intro d s σ H R I h
 refine thn (K d s σ H _ I h) λv g ⟨x,H1,F,G,q1⟩=>?_
 obtain ⟨a,y,e,z,q⟩:=q1
 subst e
 cases G
 obtain ⟨o,i,f,h1⟩:=C9 F z
 obtain ⟨_,C,L,es,D,_,j,r,_,_⟩:=id f
 refine u9 C ⟨o,h1,j,r⟩ ?_
 refine ⟨g.heap.objs.size,[g.heap.objs.size],_,_,_,ϱ,i.kept (t':=g.toks) λb o e=>ρ _ e,vR a _ o j,⟨es,D,r,_,ψ _ rfl,ϱ,ϱ⟩,λb hb=>?_,q o f⟩
 have e:b=g.heap.objs.size:=by simpa using hb
 subst e
 exact i.fpOk (ι _) (i.hok.fresh (ι _))
section
variable {P:ê}{w:è}{a:é}{o:Obj}{kvs:List (List Key×V)}{tt:TT}{te:TE}{bl:St}{Fin:à V->Hp->Prop}{H:Hp}
def AN(f:FzD P w H a o kvs)(d:Nat->à V->Hp->Prop)(h0:d 0 [] H)(X:∀i ys H',i<=kvs.length->d i ys H'->H' a=some (Fz a o)/\TSame H H')
  (Y:∀i e b ys H',kvs[i]?=some e->H' b=some (.tup (e.1.map kV))->d i ys H'->tt (some (.ref b)::bl) H' λc H2=>if c=true then te (some (.ref b)::bl) H2 λy H3=>d (i+1) (ys++[y]) H3 else d (i+1) ys H2)
  (Z:∀ys H',d kvs.length ys H'->Fin ys H') :
  ∃(W:Nat->à V->Hp->Prop) (n:Nat),W 0 [] H/\n<=sizeLine/\∀i ys H,W i ys H->((Itk a o).stop i H/\Fin ys H) \/
   ((Itk a o).go i H/\i<n/\∀x H',(Itk a o).yld i H x H'->tt (some x::bl) H' λc H2=>if c=true then te (some x::bl) H2 λy H3=>W (i+1) (ys++[y]) H3 else W (i+1) ys H2):=by
 obtain ⟨D,_,xs,es,l,r,hx,g,u,_⟩:=f
 have K:es.size=kvs.length:=by rw [size_of_entries u];exact (Ĥ r).symm
 refine ⟨λi ys H'=>i<=kvs.length/\d i ys H',kvs.length,⟨ϖ _,h0⟩,D,?_⟩
 rintro i ys H' ⟨U,p⟩
 obtain ⟨q,ts⟩:=X i ys H' U p
 by_cases hlt:i<kvs.length
 .obtain ⟨y,F,G⟩:=r.get1 (ξ hlt)
  have C:es[i]?=some (entryOfKey (tupleKind (aM P w)) y):=by rw [entry_at u,F];rfl
  refine .inr ⟨⟨q,es,l,_,y.2.1,y.2.2,g,C⟩,hlt,λx H2 z=>?_⟩
  obtain ⟨e,I,J,hh,b,v,h,j,ex⟩:=z
  subst e ex
  rw [g] at h
  cases h
  rw [C] at j
  have L:y.2.1=b:=by
   have:=congrArg DictEntry.key (Δ j)
   exact Value.ref.inj this
  subst L
  have z:=Y i kvs[i] y.2.1 ys H2 (ξ hlt) (ts _ _ G.2.1) p
  have O:(λ(c:Bool) (H2:Hp)=>if c=true then te (some (.ref y.2.1)::bl) H2 λy H3=>i+1<=kvs.length/\d (i+1) (ys++[y]) H3 else i+1<=kvs.length/\d (i+1) ys H2)=λc H2=>if c=true then te (some (.ref y.2.1)::bl) H2 λy H3=>d (i+1) (ys++[y]) H3 else d (i+1) ys H2:=by
   have Q:(i+1<=kvs.length)=True:=eq_true hlt
   funext c H2
   simp only [Q,true_and]
  show tt _ _ _
  rw [O]
  exact z
 .have e:i=kvs.length:=by omega
  subst e
  exact .inl ⟨⟨q,es,l,g,ω⟩,Z ys H' p⟩
end
def Vw(v d:é):HO:=.ext λh=>h.IsItemsView v d
def BR(td:TE):TE:=fun σ H Q=>td σ H λx H1=>∃a kvs,x=.ref a/\H1 a=some (.dT kvs)/\∀v,H1 v=none->Q (.ref v) (upd H1 v (Vw v a))
def xW{X:Cx}{o:á}{b d:Pos}{C:TE}(L:PE X o C)(f:attributeBase o "items" X.env (eval o X.env)=eval o X.env:=by rfl)(g:(b.endLine==d.line)=true:=by rfl) :
  PE X (.Call (.Attribute o "items" b) [] [] d) (BR C):=by
 intro j s σ H Q I h
 refine wpAny_Call_method0_late f g (thn (L j s σ H _ I h) λu i ⟨x,H1,w,J,a,y,ex,e,q⟩=>?_)
 subst ex
 obtain rfl:u=Value.ref a:=J
 obtain ⟨l,D,G⟩:=jk w (.inr ⟨y,.inl e⟩)
 refine ⟨"dict","dict.items",š,ę,PySem.F.type_dict_items,l,D,Ū rfl (PySem.evalArgs_none ?_)⟩
 refine ň ę l PySem.F.entry_dict_items ?_ (PySem.F.args_dict_items_1 _)
 unfold Builtin.«dict.items» Builtin.Dict.noArgs
 refine ε (ε (ļ l (π ?_)))
 show wpAny _ _ (Builtin.Dict.showsAll a >>= λ_=>_) _ _ i
 unfold Builtin.Dict.showsAll
 rw [ž (by rw [G];exact Ÿ)]
 refine ε (π (ε (wpAny_newObj_type (π ⟨_,ϱ,?_⟩))))
 refine ⟨.ref i.heap.objs.size,_,w.laid (a:=i.heap.objs.size) (o:=Vw i.heap.objs.size a) (t':=i.toks) (λ_ _ z=>ρ _ z) (ι _) ⟨⟨_,ψ _ rfl,ϱ,ϱ⟩,⟨_,ψ _ rfl⟩,λg1 O ⟨K,p,r⟩ k=>⟨K,k _ p,r⟩⟩,ϱ,q _ (w.hok.fresh (ι _))⟩
theorem fg{α β:Type}{F:α->β->Prop}:∀{xs:à α} {ys:à β},xs.length=ys.length->(∀(i:Nat) x y,xs[i]?=some x->ys[i]?=some y->F x y)->Paired F xs ys
 | [],[],_,_=>.nil
 | x::xs,y::ys,h,f=>.cons (f 0 x y rfl rfl) (fg (Nat.succ.inj h) λi a b e1 e2=>f (i+1) a b e1 e2)
def lD(H:Hp)(ts:à (Addr×à V)):Hp:=λb=>match ts.find? (λp=>decide (p.1=b)) with | some p=>some (.tup p.2) | none=>H b
def zO{H:Hp}{ts:à (Addr×à V)}(nd:(ts.map (·.1)).Nodup){p:Addr×à V}(b:p∈ts):lD H ts p.1=some (.tup p.2):=by
 unfold lD
 have:ts.find? (λq=>decide (q.1=p.1))=some p:=by
  induction ts with
  | nil=>cases b
  | cons x r ih =>
   rw [ű,đ] at nd
   rw [List.find?_cons]
   by_cases e:x.1=p.1
   .rw [τ e]
    rcases ϕ.mp b with z | z
    .rw [z]
    .exact absurd (ϑ.mpr ⟨p,z,e.symm⟩) nd.1
   .rw [Γ e]
    rcases ϕ.mp b with z | z
    .exact absurd (by rw [z]) e
    .exact ih nd.2 z
 rw [this]
def uL{H:Hp}{ts:à (Addr×à V)}{b:é}(h:∀p∈ts,p.1≠b):lD H ts b=H b:=by
 unfold lD
 have:ts.find? (λq=>decide (q.1=b))=none:=ũ.mpr λp d c=>h p d (Ξ c)
 rw [this]
def wW{H:Hp}{ts:à (Addr×à V)}{b:é}{o:HO}(h:lD H ts b=some o):(∃p∈ts,p.1=b/\o=.tup p.2)\/((∀p∈ts,p.1≠b)/\H b=some o):=by
 unfold lD at h
 cases e:ts.find? (λq=>decide (q.1=b)) with
 | none =>
  rw [e] at h
  exact .inr ⟨λp d z=>ũ.mp e p d (τ z),h⟩
 | some p =>
  rw [e] at h
  exact .inl ⟨p,List.mem_of_find?_eq_some e,by simpa using List.find?_some e,(Option.some.inj h).symm⟩
section
variable {X:Cx}{pins:ă}{σ:St}{H:Hp}{s:ë}
def Ec{h':ã}{l:Nat}{ts:à (Addr×à V)}(I:Inv X pins σ H s)(k:∀b o,s.heap.get? b=some o->h'.get? b=some o)(new:∀p∈ts,s.heap.objs.size<=p.1)
  (ok:∀p∈ts,p.2.length<=sizeLine/\∃its,Vals p.2 its/\IsTup h' p.1 (List.toArray its)):Inv X pins σ (lD H ts) {s with heap:=h',toks:=l}:=by
 have old:∀b o,s.heap.get? b=some o->lD H ts b=H b:=λb o e=>uL λp j z=>by
  subst z
  exact Nat.not_le_of_gt (η e) (new p j)
 have f:∀b o,H b=some o->lD H ts b=H b:=λb o e=>by
  obtain ⟨g,h⟩:=(I.hok b o e).there
  exact old b g h
 refine I.step (h':=h') (g':=s.gens) (d':=s.drawn) (t':=l) (ch:=[]) (λ_ z=>nomatch z) (λb o _ _ _ e _=>k b o e) (λb o _ _ _ e _=>⟨o.slots,k b o e⟩) (λb o _ e n=>by rw [old b o e];exact n)
  (λb o _ e=>⟨o,k b o e⟩) (λb x e=>by rw [f b _ e];exact e) (λb o u e=>by rw [f b _ e];exact e) (λb C e=>⟨#[],by rw [f b _ e,e];simp⟩) (λm y=>?_) (λb o e=>?_) I.bare
 .obtain ⟨g,es,w,i,r⟩:=y
  exact ⟨g,es,w,k _ g i,r⟩
 .rcases wW e with ⟨p,j,rfl,rfl⟩ | ⟨hn,h⟩
  .exact ok p j
  .exact (I.hok b o h).stay (λd v _ q=>k d v q) (λd q=>by rw [f d _ q];exact q) λd x q=>by rw [f d _ q];exact q
end
end L2
namespace Lo
open PySem L2
def sPS.c{K:ä}{H:Hp}{x:Pa×Str}{v:V}(h:sPS K H x v):cPS.rp K H x v:=by
 obtain ⟨a,b,rfl,h1,d⟩:=h
 exact ⟨a,_,_,ϱ,.inl h1,sPa.c (K:=K) (x:=x.1) ⟨b,ϱ,d⟩,ϱ⟩
end Lo
namespace L2
open PySem PySem.Spec PyProof.Rows
def A2{K:ä}{H:Hp}{a:é}(n:Nat):EqIs K n H (.ref a) (.ref a) true:=λP w A s u v hA hok kin r1 r2=>by
 cases r1
 cases r2
 exact SeqAt.EqAt.same _
def eq_int{K:ä}{H:Hp}(n:Nat)(i:Int):EqIs K n H (.int i) (.int i) true:=by
 have z:=(cInt.eq (K:=K) (H:=H) (x:=i) (y:=i) rfl rfl).mono (ϖ n)
 rwa [τ rfl] at z
def eq_str{K:ä}{H:Hp}(n:Nat)(i:Str):EqIs K n H (.str i) (.str i) true:=by
 have z:=(cStr.eq (K:=K) (H:=H) (x:=i) (y:=i) rfl rfl).mono (ϖ n)
 rwa [τ rfl] at z
def jm{K:ä}{H:Hp}{a b:é}{n:Nat}{us vs:à V}(q:SqT K H a us)(hb:SqT K H b vs)(h:Paired (λx y=>EqIs K n H x y true) us vs):EqIs K (n+1) H (.ref a) (.ref b) true/\wQ K (n+1) H (.ref a) (.ref b) true:=by
 obtain ⟨d,f⟩:=xc (e:=λ_=>true) q hb h.len λj x y l o=>by
  obtain ⟨v,g,i⟩:=h.get1 l
  rw [o] at g
  cases g
  exact i
 have e:((List.range us.length).all λ_=>true)=true:=by simp
 rw [e] at d f
 exact ⟨oH d λ_ _ _ _ _ _=>rfl,f⟩
end L2
namespace Lo
open PySem L2
structure TxH(K:ä)(CH:é):Prop where
 cl:Cls K CH
 ht:NoAttr K CH "stand"
 hw:NoAttr K CH "rows"
 hs:NoAttr K CH "sent"
 hl:NoAttr K CH "latest"
structure Ah where
 (l dx rw sn:é)
def hf(S:é)(h:Ah)(v:V):List (Str×V):=ax "latest" v (ax "sent" (.ref h.sn) (ax "rows" (.ref h.rw) (ax "stand" (.ref S) [])))
theorem nN(f:Str)(v v':V):∀fs:List (Str×V),ax f v' (ax f v fs)=ax f v' fs
 | []=>by
  show (if f=f then _ else _)=_
  rw [Ź rfl]
  rfl
 | (g,x)::r=>by
  by_cases e:g=f
  .show ax f v' (if g=f then _ else _)=(if g=f then _ else _)
   rw [Ź e,Ź e]
   show (if g=f then _ else _)=_
   rw [Ź e]
  .show ax f v' (if g=f then _ else _)=(if g=f then _ else _)
   rw [ž e,ž e]
   show (if g=f then _ else _)=_
   rw [ž e,nN f v v' r]
def C7(S:é)(h:Ah)(v v':V):ax "latest" v' (hf S h v)=hf S h v':=nN _ _ _ _
def BE(S:é)(h:Ah)(v:V):(hf S h v).lookup ("latest":Str)=some v:=by
 unfold hf
 rw [al,Ź rfl]
def BC(S:é)(h:Ah)(v:V):(hf S h v).lookup ("sent":Str)=some (.ref h.sn):=by
 unfold hf
 rw [al,ž θ,al,Ź rfl]
def BD(S:é)(h:Ah)(v:V):(hf S h v).lookup ("rows":Str)=some (.ref h.rw):=by
 unfold hf
 rw [al,ž θ,al,ž θ,al,Ź rfl]
def yZ(S:é)(h:Ah)(v:V):(hf S h v).lookup ("stand":Str)=some (.ref S):=by
 unfold hf
 rw [al,ž θ,al,ž θ,al,ž θ,al,Ź rfl]
def iI{S:é}{h:Ah}{v:V}{m:Str}(q:decide (m∈(["latest","sent","rows","stand"]:ú))=false):(hf S h v).lookup m=none:=by
 have b:m∉(["latest","sent","rows","stand"]:ú):=ē q
 simp only [List.mem_cons,List.not_mem_nil,or_false,not_or] at b
 obtain ⟨h1,d,e,f⟩:=b
 unfold hf
 rw [al,ž h1,al,ž d,al,ž e,al,ž f]
 rfl
def C8(S:é)(h:Ah)(v:V):(hf S h v).length<1000:=bo (n:=999) (bo (n:=998) (bo (n:=997) (bo (n:=996) (by show 0<996;decide))))
abbrev Ws:=Int×Str×Addr×é
def WsAt(H:Hp)(x:Ws)(u:V):Prop:=∃t t2,u=.ref t/\H t=some (.tup [.int x.1,.ref t2])/\H t2=some (.tup [.str x.2.1,.ref x.2.2.1,.ref x.2.2.2])
def WsAt.keep{H H':Hp}{x:Ws}{u:V}(e:TSame H H')(h:WsAt H x u):WsAt H' x u:=by
 obtain ⟨t,b,rfl,h1,d⟩:=h
 exact ⟨t,b,ϱ,e _ _ h1,e _ _ d⟩
def Im(CH CL:é):HO->Prop
 | .tup _=>True
 | .ins c _ fs=>fs≠[]/\c≠CH/\c≠CL
 | .ext φ=>∀a xs,φ≠EN a xs
 | .frz _ (.tup _)=>True
 | _=>False
abbrev Cs:=à (Addr×HO)
def ad(L:Cs):û:=L.map (·.1)
structure Ow(CH CL:é)(N:û)(H0 H:Hp)(L:Cs):Prop where
 co:∀x∈L,H x.1=some x.2
 nd:(ad L).Nodup
 mu:∀x∈L,∀u,H0 x.1=some u->¬Im CH CL u
 nw:∀x∈L,x.1∈N\/H0 x.1=none
 fr:∀b o,b∉N->H0 b=some o->H b=some o
 im:∀b o,H0 b=some o->Im CH CL o->H b=some o
section
variable {CH CL:é}{N:û}{H0 H H':Hp}{L L' L2:Cs}{a b:é}{o o':HO}
def Ow.ts(g:Ow CH CL N H0 H L):TSame H0 H:=λb xs e=>g.im b _ e ϰ
def Ow.mk0(co:∀x∈L,H x.1=some x.2)(nd:(ad L).Nodup)(nm:∀x∈L,¬Im CH CL x.2):Ow CH CL (ad L) H H L :=
 ⟨co,nd,λx hx u e=>by rw [co x hx] at e;cases e;exact nm x hx,λx hx=>.inl (ϑ.mpr ⟨x,hx,ϱ⟩),λ_ _ _ e=>e,λ_ _ e _=>e⟩
def Ow.self(g:Ow CH CL N H0 H L)(nm:∀x∈L,¬Im CH CL x.2):Ow CH CL (ad L) H H L:=.mk0 g.co g.nd nm
def Ow.same(g:Ow CH CL N H0 H L)(e:Same H H'):Ow CH CL N H0 H' L :=
 ⟨λx hx=>e _ _ (g.co x hx),g.nd,g.mu,g.nw,λb o n z=>e _ _ (g.fr b o n z),λb o z i=>e _ _ (g.im b o z i)⟩
def Ow.trans(g:Ow CH CL N H0 H L)(d:Ow CH CL (ad L) H H' L'):Ow CH CL N H0 H' L':=by
 refine ⟨d.co,d.nd,λx h u e i=>d.mu x h u (g.im _ _ e i) i,λx h=>?_,λb o n e=>?_,λb o e i=>d.im b o (g.im b o e i) i⟩
 .rcases d.nw x h with m | m
  .obtain ⟨y,f,e⟩:=ϑ.mp m
   rw [← e]
   exact g.nw y f
  .by_cases n:x.1∈N
   .exact .inl n
   .cases e:H0 x.1 with
    | none=>exact .inr rfl
    | some u=>rw [g.fr _ _ n e] at m;cases m
 .refine d.fr b o (λj=>?_) (g.fr b o n e)
  obtain ⟨y,f,z⟩:=ϑ.mp j
  rcases g.nw y f with m | m
  .exact n (z▸m)
  .rw [show y.1=b from z,e] at m;cases m
def Ow.kp(g:Ow CH CL N H0 H L)(i:Nat)(h:L[i]?=some (a,o))(k:Kp a H H')(e:H' a=some o'):Ow CH CL N H0 H' (L.set i (a,o')):=by
 have r:=Ŵ h
 have C:ad (L.set i (a,o'))=ad L:=by
  unfold ad
  rw [List.map_set]
  refine List.ext_getElem? λj=>?_
  rw [List.getElem?_set]
  by_cases q:i=j
  .rw [Ź q,Ź (by rw [ν];exact (ż.mp h).1),← q,Ż,h]
   rfl
  .rw [ž q]
 have D:∀x∈L.set i (a,o'),∃y∈L,y.1=x.1:=λx f=>by
  have:x.1∈ad L:=C▸ϑ.mpr ⟨x,f,ϱ⟩
  exact ϑ.mp this
 refine ⟨λx f=>?_,C▸g.nd,λx f=>?_,λx f=>?_,λb u n z=>?_,λb u z w=>k b u (λy=>g.mu _ r u (by show H0 a=some u;rw [← y];exact z) w) (g.im b u z w)⟩
 .obtain ⟨j,d⟩:=List.mem_iff_getElem?.mp f
  rw [List.getElem?_set] at d
  by_cases q:i=j
  .rw [Ź q] at d
   split at d
   .cases d
    exact e
   .cases d
  .rw [ž q] at d
   refine k _ _ (λz=>q ?_) (g.co x (Ŵ d))
   have F:(ad L)[i]?=some a:=by unfold ad;rw [List.getElem?_map,h];rfl
   have G:(ad L)[j]?=some a:=by unfold ad;rw [List.getElem?_map,d];show some x.1=some a;rw [z]
   exact (ĥ (ż.mp F).1 g.nd).mp (F.trans G.symm)
 .obtain ⟨y,l,q⟩:=D x f
  rw [← q]
  exact g.mu y l
 .obtain ⟨y,l,q⟩:=D x f
  rw [← q]
  exact g.nw y l
 .refine k b u (λy=>?_) (g.fr b u n z)
  rcases g.nw _ r with m | m
  .exact n (y▸m)
  .rw [show (a,o).1=b from y.symm,z] at m;cases m
def Ow.up(g:Ow CH CL N H0 H L)(i:Nat)(o':HO)(hi:L[i]?=some (a,o)):Ow CH CL N H0 (upd H a o') (L.set i (a,o')):=g.kp i hi bn ae
def Ow.old(g:Ow CH CL N H0 H L)(h:H b=none):b∈N\/H0 b=none:=by
 by_cases n:b∈N
 .exact .inl n
 .cases e:H0 b with
  | none=>exact .inr rfl
  | some u=>rw [g.fr _ _ n e] at h;cases h
def Ow.free(g:Ow CH CL N H0 H L)(h:H b=none):b∉ad L:=λhm=>by
 obtain ⟨y,hy,z⟩:=ϑ.mp hm
 have:=g.co y hy
 rw [show y.1=b from z,h] at this
 cases this
def Ow.add(g:Ow CH CL N H0 H L)(h:H a=none)(e:Same H H')(q:H' a=some o):Ow CH CL N H0 H' (L++[(a,o)]):=by
 have g1:=g.same e
 have d:=g.free h
 refine ⟨λx b=>?_,?_,λx b=>?_,λx b=>?_,g1.fr,g1.im⟩
 .rcases Ŷ.mp b with m | m
  .exact g1.co x m
  .rw [ϵ.mp m];exact q
 .unfold ad
  rw [ſ,Ŧ]
  exact ⟨g.nd,by simp,λx b y f=>by rw [List.mem_singleton.mp f];exact λz=>d (by rw [← show x=a from z];exact b)⟩
 .rcases Ŷ.mp b with m | m
  .exact g.mu x m
  .rw [ϵ.mp m]
   exact λu z i=>by rw [g.im a u z i] at h;cases h
 .rcases Ŷ.mp b with m | m
  .exact g.nw x m
  .rw [ϵ.mp m];exact g.old h
def Ow.new(g:Ow CH CL N H0 H L)(h:H a=none)(o:HO):Ow CH CL N H0 (upd H a o) (L++[(a,o)]):=g.add h (af h) ae
def Ow.part(g:Ow CH CL N H0 H L)(nd:(ad L').Nodup)(s:∀x∈L',x∈L):Ow CH CL N H0 H L' :=
 ⟨λx hx=>g.co x (s x hx),nd,λx hx=>g.mu x (s x hx),λx hx=>g.nw x (s x hx),g.fr,g.im⟩
def Ow.tail(g:Ow CH CL N H0 H (L++L')):Ow CH CL N H0 H L':=g.part (by have:=g.nd;unfold ad at this ⊢;rw [List.map_append] at this;exact (List.nodup_append.mp this).2.1) λx hx=>List.mem_append_right _ hx
def Ow.join(g:Ow CH CL N H0 H L)(f:Ow CH CL [] H H' L2):Ow CH CL N H0 H' (L2++L):=by
 have s:Same H H':=λb o e=>f.fr b o (λz=>nomatch z) e
 have g1:=g.same s
 have j:∀x∈L2,H x.1=none:=λx d=>(f.nw x d).resolve_left λz=>nomatch z
 refine ⟨λx d=>(Ŷ.mp d).elim (f.co x) (g1.co x),?_,λx d=>(Ŷ.mp d).elim (λm u e i=>?_) (g.mu x),λx d=>(Ŷ.mp d).elim (λm=>g.old (j x m)) (g.nw x),g1.fr,g1.im⟩
 .unfold ad
  rw [ſ,Ŧ]
  refine ⟨f.nd,g.nd,λx d y q z=>?_⟩
  obtain ⟨l,h,rfl⟩:=ϑ.mp d
  exact g.free (j l h) (z▸q)
 .have:=j x m
  rw [g.im _ _ e i] at this
  cases this
def Ow.born(g:Ow CH CL [a] H H' L)(e:Same H0 H)(n:H0 a=none):Ow CH CL [] H0 H' L:=by
 have s:Same H0 H':=λb o z=>g.fr b o (λy=>by rw [ϵ.mp y,n] at z;cases z) (e _ _ z)
 have f:∀x∈L,H0 x.1=none:=λx d=>by
  rcases g.nw x d with m | m
  .rw [ϵ.mp m];exact n
  .cases z:H0 x.1 with
   | none=>rfl
   | some u=>rw [e _ _ z] at m;cases m
 exact ⟨g.co,g.nd,(λx d u z=>by rw [f x d] at z;cases z),λx d=>.inr (f x d),λb o _ z=>s b o z,λb o z _=>s b o z⟩
end
section
variable {CH CL:é}{N:û}{H0 H H':Hp}{L L' R S X O:Cs}{a b l dx c:é}{fs fs':List (Str×V)}{o o':HO}
def Ow.fld(g:Ow CH CL N H0 H ((l,.ins c dx fs)::R))(n:H b=none)(o:HO)(fs':List (Str×V)):(upd H b o) l=some (.ins c dx fs)/\Ow CH CL N H0 (upd (upd H b o) l (.ins c dx fs')) ((l,.ins c dx fs')::(R++[(b,o)])) :=
 ⟨(g.new n o).co _ (.head _),(g.new n o).up 0 _ rfl⟩
def Ow.sub(g:Ow CH CL N H0 H L)(s:L'.Sublist L):Ow CH CL N H0 H L':=g.part ((s.map _).nodup g.nd) λ_ hx=>s.subset hx
def Ow.perm(g:Ow CH CL N H0 H L)(s:L'.Perm L):Ow CH CL N H0 H L':=g.part ((s.map _).nodup_iff.mpr g.nd) λ_ hx=>s.subset hx
def Ow.swap(g:Ow CH CL N H0 H (X++(S++O))):Ow CH CL N H0 H (S++X):=(g.sub (List.Sublist.append (.refl _) (List.sublist_append_left _ _))).perm Č
def Ow.repl{A B:Cs}{x y:Addr×HO}(g:Ow CH CL N H0 H (A++(x::(B++[y])))):Ow CH CL N H0 H (A++(y::B)):=(g.sub (List.Sublist.append (.refl _) (.cons _ (.refl _)))).perm (.append_left _ (List.perm_append_singleton _ _).symm)
def Ow.two(h1:H a=none)(f:H b=none)(g:a≠b)(e:Same H H')(q1:H' a=some o)(q2:H' b=some o'):Ow CH CL [] H H' [(a,o),(b,o')]:=by
 have m:∀x∈[(a,o),(b,o')],H x.1=none/\H' x.1=some x.2:=λx d=>by
  rcases ϕ.mp d with z | z
  .subst z;exact ⟨h1,q1⟩
  .rw [ϵ.mp z];exact ⟨f,q2⟩
 exact ⟨λx d=>(m x d).2,by simp [ad,g],(λx d u z=>by rw [(m x d).1] at z;cases z),λx d=>.inr (m x d).1,λb o _=>e b o,λb o z _=>e b o z⟩
end
abbrev ImS(CH CL:é)(H H':Hp):Prop:=∀b o,H b=some o->Im CH CL o->H' b=some o
section
variable {CH CL a:é}{H H' H2:Hp}{o:HO}
def cJ(k:Kp a H H')(e:H a=some o)(n:¬Im CH CL o):ImS CH CL H H':=λb u q i=>k b u (λz=>by rw [z,e] at q;cases q;exact n i) q
def cR(e:Same H H'):ImS CH CL H H':=λb u q _=>e b u q
def ImS.ts(e:ImS CH CL H H'):TSame H H':=λb xs q=>e b _ q ϰ
def ImS.trans(e:ImS CH CL H H')(e2:ImS CH CL H' H2):ImS CH CL H H2:=λb u q i=>e2 b u (e b u q i) i
end
def jI{C l dl:é}{H:Hp}(nl:H l=none)(nd:H dl=none):Same H (upd (upd H dl (.own l)) l (.ins C dl [])):=λb o e=>by
 rw [am (aq e nl),am (aq e nd)]
 exact e
def fQ{H:Hp}{a:é}{o o':HO}(e:H a=some o)(n:∀xs,o≠.tup xs:=by intro xs z;cases z):TSame H (upd H a o'):=λb xs q=>by
 rw [am (λz=>by rw [z,e] at q;exact n xs (Δ q))]
 exact q
section
variable {α:Type}{a b c d e f g h i j k l m n:α}{r:à α}
def j0:a∈a::r:=.head _
def j1:b∈a::b::r:=.tail _ j0
def j2:c∈a::b::c::r:=.tail _ j1
def j3:d∈a::b::c::d::r:=.tail _ j2
def j4:e∈a::b::c::d::e::r:=.tail _ j3
def j5:f∈a::b::c::d::e::f::r:=.tail _ j4
def j6:g∈a::b::c::d::e::f::g::r:=.tail _ j5
end
end Lo
namespace L2
open PySem PySem.Spec PyProof.Rows PySem.W Lo
def Dx(t:TA):TE:=fun σ H Q=>t σ H λxs H1=>xs.length<=sizeLine/\∀p o,H1 p=none->o.dict=none->Q (.ref p) (upd H1 p (.frz o (.tup xs)))
def my{X:Cx}{es:õ}{t:TA}{pos:Pos}{x1}(h:PA X es t):PE X (.Tuple es x1 pos) (Dx t):=by
 intro d s σ H Q I l
 refine wpAny_Tuple_spliced (thn (h pos d s σ H _ I l) λg f ⟨j,H1,i,r,z,q⟩=>⟨by rw [← r.length];exact z,?_⟩)
 have hf:H1 f.heap.objs.size=none:=i.hok.fresh (ι _)
 exact ⟨.ref f.heap.objs.size,upd H1 f.heap.objs.size (.frz {cls:=.type "tuple",data:=.seq g.toArray} (.tup j)),i.laid (t':=f.toks) (λb u e=>ρ _ e) (ι _) ⟨ψ _ rfl,z,g,r,_,ψ _ rfl,ϱ,_,ϱ⟩,ϱ,q _ _ hf rfl⟩
def A8{CH CL c:é}{q:Str}:Im CH CL (iK c q):=λa xs e=>by
 have g:∀b,Heap.get? {objs:=Array.replicate (c+1) ⟨.type "code",none,.fields #[.none,.str q 0],#[]⟩} b=if b<c+1 then some ⟨.type "code",none,.fields #[.none,.str q 0],#[]⟩ else none:=λb=>by
  unfold Heap.get?
  rw [Array.getElem?_replicate]
  by_cases z:b<c+1
  .rw [Ź z]
  .rw [ž z]
 obtain ⟨_,o,es,ep,e1,_,d,_⟩:=(congrFun e {objs:=Array.replicate (c+1) ⟨.type "code",none,.fields #[.none,.str q 0],#[]⟩}).mp ⟨_,_,0,(g c).trans (Ź (Į c)),ϱ,ϱ⟩
 rw [g a] at e1
 split at e1
 .cases e1;cases d
 .cases e1
end L2
namespace Km
open PySem PySem.NumText PyProof.Rows
def sF(c:Nat):Bool:=decide (48<=c)&&decide (c<=57)
def ug(c:Nat):Bool:=decide (32<=c)&&decide (c<=126)&&decide (c≠37)
def ci(m:Nat):ø:=(Nat.toDigits 10 m).map Char.toNat
def cy(n:Int):ø:=if n<0 then 45::ci n.natAbs else ci n.natAbs
def gm(m:Nat):AllDigits (ci m):=by
 intro c d
 obtain ⟨f,b,e⟩:=ϑ.mp d
 have r:=digit_range (Nat.isDigit_of_mem_toDigits ζ ζ b)
 rw [← e]
 exact r
def jQ(m:Nat):ci m≠[]:=by
 intro e
 have h:=toDigits_len_ge 10 m
 rw [List.map_eq_nil_iff.mp e] at h
 exact absurd h ζ
def iJ(m:Nat):digitsVal (ci m)=m:=PySem.W.KIN.val_back m
def wG:ci 0=[48]:=rfl
def wH(m:Nat)(h:m≠0):∀c r,ci m=c::r->c≠48:=by
 induction m using Nat.strongRecOn with
 | _ m ih =>
  intro c r e
  by_cases hm:m<10
  .unfold ci at e
   rw [Nat.toDigits_of_lt_base hm] at e
   have f:(Nat.digitChar m).toNat=c:=by simpa using (List.cons.inj e).1
   have b:∀d:Nat,d<10->d≠0->(Nat.digitChar d).toNat≠48:=by decide
   rw [← f]
   exact b m hm h
  .have t:Nat.toDigits 10 (m/10)++Nat.toDigits 10 (m%10)=Nat.toDigits 10 (10*(m/10)+m%10):=Nat.toDigits_append_toDigits ζ ω (Nat.mod_lt m ζ)
   rw [Nat.div_add_mod] at t
   have g:ci m=ci (m/10)++ci (m%10):=by unfold ci;rw [← t,List.map_append]
   cases q:ci (m/10) with
   | nil=>exact absurd q (jQ _)
   | cons c' r' =>
    rw [g,q] at e
    have:c'=c:=(List.cons.inj e).1
    rw [← this]
    exact ih (m/10) ω ω c' r' q
def oM{m k:Nat}(g:1<=k)(h:m<10 ^ k):(ci m).length<=k:=by
 induction k generalizing m with
 | zero=>omega
 | succ k ih =>
  by_cases hm:m<10
  .unfold ci
   rw [Nat.toDigits_of_lt_base hm]
   simp
  .have b:1<=k:=by
    cases k with
    | zero=>exfalso;simp at h;omega
    | succ k=>omega
   have t:Nat.toDigits 10 (m/10)++Nat.toDigits 10 (m%10)=Nat.toDigits 10 (10*(m/10)+m%10):=Nat.toDigits_append_toDigits ζ ω (Nat.mod_lt m ζ)
   rw [Nat.div_add_mod] at t
   have d:ci m=ci (m/10)++ci (m%10):=by unfold ci;rw [← t,List.map_append]
   have e:ci (m%10)=[(Nat.digitChar (m%10)).toNat]:=by unfold ci;rw [Nat.toDigits_of_lt_base (Nat.mod_lt m ζ)];rfl
   have f:m/10<10 ^ k:=by
    rw [Nat.pow_succ] at h
    exact Nat.div_lt_of_lt_mul (by rw [Nat.mul_comm];exact h)
   have:=ih b f
   rw [d,e,Ž]
   simpa using this
def qr(n:Int):(Str.ofString (toString n)).cps.toList=cy n:=by
 cases n with
 | ofNat m =>
  unfold cy
  rw [ž (show ¬Int.ofNat m<0 from Int.not_lt.mpr (Int.natCast_nonneg m))]
  exact PySem.W.KIN.signs_num m
 | negSucc m =>
  unfold cy
  rw [Ź ω]
  have e:toString (Int.negSucc m)="-"++Nat.repr (m+1):=rfl
  rw [e,signs_ofString,String.toList_append,ſ,Nat.toList_repr]
  rfl
end Km
namespace Km
open PySem PySem.NumText L2
open PyProof.Rows
def dq(c:Nat):à (ø)->ø
 | []=>[]
 | [x]=>x
 | x::y::r=>x++c::dq c (y::r)
theorem eF(c:Nat):∀ys:ú,(Str.join ⟨#[c]⟩ ys).cps.toList=dq c (ys.map λy=>y.cps.toList)
 | []=>rfl
 | [y]=>rfl
 | y::u::ys=>by
  have ih:=eF c (u::ys)
  rw [join_cons_cons]
  show ((y.cps++#[c])++(Str.join ⟨#[c]⟩ (u::ys)).cps).toList=_
  rw [Array.toList_append,Array.toList_append,ih]
  simp [dq]
def wL{c:Nat}{a b d g:ø}(i:c∉a)(f:c∉d)(e:a++c::b=d++c::g):a=d/\b=g:=by
 induction a generalizing d with
 | nil =>
  cases d with
  | nil=>exact ⟨rfl,(List.cons.inj e).2⟩
  | cons x d=>exact absurd (ϕ.mpr (.inl (List.cons.inj e).1)) f
 | cons x a ih =>
  cases d with
  | nil=>exact absurd (ϕ.mpr (.inl (List.cons.inj e).1.symm)) i
  | cons y d =>
   obtain ⟨j,l⟩:=List.cons.inj e
   obtain ⟨o,q⟩:=ih (λh=>i (Θ _ h)) (λh=>f (Θ _ h)) l
   exact ⟨by rw [j,o],q⟩
theorem pY{c:Nat}:∀{xs ys:à (ø)},xs≠[]->ys≠[]->(∀x∈xs,c∉x)->(∀y∈ys,c∉y)->dq c xs=dq c ys->xs=ys
 | [],_,h,_,_,_,_=>absurd rfl h
 | _::_,[],_,h,_,_,_=>absurd rfl h
 | [x],[y],_,_,_,_,e=>by rw [show x=y from e]
 | [x],y::u::ys,_,_,hx,_,e=>by
  have e':x=y++c::dq c (u::ys):=e
  exact absurd (by rw [e'];simp) (hx x List.mem_cons_self)
 | x::u::xs,[y],_,_,_,hy,e=>by
  have e':x++c::dq c (u::xs)=y:=e
  exact absurd (by rw [← e'];simp) (hy y List.mem_cons_self)
 | x::u::xs,y::v::ys,_,_,hx,hy,e=>by
  have e':x++c::dq c (u::xs)=y++c::dq c (v::ys):=e
  obtain ⟨e1,e2⟩:=wL (hx x Ω) (hy y Ω) e'
  rw [e1,pY (by simp) (by simp) (λz hz=>hx z (List.mem_cons_of_mem _ hz)) (λz hz=>hy z (List.mem_cons_of_mem _ hz)) e2]
def xo{z:Str}{c:Nat}{ps:à (ø)}(j:z.cps.toList=dq c ps)(h0:ps≠[])(l:∀p∈ps,c∉p):Txt.split z ⟨#[c]⟩=ps.map λp=>(⟨p.toArray⟩:Str):=by
 have d:=eF c (Txt.split z ⟨#[c]⟩)
 rw [StrLaws.join_split,j] at d
 have f:(Txt.split z ⟨#[c]⟩).map (λy=>y.cps.toList)≠[]:=by
  intro e
  have:=split_pos z ⟨#[c]⟩
  rw [List.map_eq_nil_iff.mp e] at this
  exact absurd this ζ
 have g:=pY h0 f l (λy i=>by
  obtain ⟨p,b,rfl⟩:=ϑ.mp i
  exact StrLaws.split_free z c p b) d
 rw [g,ķ]
 have h:((λp:ø=>(⟨p.toArray⟩:Str))∘λy:Str=>y.cps.toList)=id:=by
  funext y
  obtain ⟨a⟩:=y
  simp
 rw [h,List.map_id]
end Km
namespace St
open PySem L2 Lo Km PySem.NumText
inductive Wd where
 | take | mean | sum | give | add | plus | need
 deriving DecidableEq
def wS:Wd->Str
 | .take=>"take" | .mean=>"mean" | .sum=>"sum" | .give=>"give" | .add=>"add" | .plus=>"plus" | .need=>"need"
def wN:Wd->Str
 | .take=>"TakeStep" | .mean=>"MeanStep" | .sum=>"SumStep" | .give=>"GiveStep" | .add=>"AddStep" | .plus=>"PlusStep" | .need=>"NeedStep"
def inN(i:Int):Prop:=0<=i/\i<10 ^ 40
def inV(i:Int):Prop:=i.natAbs<10 ^ 40
def inN.v{i:Int}(h:inN i):inV i:=by
 unfold inN at h
 unfold inV
 omega
def Ar:Wd->ù->Prop
 | .take,[h,c]=>inN h/\inN c
 | .mean,[h,c]=>inN h/\inN c
 | .give,[h,c]=>inN h/\inN c
 | .sum,[h,a,b]=>inN h/\inN a/\inN b/\a<=b
 | .add,[h,c,v]=>inN h/\inN c/\inV v
 | .plus,[v]=>inV v
 | .need,[v]=>inV v
 | _,_=>False
def Ar.all{w:Wd}{d:ù}(h:Ar w d):∀i∈d,inV i:=by
 unfold Ar at h
 split at h
 .intro i b;simp only [List.mem_cons,List.mem_nil_iff,or_false] at b;rcases b with rfl | rfl<;>first | exact h.1.v | exact h.2.v
 .intro i b;simp only [List.mem_cons,List.mem_nil_iff,or_false] at b;rcases b with rfl | rfl<;>first | exact h.1.v | exact h.2.v
 .intro i b;simp only [List.mem_cons,List.mem_nil_iff,or_false] at b;rcases b with rfl | rfl<;>first | exact h.1.v | exact h.2.v
 .intro i b;simp only [List.mem_cons,List.mem_nil_iff,or_false] at b;rcases b with rfl | rfl | rfl<;>first | exact h.1.v | exact h.2.1.v | exact h.2.2.1.v
 .intro i b;simp only [List.mem_cons,List.mem_nil_iff,or_false] at b;rcases b with rfl | rfl | rfl<;>first | exact h.1.v | exact h.2.1.v | exact h.2.2
 .intro i b;simp only [List.mem_cons,List.mem_nil_iff,or_false] at b;rcases b with rfl;exact h
 .intro i b;simp only [List.mem_cons,List.mem_nil_iff,or_false] at b;rcases b with rfl;exact h
 .exact h.elim
def iS(i:Int):Str:=Str.ofString (toString i)
def f9{i:Int}(h:inV i):(iS i).length<=41:=by
 have e:(iS i).length=(cy i).length:=by
  unfold iS
  rw [← qr]
  simp [Str.length]
 rw [e]
 unfold cy
 have:=oM (k:=40) ζ h
 split
 .rw [ŭ];omega
 .omega
def CK(i:Int):32∉cy i:=by
 have d:∀m,32∉ci m:=λm b=>by
  have:=gm m
  have h:=this 32 b
  omega
 unfold cy
 split
 .intro b
  rcases ϕ.mp b with e | e
  .cases e
  .exact d _ e
 .exact d _
def txt(w:Wd)(ns:ù):Str:=Str.join (Str.ofString " ") (wS w::ns.map iS)
def Dt(w:Wd):32∉(wS w).cps.toList:=by cases w<;>decide +kernel
def wU(w:Wd):(wS w).length<=4:=by cases w<;>decide +kernel
def mW:(Str.ofString " ")=⟨#[32]⟩:=by decide +kernel
def pN(w:Wd)(b:ù):Txt.split (txt w b) ⟨#[32]⟩=wS w::b.map iS:=by
 have e:=eF 32 (wS w::b.map iS)
 have d:(txt w b).cps.toList=dq 32 ((wS w::b.map iS).map λy=>y.cps.toList):=by
  unfold txt
  rw [mW]
  exact e
 rw [xo d (by simp) (λp h=>?_)]
 .rw [ķ]
  have f:((λp:ø=>(⟨p.toArray⟩:Str))∘λy:Str=>y.cps.toList)=id:=by
   funext y
   obtain ⟨a⟩:=y
   simp
  rw [f,List.map_id]
 .obtain ⟨y,hy,rfl⟩:=ϑ.mp h
  rcases ϕ.mp hy with e | hy
  .rw [e];exact Dt w
  .obtain ⟨i,_,rfl⟩:=ϑ.mp hy
   have g:(iS i).cps.toList=cy i:=qr i
   rw [g]
   exact CK i
def Ar.len{w:Wd}{b:ù}(h:Ar w b):1<=b.length/\b.length<=3:=by
 unfold Ar at h
 split at h<;>first | exact h.elim | (constructor<;>simp)
def B1{ys:ú}{k:Nat}(h:∀y∈ys,y.length<=k):(ys.map (·.length)).sum<=ys.length*k:=by
 induction ys with
 | nil=>simp
 | cons y ys ih =>
  have h1:=h y Ω
  have d:=ih λy b=>h y (Θ _ b)
  rw [ű,List.sum_cons,ŭ,Nat.succ_mul]
  omega
def wT{w:Wd}{ns:ù}(h:Ar w ns):∀y∈wS w::ns.map iS,y.length<=41:=λy hy=>by
 rcases ϕ.mp hy with e | hy
 .rw [e];exact Λ (wU w) ζ
 .obtain ⟨i,hi,rfl⟩:=ϑ.mp hy
  exact f9 (h.all i hi)
def vM{w:Wd}{b:ù}(h:Ar w b):((wS w::b.map iS).map (·.length)).sum+(wS w::b.map iS).length*(Str.ofString " ").length<=1000:=by
 have h1:=B1 (wT h)
 have f:=h.len
 have d:(Str.ofString " ").length=1:=by decide +kernel
 rw [d]
 have e:(wS w::b.map iS).length<=4:=by rw [ŭ,ν];omega
 have g:(wS w::b.map iS).length*41<=4*41:=Nat.mul_le_mul_right _ e
 omega
def pE:Wd->ù->List (Str×V)
 | .take,[h,c]=>ax "cell" (.int c) (ax "where" (.int h) [])
 | .mean,[h,c]=>ax "cell" (.int c) (ax "where" (.int h) [])
 | .give,[h,c]=>ax "cell" (.int c) (ax "where" (.int h) [])
 | .sum,[h,a,b]=>ax "high" (.int b) (ax "low" (.int a) (ax "where" (.int h) []))
 | .add,[h,c,v]=>ax "amount" (.int v) (ax "cell" (.int c) (ax "where" (.int h) []))
 | .plus,[v]=>ax "amount" (.int v) []
 | .need,[v]=>ax "amount" (.int v) []
 | _,_=>[]
def StO(C:Wd->é)(H:Hp)(w:Wd)(ns:ù)(v:V):Prop:=∃a dx,v=.ref a/\H a=some (.ins (C w) dx (pE w ns))
def sy:Wd->ù->Option Lk
 | .take,[_,c]=>some (.read,c,c)
 | .mean,[_,c]=>some (.mean,c,c)
 | .give,[_,c]=>some (.change,c,c)
 | .sum,[_,a,b]=>some (.read,a,b)
 | .add,[_,c,_]=>some (.change,c,c)
 | _,_=>none
def orl(K:ä)(H:Hp):Option Lk->V->Prop
 | none,v=>v=.non
 | some k,v=>∃a,v=.ref a/\H a=some (.tup [.str (kdS k.1),.int k.2.1,.int k.2.2])
end St
namespace L2
open PySem PySem.Spec PyProof.Rows
section
variable {X:Cx}{CX:CXT}{E:XK}{k:Nat}{C f:é}{fd:ç}{ps:ú}{sp:Sp}{m:Str}{o e:á}{es:õ}{t:TA}{ty:TE}{pos apos cpos p:Pos}{mc:å}
structure BH(K:ä)(C:é)(m:Str)(f:é):Prop where
 ga:PySem.W.specialIn K (.ref C) "__getattribute__"=some (some (.builtin "type.__getattribute__"))
 rd:PySem.W.readsIn K C (.type "type")=true
 fc:PySem.W.findCls K (.ref C) (.type "type") m=some (.val (.ref f))
 hi:PySem.W.handedIn (.ref f)=true
 kp:PySem.W.keepIn K (.ref f)=true
def Af{pl:Sem Bool}(G:PE X o (tC (.ref C)))(c:BH X.K C m f)(F:FnOk X.prog X.w X.K X.mg X.base CX k f fd ps sp)(J:Room k X.A)(hb:Binds X.K fd ps [])(L:dO CX X E)(O:PA X (e::es) t)
  (g:starEach (e::es) X.env=(false,eval e X.env)::starEach es X.env:=by rfl)(i:(backTo pos (starEach es X.env)).any (·.1)=false:=by rfl)
  (P:eval (.Call (.Attribute o m apos) (e::es) [] pos) X.env=(do
   let ov ← eval o X.env
   standAt apos.atName
   let (f,first) ← holding [ov] (getMethod ov m pl)
   callWith pos f first (backTo pos (starEach (e::es) X.env)) (backToKw pos (keywordEach [] X.env))):=by rfl) :
  PE X (.Call (.Attribute o m apos) (e::es) [] pos) (xm sp [] E t):=by
 intro b s σ H Q I h
 refine Ď (pl:=pl) (thn (G b s σ H (λx H1=>x=.ref C/\t σ H1 λvs j=>sp (vs++[]) j Q E) I ⟨ϱ,h⟩) λu l ⟨x,H1,d,D,ex,q⟩=>?_) P
 subst ex
 obtain rfl:u=Value.ref C:=D
 refine PySem.W.method_cls d.kIn c.ga (PySem.W.cls_value d.kIn c.rd c.fc c.hi ?_)
 have z:Inv X b σ H1 {l with toks:=l.toks+1}:=d.tok _
 refine ĕ (first:=[]) (h₀:=X.base) I.ok.mod.kin c.kp (thn (O pos b _ σ H1 _ z q) λus U ⟨vs,j,y,r,q2⟩=>⟨y.kIn,?_⟩) g i
 exact qO (us:=us) (vs:=vs) F J hb .nil L y r q2
def Ac{a:é}{D:à (Str×KTD.Dat)}(L:PE X o (tC (.ref a)))(O:PE X e ty)(d:M1 X o "get" apos e cpos)(q:TabK X.K a D) :
  PE X (.Call (.Attribute o "get" apos) [e] [] cpos) (fun σ H Q=>ty σ H λy H1=>∃k z,y=.str k/\KTD.datumAt k D=some (.flat (.str z))/\Q (.str z) H1):=by
 intro b s σ H Q I h
 refine Ħ d.base d.few d.line š č PySem.F.type_dict_get (thn (L b s σ H (λx H1=>x=.ref a/\ty σ H1 λy H1=>∃k z,y=.str k/\KTD.datumAt k D=some (.flat (.str z))/\Q (.str z) H1) I ⟨ϱ,h⟩) λu f ⟨x,H1,i,r,ex,q1⟩=>?_)
 subst ex
 obtain rfl:u=Value.ref a:=r
 have g:KTD.Here f.heap f.heap a D:=⟨q.at i.kIn,λ_ _ e=>e⟩
 refine ⟨g.typeIs,g.noDict,?_⟩
 rw [d.trees]
 refine Ū rfl (Ŋ (Ť (thn (O b f σ H1 _ i q1) λU w ⟨y,C,j,G,k,z,J,l,q2⟩=>Ņ ?_)))
 subst J
 obtain ⟨P,rfl⟩:=G
 refine KTD.get1_textL (h₀:=w.heap) ⟨q.at j.kIn,λ_ _ e=>e⟩ ?_ (rg l (KTD.opened_str λW=>⟨.str z,C,j.tok _,⟨_,ϱ⟩,q2⟩))
 rw [← KTD.isSome_datumAt,l]
 rfl
def uh:MtR X "str.lstrip" (λx vs H Q=>∃z y,x=.str z/\vs=[.str y]/\z.length<=sizeLine/\Q (.str (Txt.lstripChars z y)) H):=by
 intro b s σ H x i v j Q I e r h
 obtain ⟨z,y,rfl,rfl,d,q⟩:=h
 obtain ⟨t,rfl⟩:=e
 obtain ⟨u,rfl,⟨f,rfl⟩⟩:=dm r
 exact SC.lstripChars (λg k=>⟨.str _,H,I.tok _,⟨_,ϱ⟩,q⟩) d
def Ci{te:TE}(h:PE X.nox e te):PEX X e (fun σ H Q _=>te σ H Q):=by
 intro b s σ H Q E I q
 exact nox (h b s σ H _ (I.wish _) q) λv f ⟨x,H1,d,r,q1⟩=>⟨x,H1,d.unwish,r,q1⟩
end
end L2
namespace St
open PySem L2 Lo Km PySem.NumText
structure TxW(K:ä)(CW:Wd->é):Prop where
 cl:∀w,Cls K (CW w)
 nW:∀w,NoAttr K (CW w) "where"
 nC:∀w,NoAttr K (CW w) "cell"
 nL:∀w,NoAttr K (CW w) "low"
 nH:∀w,NoAttr K (CW w) "high"
 nA:∀w,NoAttr K (CW w) "amount"
def isC:Wd->Bool
 | .take=>true | .mean=>true | .give=>true | _=>false
def bM{f:Str}{v:V}{fs:List (Str×V)}:(ax f v fs).lookup f=some v:=by rw [al,Ź rfl]
def aO{f g:Str}{v:V}{fs:List (Str×V)}(h:¬g=f):(ax f v fs).lookup g=fs.lookup g:=by rw [al,ž h]
section
variable (CW:Wd->é)
inductive gs (w:Wd) (vs:à V) (H:Hp) (Q:VK) (E:XK):Prop|mk a dx ns:vs=.ref a::(ns:ù).map V.int->Ar w ns->H a=some (.ins (CW w) dx [])->(∀H',H' a=some (.ins (CW w) dx (pE w ns))->Kp a H H'->Q .non H')->gs w vs H Q E
inductive mt (vs:à V) (H:Hp) (Q:VK) (E:XK):Prop|mk a dx w h c:vs=[.ref a,.int h,.int c]->H a=some (.ins (CW w) dx [])->(∀H',H' a=some (.ins (CW w) dx (ax "cell" (.int c) (ax "where" (.int h) [])))->Kp a H H'->Q .non H')->mt vs H Q E
inductive eY (K:ä) (w:Wd) (vs:à V) (H:Hp) (Q:VK) (E:XK):Prop|mk v ns:vs=[v]->Ar w ns->StO CW H w ns v->(∀u H',Same H H'->orl K H' (sy w ns) u->Q u H')->eY K w vs H Q E
end
def su{i:Int}(h:inV i):i.natAbs.log2<1920:=by
 by_cases h0:i.natAbs=0
 .rw [h0];decide
 .exact (Nat.log2_lt h0).mpr (Nat.lt_trans h θ)
def Ar.c{w:Wd}{d:ù}(hw:isC w=true)(h:Ar w d):∃a b,d=[a,b]/\inN a/\inN b/\pE w d=ax "cell" (.int b) (ax "where" (.int a) []):=by
 cases w<;>first | cases hw | skip
 all_goals
  match d,h with
  | [a,b],h=>exact ⟨a,b,rfl,h.1,h.2,rfl⟩
def Ar.s{d:ù}(h:Ar .sum d):∃a b c,d=[a,b,c]/\inN a/\inN b/\inN c/\b<=c:=by
 match d,h with
 | [a,b,c],h=>exact ⟨a,b,c,rfl,h⟩
def Ar.a{d:ù}(h:Ar .add d):∃a b c,d=[a,b,c]/\inN a/\inN b/\inV c:=by
 match d,h with
 | [a,b,c],h=>exact ⟨a,b,c,rfl,h⟩
def Ar.p{b:ù}(h:Ar .plus b):∃a,b=[a]/\inV a:=by
 match b,h with
 | [a],h=>exact ⟨a,rfl,h⟩
def Ar.n{b:ù}(h:Ar .need b):∃a,b=[a]/\inV a:=by
 match b,h with
 | [a],h=>exact ⟨a,rfl,h⟩
open PySem.Spec PyProof.Rows
def at0{x:V}{xs:à V}:atI (x::xs) 0=some x:=br (j:=0) rfl
def at1{x y:V}{xs:à V}:atI (x::y::xs) 1=some y:=br (j:=1) rfl
def at2{x y z:V}{xs:à V}:atI (x::y::z::xs) 2=some z:=br (j:=2) rfl
def BJ{a b:Wd}(h:wS a=wS b):a=b:=by
 cases a<;>cases b<;>first | rfl | exact absurd h θ
def hZ{a b:Wd}(c:decide (V.str (wS a)=V.str (wS b))=true):a=b:=BJ (V.str.inj (Ξ c))
def dv{a b:Wd}(c:¬decide (V.str (wS a)=V.str (wS b))=true):a≠b:=λe=>c (by rw [e];exact τ rfl)
def BI{a:Wd}(h1:a≠.take)(b:a≠.mean)(d:a≠.sum)(e:a≠.give)(f:a≠.add)(g:a≠.plus):a=.need:=by
 cases a<;>first | rfl | contradiction
def shp:Wd->Str
 | .take=>"HC" | .mean=>"HC" | .sum=>"HAB" | .give=>"HC" | .add=>"HCV" | .plus=>"V" | .need=>"V"
def mw:à (Str×PyProof.Rows.KTD.Dat):=[("take",.flat (.str "HC")),("mean",.flat (.str "HC")),("sum",.flat (.str "HAB")),("give",.flat (.str "HC")),("add",.flat (.str "HCV")),("plus",.flat (.str "V")),("need",.flat (.str "V"))]
def xx(w:Wd):PyProof.Rows.KTD.datumAt (wS w) mw=some (.flat (.str (shp w))):=by
 cases w<;>kernel_rfl
def zW{w:Wd}{b:ù}(h:Ar w b):(shp w).length=b.length:=by
 unfold Ar at h
 split at h<;>first | exact h.elim | kernel_rfl
def mU(w:Wd):(shp w).length<=sizeLine:=by cases w<;>decide +kernel
def fw{i:Int}{p:Prop}(h:inN i):i<0->p:=λz=>absurd z (by unfold inN at h;omega)
def B5{w:Wd}{d:ù}{k:Nat}{i:Int}(h:Ar w d)(b:d[k]?=some i):∃c,(shp w).cps.toList[k]?=some c/\(i<0->c=86):=by
 unfold Ar at h
 split at h
 .rcases k with _ | _ | k
  .cases b;exact ⟨72,θ,fw h.1⟩
  .cases b;exact ⟨67,θ,fw h.2⟩
  .simp at b
 .rcases k with _ | _ | k
  .cases b;exact ⟨72,θ,fw h.1⟩
  .cases b;exact ⟨67,θ,fw h.2⟩
  .simp at b
 .rcases k with _ | _ | k
  .cases b;exact ⟨72,θ,fw h.1⟩
  .cases b;exact ⟨67,θ,fw h.2⟩
  .simp at b
 .rcases k with _ | _ | _ | k
  .cases b;exact ⟨72,θ,fw h.1⟩
  .cases b;exact ⟨65,θ,fw h.2.1⟩
  .cases b;exact ⟨66,θ,fw h.2.2.1⟩
  .simp at b
 .rcases k with _ | _ | _ | k
  .cases b;exact ⟨72,θ,fw h.1⟩
  .cases b;exact ⟨67,θ,fw h.2.1⟩
  .cases b;exact ⟨86,θ,λ_=>rfl⟩
  .simp at b
 .rcases k with _ | k
  .cases b;exact ⟨86,θ,λ_=>rfl⟩
  .simp at b
 .rcases k with _ | k
  .cases b;exact ⟨86,θ,λ_=>rfl⟩
  .simp at b
 .exact h.elim
def sG(i:Int):(iS i).cps.toList=cy i:=qr i
def CJ{i:Int}{c:Nat}(h:c∈cy i):c=45\/(48<=c/\c<=57):=by
 have b:∀m,c∈ci m->48<=c/\c<=57:=λm d=>gm m c d
 unfold cy at h
 split at h
 .rcases ϕ.mp h with e | e
  .exact .inl e
  .exact .inr (b _ e)
 .exact .inr (b _ h)
def ut{i:Int}(h:inV i):(Txt.lstripChars (iS i) (Str.ofString "-")).length<=40:=by
 have e:(Str.ofString "-")=⟨#[45]⟩:=by decide +kernel
 have b:=oM (k:=40) ζ h
 have f:(iS i).cps.size=(cy i).length:=by rw [← sG];simp
 rw [e]
 unfold Txt.lstripChars
 rw [stripBy_eq]
 generalize hL:stripLo ((⟨#[45]⟩:Str).cps.contains) true (iS i)=lo
 show ((iS i).cps.extract lo (iS i).length).size<=40
 rw [Array.size_extract]
 by_cases hi:i<0
 .have h1:1<=lo:=by
   rw [← hL]
   show 1<=((iS i).cps.toList.takeWhile (λc=>(⟨#[45]⟩:Str).cps.contains c)).length
   rw [sG]
   unfold cy
   rw [Ź hi,List.takeWhile_cons,Ź θ]
   simp
  have d:(cy i).length<=41:=by
   unfold cy
   rw [Ź hi,ŭ]
   omega
  omega
 .have d:(cy i).length<=40:=by
   unfold cy
   rw [ž hi]
   exact b
  omega
def AX{i:Int}(h:inV i):(iS i).length<=100000:=Λ (f9 h) ζ
theorem pX(c:Nat):∀ls:à (ø),(dq c ls).length<=(ls.map (·.length)).sum+ls.length
 | []=>ϖ _
 | [x]=>by simp [dq]
 | x::y::r=>by
  have h:=pX c (y::r)
  show (x++c::dq c (y::r)).length<=_
  rw [Ž,ŭ,ű,List.sum_cons,ŭ (a:=x)]
  omega
def uM{b:Wd}{d:ù}(h:Ar b d):(txt b d).length<=1000000:=by
 have e:(txt b d).cps.toList=dq 32 ((wS b::d.map iS).map λy=>y.cps.toList):=by
  unfold txt
  rw [mW]
  exact eF 32 _
 have f:(txt b d).length=(txt b d).cps.toList.length:=by simp [Str.length]
 have h1:=pX 32 ((wS b::d.map iS).map λy=>y.cps.toList)
 have g:=vM h
 have i:((wS b::d.map iS).map λy=>y.cps.toList).map (·.length)=(wS b::d.map iS).map (·.length):=by
  rw [ķ]
  refine ğ λy _=>?_
  simp [Str.length]
 have j:(Str.ofString " ").length=1:=by decide +kernel
 rw [i,ν] at h1
 rw [j,Nat.mul_one] at g
 rw [f,e]
 omega
def BF{m:Str}(h1:¬m="where")(b:¬m="cell")(d:¬m="low")(e:¬m="high")(f:¬m="amount")(w:Wd)(g:ù):(pE w g).lookup m=none:=by
 unfold pE
 split<;>simp only [aO h1,aO b,aO d,aO e,aO f,List.lookup_nil]
def oq{H H':Hp}{x dx:é}{o1 o2:HO}(nx:H x=none)(nd:H dx=none)(k:Kp x (upd (upd H dx o1) x o2) H'):Same H H':=λb o e=>by
 have hx:b≠x:=λz=>by rw [z,nx] at e;cases e
 have hd:b≠dx:=λz=>by rw [z,nd] at e;cases e
 exact k b o hx (by rw [am hx,am hd];exact e)
structure WI(P:ê)(w:è)(K:ä)(mg:ā)(base:ã)(CW:Wd->é)(wd:Wd) where
 fI:é
 dI:ç
 ps:ú
 M:Mk K (CW wd) fI
 ok:FnOk P w K mg base CX0 2 fI dI ps (gs CW wd)
 b:Binds K dI ps []
 m:mg (wN wd)=some (.ref (CW wd))
section
variable (CW:Wd->é)
inductive tL (vs:à V) (H:Hp) (Q:VK) (E:XK):Prop|mk wd q ns:vs=[.str (wS wd),.ref q]->H q=some (.lst ((ns:ù).map V.int))->Ar wd ns->(∀v H',Same H H'->StO CW H' wd ns v->Q v H')->tL vs H Q E
inductive tM (vs:à V) (H:Hp) (Q:VK) (E:XK):Prop|mk x y z:vs=[.int x,.int y,.int z]->Ar .sum [x,y,z]->(∀v H',Same H H'->StO CW H' .sum [x,y,z] v->Q v H')->tM vs H Q E
inductive mi (vs:à V) (H:Hp) (Q:VK) (E:XK):Prop|mk wd ns:vs=[.str (txt wd ns)]->Ar wd ns->(∀v H',Same H H'->StO CW H' wd ns v->Q v H')->mi vs H Q E
end
inductive tJ (vs:à V) (H:Hp) (Q:VK) (E:XK):Prop|mk i c:vs=[.str (iS i),.str ⟨#[c]⟩]->inV i->((i<0->c=86))->(∀H',Same H H'->Q (.int i) H')->tJ vs H Q E
end St
namespace L2
open PySem PySem.Spec PyProof.Rows PySem.W
open Lo
def Bf(h:ã)(x:Int×Int)(v:å):Prop:=∃a t1 t2,v=.ref a/\h.IsTuple a #[.int x.1 t1,.int x.2 t2]
def ltP(x y:Int×Int):Bool:=if x.1=y.1 then (if x.2=y.2 then false else decide (x.2<y.2)) else decide (x.1<y.1)
section
variable {prog:ê}{w:è}{A:æ}{E:Ă}{s:ë}
def D8{x y:Int×Int}{u v:å}{Q:Bool->ë->Prop}(h1:Bf s.heap x u)(l:Bf s.heap y v)(q:Q (ltP x y) s):wpAny (model prog w) A (keyLt' (tuples' true) u v) Q E s:=by
 obtain ⟨a,b,d,rfl,e⟩:=h1
 obtain ⟨c,u1,f,rfl,q1⟩:=l
 obtain ⟨o,g,_,r,h⟩:=id e
 obtain ⟨z,i,_,C,j⟩:=id q1
 refine kat_lt g h i j (kat_cons (Ĕ _ b _ u1 _ _ _ _ ?_))
 unfold ltP at q
 by_cases en:x.1=y.1
 .rw [Ź en] at q
  rw [show (x.1==y.1)=true from ą.mpr en]
  refine kat_yes (kat_cons (Ĕ _ d _ f _ _ _ _ ?_))
  by_cases es:x.2=y.2
  .rw [Ź es] at q
   rw [show (x.2==y.2)=true from ą.mpr es]
   exact kat_yes (kat_nil q)
  .rw [ž es] at q
   rw [show (x.2==y.2)=false from ś.mpr es]
   exact kat_no (kat_one _ _ (lt_int q))
 .rw [ž en] at q
  rw [show (x.1==y.1)=false from ś.mpr en]
  exact kat_no (kat_lt_int q)
end
def Cc{P:ê}{w:è}{K:ä}{H:Hp}{h:ã}{x:Int×Int}{v:V}{u:å}(ok:HOk P w H h)(q:sPa K H x v)(r:RelV v u):Bf h x u:=by
 obtain ⟨a,rfl,h1⟩:=q
 cases (show u=Value.ref a from r)
 obtain ⟨_,b,d,p⟩:=(show ObjOk P w H h a (.tup [.int x.1,.int x.2]) from ok a _ h1)
 obtain ⟨g,i,rfl,⟨e,rfl⟩,⟨f,rfl⟩⟩:=uK d
 exact ⟨a,e,f,ϱ,p⟩
section
variable {prog:ê}{w:è}{A:æ}{E:Ă}{s:ë}{h₀:ã}{L:é}{m:ā}{news:ă}
def Eu(T:å)(h:ã)(v:å):Prop:=∃f,KatTups h [v] [f]/\∀M:Model,Looks M h (typeOf f) T
theorem xf{T:å}{α:Type}{At:ã->α->å->Prop}{h:ã}(tp:∀{x v},At h x v->Eu T h v):∀{es:à α} {vs:ü},Paired (At h) es vs->∃fs,KatTups h vs fs/\fs.length=vs.length/\∀v∈fs,∀M:Model,Looks M h (typeOf v) T
 | _,_,.nil=>⟨[],KatTups.nil,rfl,λ_ hv=>nomatch hv⟩
 | _,_,.cons r t=>by
  obtain ⟨fs,k,l,ty⟩:=xf tp t
  obtain ⟨f,k1,y1⟩:=tp r
  refine ⟨f::fs,⟨k1.1,k⟩,congrArg (·+1) l,λv hv M=>?_⟩
  rcases ϕ.mp hv with z | hv
  .subst z
   exact y1 M
  .exact ty v hv M
structure Srt(prog:ê)(w:è){α:Type}(At:ã->α->å->Prop)(lt:α->α->Bool)(T:å):Prop where
 rf:(T==T)=true
 tp:∀{h:ã} {x v},At h x v->Eu T h v
 cm:∀{A:æ} {E:Ă} {s:ë} {x y u v} {C:Bool->ë->Prop},A.units+1<cLine->At s.heap x u->At s.heap y v->C (lt x y) s->wpAny (model prog w) A (keyLt' (tuples' (T != Value.type "tuple")) u v) C E s
def zc{α:Type} [Inhabited α]{f:ã->α->å->Prop}{lt:α->α->Bool}{T:å}(S:Srt prog w f lt T){es:à α}{vs:ü}{a n:Nat}{P:PySem.Fin->ë->Prop}(O:A.units+1<cLine)(F:Fr h₀ L s.heap m)(N:News h₀ L s.heap news)(Q:s.heap.get? a=some (seqObj "list" vs.toArray n))(g:a≠L)(h:h₀.get? a=none)(d:∀p∈news,p.1≠a)
  (U:∀h',(∀b o,(b,o)∈news->h'.get? b=some o)->Paired (f h') es vs)(e:2<=vs.length)(l:vs.length<64)
  (q:∀h' c,Fr h₀ L h' m->News h₀ L h' ((a,PySem.W.listOf (List.toArray ((ph (λi j=>lt (es.getD i default) (es.getD j default)) (kas_sort es.length)).toList.map λi=>vs.getD i Value.none)) c)::news)->P (.done (.ret .none)) {s with heap:=h'}) :
  wpAny (model prog w) A (Builtin.«list.sort» ⟨[.ref a], []⟩) P E s := by
 refine kat_list_sort F N Q g h d e l λX h' z r=>?_
 have en:Paired (f h') es vs:=U h' λb o hb=>(r (b,o) (Θ _ hb)).1
 have y:=en.len
 obtain ⟨fs,u,lf,x⟩:=xf S.tp en
 refine kat_kind (s:={s with heap:=h'}) u ω (λv D=>x v D _) S.rf ?_
 rw [← y]
 refine KAll.wp (lt:=λi j=>lt (es.getD i default) (es.getD j default)) (λi j C G H I=>?_) (sY ω) λY=>?_
 .exact S.cm (s:={s with heap:=h'}) O (qR en G default Value.none) (qR en H default Value.none) I
 .exact KasFin.intro (s:={s with heap:=h'}) z r (.head d) λe c J K=>q e c J K
end
section
variable {X:Cx}{pins:ă}{σ:St}{H:Hp}{s:ë}
def mT{α:Type} [Inhabited α]{At:ã->α->å->Prop}{lt:α->α->Bool}{T:å}(S:Srt X.prog X.w At lt T){vs:ü}{us:à V}{es:à α}{Q:VK}{E:Ă}{R:α->V->Prop}(hu:X.A.units+4<cLine)(I:Inv X pins σ H s)(K:Vals us vs)(pe:Paired R es us)
  (ra:∀{h x v u},HOk X.prog X.w H h->R x v->RelV v u->At h x u)(b5:us.length<64)
  (q:∀l ys,H l=none->Paired R (cu lt es) ys->Q (.ref l) (upd H l (.lst ys))) :
  wpAny (model X.prog X.w) X.A.in1 (newList vs >>= λl=>holding [l] (call (.builtin "list.sort") [l] []) >>= λ_=>ret l) (λfin s'=>∃v,fin=.done (.ret v)/\EP X pins σ Q v s') E s:=by
 have ap:us.length=vs.length:=K.length
 have L:es.length=us.length:=pe.len
 have zl:vs.length<=sizeLine:=by rw [Ķ];omega
 refine ε (wpAny_newList ?_ zl)
 obtain ⟨m,hn,_⟩:=id I.loc
 have N:News (Att.iz s.heap) X.env.locals s.heap (Att.jj s.heap X.env.locals X.env.locals):=λ⟨c,o⟩ Y=>by
  obtain ⟨g,_,e⟩:=Att.mem_ledger.mp Y
  exact ⟨e,g,Att.gE _ _⟩
 have G:∀c o,c≠X.env.locals->s.heap.get? c=some o->(c,o)∈Att.jj s.heap X.env.locals X.env.locals:=λc o g e=>Att.mem_ledger.mpr ⟨g,g,e⟩
 have up:∀b o,s.heap.get? b=some o->(s.heap.push (seqObj "list" vs.toArray 0)).get? b=some o:=λb o e=>ρ _ e
 have F1:Fr (Att.iz s.heap) X.env.locals (s.heap.push (seqObj "list" vs.toArray 0)) m:=(Att.Da hn).kept up
 have N1:News (Att.iz s.heap) X.env.locals (s.heap.push (seqObj "list" vs.toArray 0)) (Att.jj s.heap X.env.locals X.env.locals):=N.grown up
 have O:(s.heap.push (seqObj "list" vs.toArray 0)).get? s.heap.objs.size=some (seqObj "list" vs.toArray 0):=ψ _ rfl
 have nL:s.heap.objs.size≠X.env.locals:=į I.lt
 have na:∀p∈Att.jj s.heap X.env.locals X.env.locals,p.1≠s.heap.objs.size:=λp Y=>Φ (η (N p Y).1)
 have f:H s.heap.objs.size=none:=I.hok.fresh (ι _)
 have fin:∀(out:ü) (ys:à V),Vals ys out->ys.length<=sizeLine->Q (.ref s.heap.objs.size) (upd H s.heap.objs.size (.lst ys))->∀h' c,Fr (Att.iz s.heap) X.env.locals h' m ->
   News (Att.iz s.heap) X.env.locals h' ((s.heap.objs.size,PySem.W.listOf (List.toArray out) c)::Att.jj s.heap X.env.locals X.env.locals)->EP X pins σ Q (.ref s.heap.objs.size) {s with heap:=h'}:=λout ys ro hz hQ h' c y C=>by
  have keep:∀b o,b≠X.env.locals->s.heap.get? b=some o->h'.get? b=some o:=λb o g e=>(C (b,o) (Θ _ (G b o g e))).1
  have eD:h'.get? s.heap.objs.size=some (PySem.W.listOf (List.toArray out) c):=(C _ Ω).1
  refine ⟨.ref s.heap.objs.size,upd H s.heap.objs.size (.lst ys),?_,ϱ,hQ⟩
  have fresh:∀b o,s.heap.get? b=some o->b≠s.heap.objs.size:=λb o e=>Φ (η e)
  show Inv X pins σ (upd H s.heap.objs.size (.lst ys)) {s with heap:=h'}
  refine I.step (h':=h') (g':=s.gens) (d':=s.drawn) (t':=s.toks) (ch:=[]) (λ_ z=>nomatch z) (λb o g _ _ e _=>keep b o g e) (λb o g _ _ e _=>⟨o.slots,keep b o g e⟩) (λb o _ e n=>by rw [am (fresh b o e)];exact n)
   (λb o _ e=>?_) (λb xs e=>by rw [am (aq e f)];exact e) (λb o u e=>by rw [am (aq e f)];exact e) (λb ps e=>⟨#[],by rw [am (aq e f),e];simp⟩) (λm' Z=>?_) (λb o e=>?_) I.bare
  .by_cases hb:b=X.env.locals
   .obtain ⟨o',_,_,e',_⟩:=y.ns
    exact ⟨o',hb▸e'⟩
   .exact ⟨o,keep b o hb e⟩
  .have e:m'=m:=funext λJ=>Z.agree hn J
   rw [e]
   exact y.ns
  .by_cases hb:b=s.heap.objs.size
   .subst hb
    rw [ae] at e
    cases e
    exact ⟨hz,out,c,ro,eD⟩
   .rw [am hb] at e
    have r:b≠X.env.locals:=λz=>by rw [z,I.free] at e;cases e
    refine (I.hok b o e).stay (λd v hd q=>keep d v (λz=>?_) q) (λd q=>by rw [am (aq q f)];exact q) λd xs q=>by rw [am (aq q f)];exact q
    rcases hd with hd | hd
    .exact r (hd.symm.trans z)
    .rw [z,I.free] at hd;cases hd
 refine ε (Ŝ (ň slot_list_sort ⟨_,O,ϱ⟩ entry_list_sort ?body (args_list_sort _)))
 case body =>
  by_cases h2:vs.length<2
  .refine zg (s:={s with heap:=s.heap.push (seqObj "list" vs.toArray 0)}) F1 N1 O nL (Att.gE _ _) na h2 λh' c y C=>⟨_,ϱ,π ⟨_,ϱ,fin vs us K ω (q _ us f ?_) h' c y C⟩⟩
   have P:cu lt es=es:=by
    match es,(by omega:es.length<2) with
    | [],_=>unfold cu;show List.map _ (ph _ (kas_sort 0)).toList=_;rw [show kas_sort 0=.ret #[] from rfl];rfl
    | [x],_=>unfold cu;show List.map _ (ph _ (kas_sort 1)).toList=_;rw [show kas_sort 1=.ret #[0] from rfl];rfl
   rw [P]
   exact pe
  .have h0:0<es.length:=by omega
   obtain ⟨j,D⟩:=uR lt es h0
   refine zc S (s:={s with heap:=s.heap.push (seqObj "list" vs.toArray 0)}) (es:=es) (by show X.A.units+1+1+1<cLine;omega) F1 N1 O nL (Att.gE _ _) na (λh' hk=>?_) ω ω λh' c y C=>⟨_,ϱ,π ⟨_,ϱ,fin _ _ (vP K _ (λi hi=>by rw [← L];exact D i hi)) ?_ (q _ _ f ?_) h' c y C⟩⟩
   .have U:HOk X.prog X.w H h':=λb o e=>by
     have r:b≠X.env.locals:=λz=>by rw [z,I.free] at e;cases e
     refine (I.hok b o e).stay (λd v hd q=>hk d v (G d v (λz=>?_) q)) (λ_ q=>q) λ_ _ q=>q
     rcases hd with hd | hd
     .exact r (hd.symm.trans z)
     .rw [z,I.free] at hd;cases hd
    exact fg ω λi x u ex eu=>by
     obtain ⟨v,ev,r1⟩:=pe.get1 ex
     obtain ⟨u',F,r2⟩:=K.get1 ev
     rw [eu] at F
     cases F
     exact ra U r1 r2
   .rw [ν]
    unfold cu at j
    rw [ν] at j
    rw [j,Ķ]
    omega
   .exact qQ pe _ _ D
end
def B2{prog:ê}{w:è}:Srt prog w Bf ltP (.type "int") :=
 ⟨ϱ,λ⟨a,t1,t2,e,⟨o,g,c,n,d⟩⟩=>by subst e;exact ⟨_,KatTups.cons g c d rfl KatTups.nil,λ_=>.now⟩,λ_ h1 h2 q=>D8 h1 h2 q⟩
def uS{prog:ê}{w:è}:Srt prog w vL ltE (.type "tuple") :=
 ⟨ϱ,λ⟨a,b,t1,t2,t3,e,⟨o,g,c,n,d⟩,⟨o',g',c',_⟩⟩=>by subst e;exact ⟨_,KatTups.cons g c d rfl KatTups.nil,λM=>by rw [← c'];exact (Looks.ld g').andThen .now⟩,λhu h1 h2 q=>Db hu h1 h2 q⟩
def DEn(h:ã)(d:é)(ks:à (V×V)):Prop:=∃es ep,RawD h d es ep/\es.size=ks.length/\∀(i:Nat) (kv:V×V),ks[i]?=some kv->∃e,es[i]?=some e/\RelV kv.1 e.key/\RelV kv.2 e.val
def jT{X:Cx}{α:Type} [Inhabited α]{O:ã->α->å->Prop}{lt:α->α->Bool}{T:å}{R:Hp->α->V->Prop}(S:Srt X.prog X.w O lt T)(rk:∀{H H' x v},TSame H H'->R H x v->R H' x v)
  (ra:∀{H h x v u},HOk X.prog X.w H h->R H x v->RelV v u->O h x u)(hc:X.calm=true)(hu:X.A.units+4<cLine):du X (.builtin "sorted") (λxs H Q=>∃v d es,xs=[.ref v]/\H v=some (Vw v d) /\
  (∀h,HOk X.prog X.w H h->∃ks,DEn h d ks/\Paired (λx kv=>∀H' a,Same H H'->H' a=some (.tup [kv.1,kv.2])->R H' x (.ref a)) es ks)/\es.length<64 /\
  ∀H' l ys,Same H H'->H' l=none->Paired (R (upd H' l (.lst ys))) (cu lt es) ys->Q (.ref l) (upd H' l (.lst ys))):=by
 intro C s σ H xs us Q I r h
 obtain ⟨v,d,es,rfl,P,U,W,q⟩:=h
 obtain ⟨u,rfl,Y⟩:=dm r
 cases (show u=Value.ref v from Y)
 obtain ⟨Z,_⟩:=(show ObjOk X.prog X.w H s.heap v (Vw v d) from I.hok v _ P)
 obtain ⟨ks,⟨en,ep,rd,ln,ge⟩,pk⟩:=U _ I.hok
 have l0:=pk.len
 refine Calls.call_function_entry kind_sorted plain_sorted entry_sorted (args_sorted1 _) ?_
 unfold Builtin.«sorted»
 refine ε (m:=checkCount "sorted" 1 1 _) (π (ε (ux (A:=X.A.in1) (I.ok.hd hc) Z rd (by rw [ln,Ķ];omega) λh' tk f k' la tu ab nd=>?_)))
 let ts:à (Addr×à V):=(f.zip ks).map λt=>(t.1,[t.2.1,t.2.2])
 have fst:ts.map (·.1)=f:=by
  show ((f.zip ks).map λt=>(t.1,([t.2.1,t.2.2]:à V))).map (·.1)=f
  rw [ķ]
  show (f.zip ks).map Prod.fst=f
  rw [List.map_fst_zip]
  omega
 have new:∀p∈ts,s.heap.objs.size<=p.1:=λp o=>ab p.1 (by rw [← fst];exact ϑ.mpr ⟨p,o,ϱ⟩)
 have I1:Inv X C σ (lD H ts) {s with heap:=h',toks:=tk}:=Ec I k' new λp o=>by
  obtain ⟨t,ht,rfl⟩:=ϑ.mp o
  obtain ⟨i,F⟩:=ť ht
  rw [Ĩ] at F
  obtain ⟨e,ee,eh⟩:=tu i t.1 F.1
  obtain ⟨e2,D,G,J⟩:=ge i t.2 F.2
  rw [ee] at D
  cases D
  exact ⟨by show 2<=sizeLine;decide,[e.key,e.val],.cons G (.cons J .nil),_,eh,ϱ,_,ϱ⟩
 have same:Same H (lD H ts):=λb ob e=>by
  obtain ⟨a6,e'⟩:=(I.hok b ob e).there
  rw [uL λp o z=>by subst z;exact Nat.not_le_of_gt (η e') (new p o)]
  exact e
 have pe:Paired (R (lD H ts)) es (f.map V.ref):=fg (by rw [ν];omega) λi x y ex j=>by
  rw [Ż] at j
  obtain ⟨a,K,rfl⟩:=ų.mp j
  obtain ⟨kv,D,g⟩:=pk.get1 ex
  exact g _ _ same (zO (by rw [fst];exact nd) (p:=(a,[kv.1,kv.2])) (ϑ.mpr ⟨(a,kv),Ŵ (i:=i) (by rw [Ĩ];exact ⟨K,D⟩),ϱ⟩))
 have rv:Vals (f.map V.ref) (f.map Value.ref):=fg (by rw [ν,ν]) λi x y ex j=>by
  rw [Ż] at ex j
  obtain ⟨a,K,rfl⟩:=ų.mp ex
  rw [K] at j
  cases j
  rfl
 exact mT S hu I1 rv pe (λok G J=>ra ok G J) (by rw [ν];omega) λl ys L py=>q _ l ys same L (Paired.mapP py λ_ _ z=>rk (af L).ts z)
def rm{X:Cx}{α:Type} [Inhabited α]{j:ã->α->å->Prop}{lt:α->α->Bool}{T:å}{R:Hp->α->V->Prop}(S:Srt X.prog X.w j lt T)(O:∀{H H' x v},TSame H H'->R H x v->R H' x v)
  (P:∀{H h x v u},HOk X.prog X.w H h->R H x v->RelV v u->j h x u)(U:X.A.units+4<cLine):du X (.builtin "sorted") (λxs H Q=>∃p us es,xs=[.ref p]/\SqL X.K H p us/\Paired (R H) es us/\es.length<64 /\
  ∀l ys,H l=none->Paired (R (upd H l (.lst ys))) (cu lt es) ys->Q (.ref l) (upd H l (.lst ys))):=by
 intro i s σ H xs us Q I r h
 obtain ⟨p,W,es,rfl,y,pe,C,q⟩:=h
 obtain ⟨u,rfl,D⟩:=dm r
 cases (show u=Value.ref p from D)
 obtain ⟨d,f,F,Y⟩:=I.list y
 have l1:=f.length
 have Z:=pe.len
 refine Calls.call_function_entry kind_sorted plain_sorted entry_sorted (args_sorted1 _) ?_
 unfold Builtin.«sorted»
 refine ε (m:=checkCount "sorted" 1 1 _) (π (ε (collect_list F.isList ?_ (by rw [Ķ];omega))))
 refine mT S U (I.kept (t':=s.toks) (h':=(s.heap.push (seqObj "list" #[] 0)).update s.heap.objs.size (Obj.mapSeq (·++d.toArray))) λb o e=>?_) f pe (λok G J=>P ok G J) ω λl ys g L=>q l ys g (Paired.mapP L λ_ _ z=>O (af g).ts z)
 exact (ŧ _ _ (į (η e))).trans (ρ _ e)
def nKs(es:à (Int×Int)):List (Key×V):=es.map λx=>(.inl x.1,.int x.2)
theorem r8{P:ê}{w:è}:∀{es:à DictEntry} {vs:à (Key×å)} {xs:à (Int×Int)},Pairs (aM P w) es vs->KV (nKs xs) vs->es.length=xs.length/\∀(i:Nat) (x:Int×Int),xs[i]?=some x->∃e,es[i]?=some e/\RelV (.int x.1) e.key/\RelV (.int x.2) e.val
 | _,_,[],p,.nil=>by
  cases p
  exact ⟨ϱ,λi x e=>by cases e⟩
 | _,_,x::xs,p,.cons h t=>by
  cases p with
  | cons p1 p2 p3 =>
   obtain ⟨l,g⟩:=r8 p3 t
   refine ⟨congrArg (·+1) l,λi y e=>?_⟩
   cases i with
   | zero =>
    cases e
    refine ⟨_,ϱ,AR (k:=.inl x.1) (by rw [show (Sum.inl x.1:Key)=_ from h.1];exact p1),?_⟩
    rw [p2]
    exact h.2
   | succ i=>exact g i y e
def Er{P:ê}{w:è}{K:ä}{H:Hp}{d:é}{es:à (Int×Int)}(hd:H d=some (.dK (nKs es))):∀h,HOk P w H h->∃ks,DEn h d ks/\Paired (λx kv=>∀H' a,Same H H'->H' a=some (.tup [kv.1,kv.2])->sPa K H' x (.ref a)) es ks:=λh ok=>by
 obtain ⟨z,_,vs,rel,o,en,ep,h1,h2,h3,_,h4,_⟩:=(show ObjOk P w H h d (.dK _) from ok d _ hd)
 obtain ⟨ln,ge⟩:=r8 h4 rel
 rw [Ğ] at ln
 refine ⟨es.map λx=>(.int x.1,.int x.2),⟨en,ep,⟨o,h1,h2,h3⟩,by rw [ν,ln],λi kv e=>?_⟩,fg (by rw [ν]) λi x kv ex ek H' a _ ha=>?_⟩
 .rw [Ż] at e
  obtain ⟨x,ex,rfl⟩:=ų.mp e
  obtain ⟨e2,ek,r⟩:=ge i x ex
  exact ⟨e2,by rw [← Ľ];exact ek,r⟩
 .rw [Ż,ex] at ek
  cases ek
  exact ⟨a,ϱ,ha⟩
def Ep{P:ê}{w:è}{K:ä}{H:Hp}{d:é}{es:à ((Int×Int)×Str)}(hd:H d=some (.dT (List.map (λx:(Int×Int)×Str=>([.inl x.1.1,.inl x.1.2],V.str x.2)) es))):∀h,HOk P w H h->∃ks,DEn h d ks/\Paired (λx kv=>∀H' a,Same H H'->H' a=some (.tup [kv.1,kv.2])->sPS K H' x (.ref a)) es ks:=λh ok=>by
 obtain ⟨z,_,xs,rel,o,en,ep,h1,h2,h3,h4,h5⟩:=(show ObjOk P w H h d (.dT _) from ok d _ hd)
 have lx:es.length=xs.length:=by rw [← Ĥ rel,ν]
 have at3:∀(i:Nat) (x:(Int×Int)×Str) (y:à Key×Addr×å),es[i]?=some x->xs[i]?=some y->H y.2.1=some (.tup [.int x.1.1,.int x.1.2])/\RelV (.str x.2) y.2.2:=λi x y ex ey=>by
  obtain ⟨y',ey',ry⟩:=rel.get1 (j:=i) (x:=([.inl x.1.1,.inl x.1.2],V.str x.2)) (by rw [Ż,ex];rfl)
  rw [ey] at ey'
  cases ey'
  exact ⟨ry.2.1,ry.2.2⟩
 refine ⟨(es.zip xs).map λt=>(.ref t.2.2.1,.str t.1.2),⟨en,ep,⟨o,h1,h2,h3⟩,by rw [size_of_entries h4,ν,List.length_zip];omega,λi kv e=>?_⟩,fg (by rw [ν,List.length_zip];omega) λi x kv ex ek H' a sm ha=>?_⟩
 .rw [Ż] at e
  obtain ⟨t,et,rfl⟩:=ų.mp e
  rw [Ĩ] at et
  exact ⟨entryOfKey (tupleKind (aM P w)) t.2,by rw [entry_at h4,et.2];rfl,ϱ,(at3 i _ _ et.1 et.2).2⟩
 .rw [Ż] at ek
  obtain ⟨t,et,rfl⟩:=ų.mp ek
  rw [Ĩ,ex] at et
  obtain ⟨e1,e2⟩:=et
  cases e1
  exact ⟨a,_,ϱ,ha,sm _ _ (at3 i _ _ ex e2).1⟩
end L2
namespace K55
open PySem L2 Lo
def top(i:Nat):â:=PySem.Challenge.pw_pactroom_k55_who_waited_goes_on.main.body.getD i (.Pass ⟨0,0,0,0⟩)
abbrev iH:â:=inClass (top 4) 0
abbrev f7:â:=inClass (top 4) 2
abbrev f6:â:=inClass (top 4) 3
abbrev iG:â:=inClass (top 4) 4
abbrev iE:â:=inClass (top 5) 0
abbrev iF:â:=inClass (top 6) 0
abbrev f8:â:=inClass (top 7) 0
abbrev ko:â:=top 8
abbrev gP:â:=inClass (top 16) 0
abbrev eB:â:=inClass (top 16) 1
abbrev bz:â:=inClass (top 16) 2
abbrev db:â:=inClass (top 16) 5
abbrev b7:â:=inClass (top 16) 6
abbrev dL:â:=inClass (top 16) 7
abbrev bE:â:=inClass (top 16) 8
abbrev bf:â:=inClass (top 16) 9
abbrev cg:â:=inClass (top 16) 10
abbrev nu:â:=top 26
abbrev jC:â:=top 27
abbrev pO:â:=top 28
abbrev jb:â:=inClass (top 29) 0
abbrev gV:â:=inClass (top 29) 1
abbrev fM:â:=inClass (top 29) 2
abbrev eX:â:=inClass (top 29) 4
abbrev d8:â:=inClass (top 29) 5
abbrev iC:â:=inClass (top 33) 1
abbrev eT:â:=inClass (top 34) 0
abbrev eK:â:=inClass (top 35) 0
abbrev cA:â:=inClass (top 35) 1
abbrev eQ:â:=inClass (top 36) 0
abbrev d9:â:=inClass (top 36) 1
abbrev fy:â:=inClass (top 37) 0
abbrev fx:â:=inClass (top 37) 2
abbrev bx:â:=inClass (top 37) 3
abbrev eR:â:=inClass (top 38) 0
abbrev cD:â:=inClass (top 38) 1
abbrev fD:â:=inClass (top 39) 0
abbrev fz:â:=inClass (top 39) 1
abbrev cL:â:=inClass (top 39) 2
abbrev eN:â:=inClass (top 40) 0
abbrev cB:â:=inClass (top 40) 1
abbrev eO:â:=inClass (top 41) 0
abbrev cC:â:=inClass (top 41) 1
abbrev dY:â:=top 42
abbrev fV:â:=top 43
abbrev ig:â:=top 44
abbrev jh:â:=top 45
abbrev gH:â:=inClass (top 47) 0
abbrev gG:â:=inClass (top 47) 2
abbrev aX:â:=inClass (top 47) 3
abbrev dH:â:=inClass (top 47) 4
abbrev dJ:â:=inClass (top 47) 5
abbrev cM:â:=inClass (top 47) 6
abbrev fY:â:=inClass (top 47) 7
abbrev gI:â:=inClass (top 47) 13
abbrev eJ:â:=inClass (top 47) 14
abbrev bQ:â:=inClass (top 47) 15
abbrev gO:â:=inClass (top 49) 0
abbrev iD:â:=inClass (top 49) 1
abbrev gN:â:=inClass (top 49) 2
abbrev c9:â:=inClass (top 49) 3
abbrev bj:â:=inClass (top 49) 4
abbrev gL:â:=inClass (top 51) 0
abbrev gK:â:=inClass (top 51) 1
abbrev cU:â:=inClass (top 51) 2
abbrev eM:â:=inClass (top 51) 3
abbrev cV:â:=inClass (top 51) 4
abbrev gJ:â:=inClass (top 51) 6
abbrev cN:â:=inClass (top 51) 7
abbrev fm:â:=top 53
abbrev fW:â:=top 54
abbrev ii:â:=top 55
abbrev ik:â:=top 56
abbrev gw:â:=top 57
abbrev cY:â:=top 58
abbrev bR:â:=top 59
abbrev eV:â:=top 60
def qM:ao ["self","first","last"] ["self","first","last"] (defScope iH):=ß
def sc_Lock_beside:ao ["self","other","apart"] ["self","other"] (defScope f7):=ß
def sc_Lock_covers:ao ["self","other","within"] ["self","other"] (defScope f6):=ß
def qL:ao ["self"] ["self"] (defScope iG):=ß
def qJ:ao ["self"] ["self"] (defScope iE):=ß
def qK:ao ["self"] ["self"] (defScope iF):=ß
def ng:ao ["self"] ["self"] (defScope f8):=ß
def tU:ao ["told"] ["told"] (defScope ko):=ß
def pd:ao ["self"] ["self"] (defScope gP):=ß
def sc_Locks_ask:ao ["self","p","lock"] ["self","p","lock"] (defScope eB):=ß
def oQ:Scope:=match defBody eB with
 | _::.If (.Call _ [.ListComp _ _ sc _] _ _) _ _ _::_=>sc
 | _=>default
def nt:BlkScope ["self","p","lock"] (defScope eB) oQ "pair" ["pair","p","lock"] [1,2]:=⟨θ,ϱ,θ,ϱ,θ,θ,ϱ,ϱ,θ⟩
def sc_Locks_free:ao ["self","p","waited","still"] ["self","p"] (defScope bz):=ß
def lW:Scope:=match defBody bz with
 | _::.Assign _ (.ListComp _ _ sc _) _::_=>sc
 | _=>default
def lN:BlkScope ["self","p","waited","still"] (defScope bz) lW "pair" ["pair","p"] [1]:=⟨θ,ϱ,θ,ϱ,θ,θ,ϱ,ϱ,θ⟩
def lV:Scope:=match defBody bz with
 | _::_::.Assign _ (.ListComp _ _ sc _) _::_=>sc
 | _=>default
def lM:BlkScope ["self","p","waited","still"] (defScope bz) lV "pair" ["pair"] []:=⟨θ,ϱ,θ,ϱ,θ,θ,ϱ,ϱ,λj h=>absurd h (ŝ j)⟩
def lU:Scope:=match defBody bz with
 | _::_::_::.Return (some (.ListComp _ _ sc _)) _::_=>sc
 | _=>default
def lL:BlkScope ["self","p","waited","still"] (defScope bz) lU "pair" ["pair","p","still"] [1,3]:=⟨θ,ϱ,θ,ϱ,θ,θ,ϱ,ϱ,θ⟩
def pf:ao ["self"] ["self"] (defScope db):=ß
def lT:Scope:=match defBody db with
 | .Return (some (.ListComp _ _ sc _)) _::_=>sc
 | _=>default
def lK:BlkScope ["self"] (defScope db) lT "pair" ["pair"] []:=⟨θ,ϱ,θ,ϱ,θ,θ,ϱ,ϱ,λj h=>absurd h (ŝ j)⟩
def ki:ao ["self"] ["self"] (defScope b7):=ß
def jo:Scope:=match defBody b7 with
 | .Return (some (.ListComp _ _ sc _)) _::_=>sc
 | _=>default
def jg:BlkScope ["self"] (defScope b7) jo "pair" ["pair"] []:=⟨θ,ϱ,θ,ϱ,θ,θ,ϱ,ϱ,λj h=>absurd h (ŝ j)⟩
def sc_Locks_hinderer:ao ["self","place","pair","k","ahead"] ["self","place"] (defScope dL):=ß
def iY:ao ["self"] ["self"] (defScope bE):=ß
def hW:Scope:=match defBody bE with
 | .Return (some (.ListComp _ _ sc _)) _::_=>sc
 | _=>default
def hV:BlkScope ["self"] (defScope bE) hW "k" ["k","self"] [0]:=⟨θ,ϱ,θ,ϱ,θ,θ,ϱ,ϱ,θ⟩
def gu:ao ["self"] ["self"] (defScope bf):=ß
def gb:Scope:=match defBody bf with
 | .Return (some (.ListComp _ _ sc _)) _::_=>sc
 | _=>default
def fU:BlkScope ["self"] (defScope bf) gb "k" ["k","self"] [0]:=⟨θ,ϱ,θ,ϱ,θ,θ,ϱ,ϱ,θ⟩
def sc_Locks_waiting_place:ao ["self","p","k"] ["self","p"] (defScope cg):=ß
def qH:ao ["self"] ["self"] (defScope iC):=ß
def kl:ao ["self","where","cell"] ["self","where","cell"] (defScope eT):=ß
def j9:ao ["self"] ["self"] (defScope eK):=ß
def gY:ao ["self","hand","value_of"] ["self","hand","value_of"] (defScope cA):=ß
def kh:ao ["self"] ["self"] (defScope eQ):=ß
def hO:ao ["self","hand","value_of"] ["self","hand","value_of"] (defScope d9):=ß
def lG:ao ["self","where","low","high"] ["self","where","low","high"] (defScope fy):=ß
def lF:ao ["self"] ["self"] (defScope fx):=ß
def ib:ao ["self","hand","value_of"] ["self","hand","value_of"] (defScope bx):=ß
def gR:Scope:=match defBody bx with
 | .Return (some (.Tuple [(.Call _ [.ListComp _ _ sc _] _ _),_] _ _)) _::_=>sc
 | _=>default
def gv:BlkScope ["self","hand","value_of"] (defScope bx) gR "cell" ["cell","value_of"] [2]:=⟨θ,ϱ,θ,ϱ,θ,θ,ϱ,ϱ,θ⟩
def kj:ao ["self"] ["self"] (defScope eR):=ß
def hU:ao ["self","hand","value_of"] ["self","hand","value_of"] (defScope cD):=ß
def lJ:ao ["self","where","cell","amount"] ["self","where","cell","amount"] (defScope fD):=ß
def lH:ao ["self"] ["self"] (defScope fz):=ß
def ie:ao ["self","hand","value_of"] ["self","hand","value_of"] (defScope cL):=ß
def kf:ao ["self","amount"] ["self","amount"] (defScope eN):=ß
def gZ:ao ["self","hand","value_of"] ["self","hand","value_of"] (defScope cB):=ß
def kg:ao ["self","amount"] ["self","amount"] (defScope eO):=ß
def hJ:ao ["self","hand","value_of"] ["self","hand","value_of"] (defScope cC):=ß
def sc_read_step:ao ["text","words","shape"] ["text"] (defScope dY):=ß
def oP:Scope:=match defBody dY with
 | _::_::_::.Return (some (.Call _ [_,.ListComp _ _ sc _] _ _)) _::_=>sc
 | _=>default
def nj:BlkScope ["text","words","shape"] (defScope dY) oP "k" ["k","words","shape"] [1,2]:=⟨θ,ϱ,θ,ϱ,θ,θ,ϱ,ϱ,θ⟩
def sc_read_number:ao ["word","letter","number"] ["word","letter"] (defScope fV):=ß
def qG:ao ["word","numbers"] ["word","numbers"] (defScope ig):=ß
def rM:ao ["where","low","high"] ["where","low","high"] (defScope jh):=ß
def sc_Works_init:ao ["self","stand","home","many","row"] ["self","stand","home","many"] (defScope gH):=ß
def oV:ao ["self","sheet","p","i","hand","text"] ["self","sheet","p","i","hand","text"] (defScope gG):=ß
def sc_Works_do_step:ao ["self","sheet","p","waited","behind"] ["self","sheet","p","waited"] (defScope aX):=ß
def sc_Works_value_at:ao ["self","p","cell","draft"] ["self","p","cell"] (defScope dH):=ß
def jA:ao ["self","sheet","p","i"] ["self","sheet","p","i"] (defScope dJ):=ß
def sc_Works_ready:ao ["self","sheet","p","houses","locks"] ["self","sheet","p","houses"] (defScope cM):=ß
def kN:Scope:=match defBody cM with
 | .If _ (_::.Assign _ (.Call _ [.ListComp _ _ sc _] _ _) _::_) _ _::_=>sc
 | _=>default
def km:BlkScope ["self","sheet","p","houses","locks"] (defScope cM) kN "pair" ["pair","p"] [2]:=⟨θ,ϱ,θ,ϱ,θ,θ,ϱ,ϱ,θ⟩
def sc_Works_ended:ao ["self","sheet","p","freed"] ["self","sheet","p"] (defScope fY):=ß
def oX:ao ["self"] ["self"] (defScope gI):=ß
def jZ:ao ["self"] ["self"] (defScope eJ):=ß
def jB:ao ["self","p"] ["self","p"] (defScope bQ):=ß
def i5:Scope:=match defBody bQ with
 | .Return (some (.Compare _ _ [.ListComp _ _ sc _] _)) _::_=>sc
 | _=>default
def iZ:BlkScope ["self","p"] (defScope bQ) i5 "row" ["row"] []:=⟨θ,ϱ,θ,ϱ,θ,θ,ϱ,ϱ,λj h=>absurd h (ŝ j)⟩
def o9:ao ["self","stand"] ["self","stand"] (defScope gO):=ß
def qI:ao ["self","row"] ["self","row"] (defScope iD):=ß
def o6:ao ["self","to","word","p","more"] ["self","to","word","p","more"] (defScope gN):=ß
def jf:ao ["self"] ["self"] (defScope c9):=ß
def sc_Sheet_letters_told:ao ["self","news"] ["self"] (defScope bj):=ß
def gp:Scope:=match defBody bj with
 | _::.Return (some (.ListComp _ _ sc _)) _::_=>sc
 | _=>default
def gh:BlkScope ["self","news"] (defScope bj) gp "pair" ["pair","news"] [1]:=⟨θ,ϱ,θ,ϱ,θ,θ,ϱ,ϱ,θ⟩
def oZ:ao ["self","cells"] ["self","cells"] (defScope gL):=ß
def sc_Stand_keep:ao ["self","row","change","p"] ["self","row"] (defScope gK):=ß
def iV:ao ["self","row"] ["self","row"] (defScope cU):=ß
def ka:ao ["self","cell"] ["self","cell"] (defScope eM):=ß
def iX:ao ["self"] ["self"] (defScope cV):=ß
def oY:ao ["self"] ["self"] (defScope gJ):=ß
def mZ:ao ["self"] ["self"] (defScope cN):=ß
def kO:Scope:=match defBody cN with
 | .Return (some (.ListComp _ _ sc _)) _::_=>sc
 | _=>default
def kn:BlkScope ["self"] (defScope cN) kO "p" ["p","self"] [0]:=⟨θ,ϱ,θ,ϱ,θ,θ,ϱ,ϱ,θ⟩
def lE:ao ["_law_script","_law_k"] ["_law_script","_law_k"] (defScope fm):=ß
def mY:ao ["_law_cell"] ["_law_cell"] (defScope fW):=ß
def sc__law_step:ao ["_law_cell","_law_many","_law_at","_law_word","_law_text"] ["_law_cell","_law_many"] (defScope ii):=ß
def sc__law_hand:ao ["_law_cells","_law_hand_here","_law_text","_law_words"] ["_law_cells","_law_hand_here","_law_text"] (defScope ik):=ß
def sc__law_first:ao ["_law_works","_law_stand","_law_p","_law_script","_law_many","_law_k","_law_text"] ["_law_works","_law_stand","_law_p","_law_script","_law_many"] (defScope gw):=ß
def sc__law_asked:ao ["_law_works","_law_stand","_law_p","_law_i","_law_hand_here","_law_text","_law_sheet","_law_due"] ["_law_works","_law_stand","_law_p","_law_i","_law_hand_here","_law_text"] (defScope cY):=ß
def lR:Scope:=match defBody cY with
 | _::_::.If (.Compare _ _ [.ListComp _ _ sc _] _) _ _ _::_=>sc
 | _=>default
def sb__law_asked_0:oR ["_law_works","_law_stand","_law_p","_law_i","_law_hand_here","_law_text","_law_sheet","_law_due"] (defScope cY) lR 2 ["_law_pact","_law_told"] []:=⟨θ,ϱ,θ,θ,θ,ϱ,λj h=>absurd h (ŝ j)⟩
def sc__law_ended:ao ["_law_works","_law_stand","_law_p","_law_outcome","_law_asked_here","_law_ends","_law_late","_law_sheet","_law_still","_law_rows","_law_letters","_law_cells","_law_pact","_law_i","_law_hand_here","_law_text","_law_told"] ["_law_works","_law_stand","_law_p","_law_outcome","_law_asked_here","_law_ends"] (defScope bR):=ß
def lQ:Scope:=match defBody bR with
 | .Assign _ (.ListComp _ _ sc _) _::_=>sc
 | _=>default
def sb__law_ended_0:oR ["_law_works","_law_stand","_law_p","_law_outcome","_law_asked_here","_law_ends","_law_late","_law_sheet","_law_still","_law_rows","_law_letters","_law_cells","_law_pact","_law_i","_law_hand_here","_law_text","_law_told"] (defScope bR) lQ 2 ["_law_pact","_law_told"] []:=⟨θ,ϱ,θ,θ,θ,ϱ,λj h=>absurd h (ŝ j)⟩
def lP:Scope:=match defBody bR with
 | _::_::_::_::_::.Assign _ (.ListComp _ _ sc _) _::_=>sc
 | _=>default
def sb__law_ended_1:oR ["_law_works","_law_stand","_law_p","_law_outcome","_law_asked_here","_law_ends","_law_late","_law_sheet","_law_still","_law_rows","_law_letters","_law_cells","_law_pact","_law_i","_law_hand_here","_law_text","_law_told"] (defScope bR) lP 2 ["_law_pact","_law_told"] []:=⟨θ,ϱ,θ,θ,θ,ϱ,λj h=>absurd h (ŝ j)⟩
def sc_law:ao ["_law_script","_law_number_here","_law_first_here","_law_p","_law_stand","_law_works","_law_outcome","_law_asked_here","_law_k","_law_pact","_law_cell","_law_i","_law_ends","_law_order"] ["_law_script"] (defScope eV):=ß
def zD:Scope:=match defBody eV with
 | _::.Assign _ (.ListComp _ _ sc _) _::_=>sc
 | _=>default
def xA:BlkScope ["_law_script","_law_number_here","_law_first_here","_law_p","_law_stand","_law_works","_law_outcome","_law_asked_here","_law_k","_law_pact","_law_cell","_law_i","_law_ends","_law_order"] (defScope eV) zD "_law_k" ["_law_k","_law_number_here"] [1]:=⟨θ,ϱ,θ,ϱ,θ,θ,ϱ,ϱ,θ⟩
def zC:Scope:=match defBody eV with
 | _::_::_::_::_::_::_::.For _ _ (_::_::_::.If _ (_::.Assign _ (.Call _ [(.Compare _ _ [.ListComp _ _ sc _] _)] _ _) _::_) _ _::_) _ _::_=>sc
 | _=>default
def sb_law_1:oR ["_law_script","_law_number_here","_law_first_here","_law_p","_law_stand","_law_works","_law_outcome","_law_asked_here","_law_k","_law_pact","_law_cell","_law_i","_law_ends","_law_order"] (defScope eV) zC 2 ["_law_one","_law_told"] []:=⟨θ,ϱ,θ,θ,θ,ϱ,λj h=>absurd h (ŝ j)⟩
open St
section
variable {P:ê}{w:è}{K:ä}{mg:ā}{base:ã}{f CL CS CH CV:é}{fd:ç}{C:Kd->é}{CW:Wd->é}
def D2(F:Fun K "kind" "Read.kind" iE f fd):FnOk P w K mg base CX0 1 f fd ["self"] (h9 .read):=by
 refine F.oj qJ λd A b s H vs Q E e h=>?_
 obtain ⟨v,rfl,q⟩:=h
 exact ⟨_,aj (aw aD),q⟩
def D3(F:Fun K "kind" "Mean.kind" iF f fd):FnOk P w K mg base CX0 1 f fd ["self"] (h9 .mean):=by
 refine F.oj qK λd A b s H vs Q E e h=>?_
 obtain ⟨v,rfl,q⟩:=h
 exact ⟨_,aj (aw aD),q⟩
def D4(F:Fun K "kind" "Change.kind" f8 f fd):FnOk P w K mg base CX0 1 f fd ["self"] (h9 .change):=by
 refine F.oj ng λd A b s H vs Q E e h=>?_
 obtain ⟨v,rfl,q⟩:=h
 exact ⟨_,aj (aw aD),q⟩
def yt(F:Fun K "__init__" "Lock.__init__" iH f fd)(T:TxK K C):FnOk P w K mg base CX0 1 f fd ["self","first","last"] (fE C):=by
 refine F.oj qM λg A b s H vs Q E i h=>?_
 obtain ⟨a,d,k,x,y,rfl,e,q⟩:=h
 refine ⟨_,ah (aT (pv 0) (pv 1) rfl) (aj (aT (pv 0) (pv 2) rfl)),?_⟩
 exact ⟨_,ϱ,_,ϱ,a,C k,d,[],ϱ,e,T.cl k,T.nF k,(by show 0<1000;decide),_,ϱ,_,ϱ,a,C k,d,_,ϱ,ae,T.cl k,T.nL k,(by show 1<1000;decide),q⟩
def qX(F:Fun K "told" "Lock.told" iG f fd)(T:TxK K C)(l:∀k,GM P w K mg base CX0 1 (C k) "kind" ["self"] (h9 k)):FnOk P w K mg base CX0 2 f fd ["self"] (fR C):=by
 refine F.oj qL λg A e s H vs Q E i h=>?_
 obtain ⟨v,k,rfl,⟨a,b,rfl,d⟩,q⟩:=h
 refine ⟨_,aj (aw (aL (ac (pm0 (l k.1) (pv 0) (T.cl k.1) i) (ac (au (pv 0) rfl) (ac (au (pv 0) rfl) ag))))),?_⟩
 refine ⟨_,ϱ,a,b,_,ϱ,d,fO _ _ θ θ,_,ϱ,?_⟩
 exact ⟨_,ϱ,a,_,b,_,_,ϱ,d,T.cl _,T.nF _,gj _ _,_,ϱ,a,_,b,_,_,ϱ,d,T.cl _,T.nL _,jL _ _,χ,λt j=>q t j⟩
def wm(F:Fun K "lock_of" "lock_of" ko f fd)(T:TxK K C)(i:∀k,mg (kdN k)=some (.ref (C k))){L:é}{O:ç}(M:∀k,Mk K (C k) L)
  (I:FnOk P w K mg base CX0 1 L O ["self","first","last"] (fE C))(J:Binds K O ["self","first","last"] []):FnOk P w K mg base CX0 3 f fd ["told"] (mL C K):=by
 refine F.oj tU λa2 A G s H vs Q E hr h=>?_
 obtain ⟨v,k,rfl,U,q⟩:=h
 obtain ⟨a,u1,W,X,rfl,d,Y,Z,e3⟩:=U
 have o:u1=.str (kdS k.1):=Y
 have u:W=.int k.2.1:=Z
 have D:X=.int k.2.2:=e3
 subst o u D
 have g:Room (1+1) _:=hr
 refine ⟨_,ah (aJ (az bK (ay (r:=a9 K) aC (pv 0) ai (λ_ _=>rfl)) aD (aA _))
   (aj (aw (bb (M .read) I g rfl (i .read) J .nil be (ac (ay (r:=a9 K) aC (pv 0) ai (λ_ _=>rfl)) (ac (ay (r:=a9 K) aC (pv 0) ai (λ_ _=>rfl)) ag))))) aB)
  (ah (aJ (az bK (ay (r:=a9 K) aC (pv 0) ai (λ_ _=>rfl)) aD (aA _))
   (aj (aw (bb (M .mean) I g rfl (i .mean) J .nil be (ac (ay (r:=a9 K) aC (pv 0) ai (λ_ _=>rfl)) (ac (ay (r:=a9 K) aC (pv 0) ai (λ_ _=>rfl)) ag))))) aB)
  (aj (aw (bb (M .change) I g rfl (i .change) J .nil be (ac (ay (r:=a9 K) aC (pv 0) ai (λ_ _=>rfl)) (ac (ay (r:=a9 K) aC (pv 0) ai (λ_ _=>rfl)) ag)))))),?_⟩
 refine ⟨_,ϱ,a,_,_,_,ϱ,ϱ,d.sq,ϱ,ϱ,_,ϱ,?_⟩
 obtain ⟨kd,x,y⟩:=k
 cases kd with
 | read =>
  refine bD (λ_=>?_) (λc=>absurd (τ rfl) c)
  exact ⟨_,ϱ,a,_,_,_,ϱ,ϱ,d.sq,ϱ,_,ϱ,a,_,_,_,ϱ,ϱ,d.sq,ϱ,λz e j b l=>⟨z,e,.read,x,y,ϱ,ae,ϱ,q _ _ (fL j b) ⟨z,e,ϱ,ae⟩⟩⟩
 | mean =>
  refine bD (λc=>absurd (V.str.inj (Ξ c)).symm B9) (λ_=>?_)
  refine ⟨_,ϱ,a,_,_,_,ϱ,ϱ,d.sq,ϱ,ϱ,_,ϱ,?_⟩
  refine bD (λ_=>?_) (λc=>absurd (τ rfl) c)
  exact ⟨_,ϱ,a,_,_,_,ϱ,ϱ,d.sq,ϱ,_,ϱ,a,_,_,_,ϱ,ϱ,d.sq,ϱ,λz e j b l=>⟨z,e,.mean,x,y,ϱ,ae,ϱ,q _ _ (fL j b) ⟨z,e,ϱ,ae⟩⟩⟩
 | change =>
  refine bD (λc=>absurd (V.str.inj (Ξ c)).symm Ca) (λ_=>?_)
  refine ⟨_,ϱ,a,_,_,_,ϱ,ϱ,d.sq,ϱ,ϱ,_,ϱ,?_⟩
  refine bD (λc=>absurd (V.str.inj (Ξ c)).symm Cb) (λ_=>?_)
  exact ⟨_,ϱ,a,_,_,_,ϱ,ϱ,d.sq,ϱ,_,ϱ,a,_,_,_,ϱ,ϱ,d.sq,ϱ,λz e j b l=>⟨z,e,.change,x,y,ϱ,ae,ϱ,q _ _ (fL j b) ⟨z,e,ϱ,ae⟩⟩⟩
def AF(F:Fun K "_law_cell_at" "_law_cell_at" fm f fd)(B:TxB mg):FnOk P w K mg base CX0 1 f fd ["_law_script","_law_k"] (qD K):=by
 refine F.oj lE λl A g s H vs Q E o h=>?_
 obtain ⟨a,b,k,rfl,i,q⟩:=h
 refine ⟨_,ah (aJ (az se (pv 1) (aK bc rfl B.len Ů (ac (pv 0) ag)) (aA _)) (aj (aw (ay aI (pv 0) (pv 1) (λ_ _=>rfl)))) aB)
  (aj (aw ai)),?_⟩
 refine ⟨_,ϱ,_,ϱ,a,_,ϱ,.inl i,_,_,ϱ,ϱ,_,ϱ,?_⟩
 refine bD (λc=>?_) (λc=>?_)
 .have d:(k:Int)<(((b.map V.int).length:Nat):Int):=Ξ c
  rw [ν] at d
  have j:k<b.length:=by omega
  have q1:atI (b.map V.int) ((k:Nat):Int)=some (.int b[k]):=br (by rw [Ż,ξ j]<;>rfl)
  have e:dh b k=b[k]:=by unfold dh;rw [List.getElem?_eq_getElem j];rfl
  rw [e] at q
  exact ⟨_,ϱ,_,ϱ,a,_,_,_,ϱ,ϱ,i,q1,q⟩
 .have d:¬(k:Int)<(((b.map V.int).length:Nat):Int):=λz=>c (τ z)
  rw [ν] at d
  have e:dh b k=0:=by unfold dh;rw [List.getElem?_eq_none ω];rfl
  rw [e] at q
  exact q
def kp2{a:é}{H:Hp}{o1 o2:HO}:Kp a H (upd (upd H a o1) a o2):=λb o n e=>by rw [am n,am n];exact e
def yG(F:Fun K "__init__" "CellStep.__init__" eT f fd)(T:TxW K CW):FnOk P w K mg base CX0 1 f fd ["self","where","cell"] (mt CW):=by
 refine F.oj kl λi A d s H vs Q E j h=>?_
 obtain ⟨a,e,b,x,y,rfl,g,q⟩:=h
 refine ⟨_,ah (aT (pv 0) (pv 1) rfl) (aj (aT (pv 0) (pv 2) rfl)),?_⟩
 exact ⟨_,ϱ,_,ϱ,a,CW b,e,[],ϱ,g,T.cl b,T.nW b,(by show 0<1000;decide),_,ϱ,_,ϱ,a,CW b,e,_,ϱ,ae,T.cl b,T.nC b,(by show 1<1000;decide),q _ ae kp2⟩
def rl{b:Wd}(hw:isC b=true){vs:à V}{H:Hp}{Q:VK}{E:XK}(h:gs CW b vs H Q E):mt CW vs H Q E:=by
 obtain ⟨a,d,l,rfl,f,g,q⟩:=h
 obtain ⟨x,y,rfl,_,_,e⟩:=f.c hw
 exact ⟨a,d,b,x,y,ϱ,g,λi h1 j=>q i (by rw [e];exact h1) j⟩
def yj(F:Fun K "__init__" "SumStep.__init__" fy f fd)(T:TxW K CW):FnOk P w K mg base CX0 1 f fd ["self","where","low","high"] (gs CW .sum):=by
 refine F.ok lG (λvs H Q E h=>?_) (λr A i s H vs Q E u h=>?_)
 .obtain ⟨a,d,j,rfl,g,_⟩:=h
  obtain ⟨x,y,z,rfl,_⟩:=g.s
  rfl
 obtain ⟨a,d,j,rfl,g,l,q⟩:=h
 obtain ⟨x,y,z,rfl,_⟩:=g.s
 refine ⟨_,ah (aT (pv 0) (pv 1) rfl) (ah (aT (pv 0) (pv 2) rfl) (aj (aT (pv 0) (pv 3) rfl))),?_⟩
 exact ⟨_,ϱ,_,ϱ,a,CW .sum,d,[],ϱ,l,T.cl _,T.nW _,(by show 0<1000;decide),_,ϱ,_,ϱ,a,CW .sum,d,_,ϱ,ae,T.cl _,T.nL _,(by show 1<1000;decide),_,ϱ,_,ϱ,a,CW .sum,d,_,ϱ,ae,T.cl _,T.nH _,Š (eE _ _ _) (by show 1+1<1000;decide),q _ ae λb o n e=>by rw [am n,am n,am n];exact e⟩
def yK{j r:é}{u:ç}(F:Fun K "__init__" "AddStep.__init__" fD f fd)(T:TxW K CW)(l:mg "CellStep"=some (.ref j))(L:BH K j "__init__" r)(O:FnOk P w K mg base CX0 1 r u ["self","where","cell"] (mt CW))(U:Binds K u ["self","where","cell"] []) :
  FnOk P w K mg base CX0 2 f fd ["self","where","cell","amount"] (gs CW .add):=by
 refine F.ok lJ (λvs H Q E h=>?_) (λG A i s H vs Q E I h=>?_)
 .obtain ⟨a,d,C,rfl,g,_⟩:=h
  obtain ⟨x,y,z,rfl,_⟩:=g.a
  rfl
 obtain ⟨a,d,C,rfl,g,D,q⟩:=h
 obtain ⟨x,y,z,rfl,_⟩:=g.a
 refine ⟨_,ah (aQ (Af (gC (v:=.ref j) rfl l rfl) L O I U be (ac (pv 0) (ac (pv 1) (ac (pv 2) ag))))) (aj (aT (pv 0) (pv 3) rfl)),?_⟩
 refine ⟨_,ϱ,_,ϱ,_,ϱ,a,d,.add,x,y,ϱ,D,λW h1 J=>?_⟩
 exact ⟨_,ϱ,_,ϱ,a,CW .add,d,_,ϱ,h1,T.cl _,T.nA _,Š (eE _ _ _) (by show 1+1<1000;decide),q _ ae λb o n e=>by rw [am n];exact J b o n e⟩
def ym(F:Fun K "__init__" "PlusStep.__init__" eN f fd)(T:TxW K CW):FnOk P w K mg base CX0 1 f fd ["self","amount"] (gs CW .plus):=by
 refine F.ok kf (λvs H Q E h=>?_) (λj A d s H vs Q E l h=>?_)
 .obtain ⟨a,e,g,rfl,b,_⟩:=h
  obtain ⟨x,rfl,_⟩:=b.p
  rfl
 obtain ⟨a,e,g,rfl,b,i,q⟩:=h
 obtain ⟨x,rfl,_⟩:=b.p
 refine ⟨_,aj (aT (pv 0) (pv 1) rfl),?_⟩
 exact ⟨_,ϱ,_,ϱ,a,CW .plus,e,[],ϱ,i,T.cl _,T.nA _,(by show 0<1000;decide),q _ ae bn⟩
def yn(F:Fun K "__init__" "NeedStep.__init__" eO f fd)(T:TxW K CW):FnOk P w K mg base CX0 1 f fd ["self","amount"] (gs CW .need):=by
 refine F.ok kg (λvs H Q E h=>?_) (λj A d s H vs Q E l h=>?_)
 .obtain ⟨a,e,g,rfl,b,_⟩:=h
  obtain ⟨x,rfl,_⟩:=b.n
  rfl
 obtain ⟨a,e,g,rfl,b,i,q⟩:=h
 obtain ⟨x,rfl,_⟩:=b.n
 refine ⟨_,aj (aT (pv 0) (pv 1) rfl),?_⟩
 exact ⟨_,ϱ,_,ϱ,a,CW .need,e,[],ϱ,i,T.cl _,T.nA _,(by show 0<1000;decide),q _ ae bn⟩
inductive mJ (val:Int->Int) (n:Nat) (vs:à V) (H:Hp) (Q:VK) (E:XK):Prop|mk (c:Int):vs=[.int c]->0<=c->c<n->(∀H',Same H H'->Q (.int (val c)) H')->mJ val n vs H Q E
def rK(val:Int->Int)(a:Int):Nat->Int
 | 0=>0
 | n+1=>rK val a n+val (a+n)
def xD(a:Int)(n:Nat):ù:=(List.range n).map λi=>a+(i:Nat)
def rN(a:Int)(n:Nat):xD a (n+1)=xD a n++[a+n]:=by
 unfold xD
 rw [List.range_succ,ſ]
 rfl
def zU(val:Int->Int)(a:Int)(n:Nat):((xD a n).map val).sum=rK val a n:=by
 induction n with
 | zero=>rfl
 | succ n ih =>
  rw [rN,ſ,List.sum_append,ih]
  simp [rK]
def dn(val:Int->Int):Wd->ù->Int->Int×à (Int×Int)
 | .take,[_,c],_=>(val c,[])
 | .mean,[_,c],_=>(val c,[])
 | .sum,[_,a,b],_=>(rK val a (b+1-a).toNat,[])
 | .give,[_,c],h=>(h,[(c,h)])
 | .add,[_,c,v],h=>(h,[(c,val c+v)])
 | _,_,h=>(h,[])
def inC(n:Nat):Wd->ù->Prop
 | .sum,[_,a,b]=>a<n/\b<n
 | .add,[_,c,_]=>c<n
 | .plus,_=>False
 | .need,_=>False
 | _,[_,c]=>c<n
 | _,_=>False
def chK(cs:à (Int×Int)):List (Key×V):=cs.map λx=>(Sum.inl x.1,V.int x.2)
def chN(H:Hp)(cs:à (Int×Int))(a:é):Prop:=∃us,TF H a us/\Paired (prD H) (chK cs) us
inductive fT (P:ê) (w:è) (K:ä) (mg:ā) (CW:Wd->é) (val:Int->Int) (n:Nat) (wd:Wd) (B:ã) (vs:à V) (H:Hp) (Q:VK) (E:XK):Prop|mk v ns hand fv:vs=[v,.int hand,.ref fv]->Ar wd ns->inC n wd ns->StO CW H wd ns v->CloT P w K mg B 4 fv (mJ val n) H->(∀t ch H',Same H H'->H' t=some (.tup [.int (dn val wd ns hand).1,.ref ch])->chN H' (dn val wd ns hand).2 ch->Q (.ref t) H')->fT P w K mg CW val n wd B vs H Q E
section
variable {val:Int->Int}{n:Nat}
def yC{g:Wd}{st:â}{q:Str}(hw:g=.take\/g=.mean)(F:Fun K "step_done" q st f fd)(S:ao ["self","hand","value_of"] ["self","hand","value_of"] (defScope st)){p1 p2 p3 p4 p5 p6 p7 x1 x2}(hb:defBody st=[.Return (some (.Tuple [.Call (.Name "value_of" p1) [.Attribute (.Name "self" p2) "cell" p3] [] p4,.Tuple [] x1 p5] x2 p6)) p7])(C:defScope st=defScope cA)(T:TxW K CW) :
  FnOk P w K mg base CX0 5 f fd ["self","hand","value_of"] (fT P w K mg CW val n g base):=by
 refine F.oj S λU A l s H vs Q E z h=>?_
 obtain ⟨v,ns,b,D,rfl,G,I,⟨a,J,rfl,r⟩,u,q⟩:=h
 rw [hb,C]
 rw [C] at z
 obtain ⟨x,y,rfl,h1,L,e⟩:=G.c (by rcases hw with rfl | rfl<;>rfl)
 rw [e] at r
 have j:y<n:=by rcases hw with rfl | rfl<;>exact I
 have O:dn val g [x,y] b=(val y,[]):=by rcases hw with rfl | rfl<;>rfl
 rw [O] at q
 refine ⟨_,aj (aw (aL (ac (og (k:=4) (i:=2) (sp:=mJ val n) P w K mg base rfl (.inl rfl) z (ac (au (pv 0) rfl) ag)) (ac (my ag) ag)))),?_⟩
 refine ⟨D,ϱ,u.fn,_,ϱ,a,CW g,J,_,_,ϱ,r,T.cl _,T.nC _,bM,_,ϱ,u,y,ϱ,L.1,j,λH1 W=>⟨χ,λt o X Y=>⟨χ,λZ d=>q Z t _ (W.trans ((af X).trans (af d))) ae ⟨[],⟨o,af d _ _ ae,Y⟩,.nil⟩⟩⟩⟩
def yF(F:Fun K "step_done" "GiveStep.step_done" cD f fd)(T:TxW K CW):FnOk P w K mg base CX0 5 f fd ["self","hand","value_of"] (fT P w K mg CW val n .give base):=by
 refine F.oj hU λu A g s H vs Q E W h=>?_
 obtain ⟨v,I,i,J,rfl,l,L,⟨a,r,rfl,j⟩,O,q⟩:=h
 obtain ⟨x,y,rfl,h1,U,e⟩:=l.c rfl
 rw [e] at j
 refine ⟨_,aj (aw (aL (ac (pv 1) (ac (my (ac (aL (ac (au (pv 0) rfl) (ac (pv 1) ag))) ag)) ag)))),?_⟩
 refine ⟨_,ϱ,_,ϱ,a,CW .give,r,_,_,ϱ,j,T.cl _,T.nC _,bM,_,ϱ,χ,λt z=>⟨χ,λC o d D=>⟨χ,λG b=>q G C _ ((af z).trans ((af d).trans (af b))) ae ⟨_,⟨o,af b _ _ ae,D⟩,.cons ⟨t,ϱ,?_⟩ .nil⟩⟩⟩⟩
 exact af b _ _ (af d _ _ ae)
def AE(F:Fun K "step_done" "AddStep.step_done" cL f fd)(T:TxW K CW):FnOk P w K mg base CX0 5 f fd ["self","hand","value_of"] (fT P w K mg CW val n .add base):=by
 refine F.oj ie λO A j s H vs Q E U h=>?_
 obtain ⟨v,ns,l,D,rfl,G,I,⟨a,e,rfl,g⟩,r,q⟩:=h
 obtain ⟨x,y,z,rfl,h1,J,_⟩:=G.a
 refine ⟨_,aj (aw (aL (ac (pv 1) (ac (my (ac (aL (ac (au (pv 0) rfl) (ac (aE bW (og (k:=4) (i:=2) (sp:=mJ val n) P w K mg base rfl (.inl rfl) U (ac (au (pv 0) rfl) ag)) (au (pv 0) rfl)) ag))) ag)) ag)))),?_⟩
 have u:(pE .add [x,y,z]).lookup (Str.ofString "cell")=some (V.int y):=by
  show (ax "amount" _ (ax "cell" _ (ax "where" _ []))).lookup _=_
  rw [aO θ,bM]
 have L:(pE .add [x,y,z]).lookup (Str.ofString "amount")=some (V.int z):=by
  show (ax "amount" _ (ax "cell" _ (ax "where" _ []))).lookup _=_
  rw [bM]
 refine ⟨_,ϱ,_,ϱ,a,CW .add,e,_,_,ϱ,g,T.cl _,T.nC _,u,D,ϱ,r.fn,_,ϱ,a,CW .add,e,_,_,ϱ,g,T.cl _,T.nC _,u,_,ϱ,r,y,ϱ,J.1,I,λH1 C=>⟨_,ϱ,a,CW .add,e,_,_,ϱ,C _ _ g,T.cl _,T.nA _,L,_,_,ϱ,ϱ,
  χ,λt W=>⟨χ,λX o d Y=>⟨χ,λZ b=>q Z X _ (C.trans ((af W).trans ((af d).trans (af b)))) ae ⟨_,⟨o,af b _ _ ae,Y⟩,.cons ⟨t,ϱ,?_⟩ .nil⟩⟩⟩⟩⟩
 exact af b _ _ (af d _ _ ae)
def AD(F:Fun K "step_done" "SumStep.step_done" bx f fd)(T:TxW K CW)(B:TxB mg)(d:mg "sum"=none)(hn:n<=1000):FnOk P w K mg base CX0 5 f fd ["self","hand","value_of"] (fT P w K mg CW val n .sum base):=by
 refine F.oj ib λY A j s H vs Q E Z h=>?_
 obtain ⟨v,ns,r,G,rfl,I,J,⟨a,u,rfl,C⟩,L,q⟩:=h
 obtain ⟨x,y,z,rfl,h1,O,h3,h4⟩:=I.s
 refine ⟨_,aj (aw (aL (ac (aK (jd rfl) rfl d PyProof.Rows.boot_sum (ac (fq gv rfl (v9 rfl B.range (ac (au (pv 0) rfl) (ac (aE bW (au (pv 0) rfl) ai) ag))) (λ_ _ _ _=>cj)
  (λ_ _ _ _=>og (k:=4) (i:=1) (sp:=mJ val n) P w K mg base rfl (by first | exact Or.inl rfl | exact Or.inr (Or.inl rfl) | exact Or.inr (Or.inr rfl)) Z (ac (pv 0) ag))) ag)) (ac (my ag) ag)))),?_⟩
 have U:(pE .sum [x,y,z]).lookup (Str.ofString "low")=some (V.int y):=by
  show (ax "high" _ (ax "low" _ (ax "where" _ []))).lookup _=_
  rw [aO θ,bM]
 have W:(pE .sum [x,y,z]).lookup (Str.ofString "high")=some (V.int z):=by
  show (ax "high" _ (ax "low" _ (ax "where" _ []))).lookup _=_
  rw [bM]
 have y0:0<=y:=O.1
 have X:z<n:=J.2
 refine ⟨_,ϱ,a,CW .sum,u,_,_,ϱ,C,T.cl _,T.nL _,U,_,ϱ,a,CW .sum,u,_,_,ϱ,C,T.cl _,T.nH _,W,_,_,ϱ,ϱ,_,_,ϱ,⟨ω,ω,ω,ω⟩,?_⟩
 have hz:(z+1-y).toNat<=n:=by omega
 have g:(1000:Nat)<=sizeLine:=by decide
 refine pV (λi l H'=>Same H H'/\l=((xD y i).map val).map V.int) ⟨Same.refl _,ϱ⟩ ω ?_ ?_
 .rintro i l H2 hi ⟨e,rfl⟩
  have D:=L.keep e
  refine jr ⟨G,ϱ,D.fn,_,ϱ,_,ϱ,D,y+i,ϱ,ω,ω,λH3 s3=>⟨e.trans s3,?_⟩⟩
  rw [rN,ſ,ſ]
  rfl
 .rintro l H2 ⟨e,rfl⟩ p hp
  refine ⟨p,_,ϱ,SqL.of ae,?_⟩
  rw [zU]
  exact ⟨χ,λt o ht od=>⟨χ,λt2 b=>q t2 t _ (e.trans ((af hp).trans ((af ht).trans (af b)))) ae ⟨[],⟨o,af b _ _ ae,od⟩,.nil⟩⟩⟩
end
end
end K55
namespace K55
open PySem L2 Lo
section
variable {P:ê}{w:è}{K:ä}{mg:ā}{base:ã}{f CL CS CH CV:é}{fd:ç}{C:Kd->é}{CW:Wd->é}
def kx(F:Fun K "beside" "Lock.beside" f7 f fd)(T:TxK K C)(S:TxS K mg)(D:∀k,GM P w K mg base CX0 1 (C k) "kind" ["self"] (h9 k)):FnOk P w K mg base CX0 2 f fd ["self","other"] (jy C):=by
 refine F.oj sc_Lock_beside λY A r s H vs Q E x h=>?_
 obtain ⟨v,u,k,j,rfl,⟨a,d,rfl,g⟩,⟨b,l,rfl,hb⟩,q⟩:=h
 obtain ⟨y,G,I,J,L,O,U,W,X⟩:=S.sh
 refine ⟨_,ah (aG (i:=2) sc_Lock_beside.nd rfl (Or.inl rfl) (Bt (bq se (au (pv 0) rfl) (au (pv 1) rfl) (aA _)) (fX (bq se (au (pv 1) rfl) (au (pv 0) rfl) (aA _)))))
  (aj (aw (Bt (pv 2) (fX (bq (ud (cT2 cStr cStr) (hun x)) (aL (ac (pm0 (D k.1) (pv 0) (T.cl k.1) x) (ac (pm0 (D j.1) (pv 1) (T.cl j.1) x) ag))) (gC (v:=.ref y) rfl L rfl) rfl))))),?_⟩
 refine ⟨_,ϱ,a,_,d,_,_,ϱ,g,T.cl _,T.nL _,jL _ _,_,ϱ,b,_,l,_,_,ϱ,hb,T.cl _,T.nF _,gj _ _,_,_,ϱ,ϱ,_,ϱ,?_⟩
 by_cases h1:k.2.2<j.2.1
 .have e:cq k j=true:=by unfold cq;rw [decide_eq_true h1];rfl
  rw [e] at q
  refine bD (λ_=>?_) (λc=>absurd (τ h1) c)
  exact ⟨_,ϱ,_,ϱ,cr (q H (Same.refl H))⟩
 refine bD (λc=>absurd (Ξ c) h1) (λ_=>?_)
 refine ⟨_,ϱ,b,_,l,_,_,ϱ,hb,T.cl _,T.nL _,jL _ _,_,ϱ,a,_,d,_,_,ϱ,g,T.cl _,T.nF _,gj _ _,_,_,ϱ,ϱ,?_⟩
 by_cases h2:j.2.2<k.2.1
 .have e:cq k j=true:=by unfold cq;rw [decide_eq_true h2,Bool.or_true];rfl
  rw [e] at q
  refine ⟨_,ϱ,_,ϱ,bD (λ_=>q H (Same.refl H)) (λc=>absurd (τ h2) c)⟩
 have e:cq k j=u4 k.1 j.1:=by unfold cq;rw [decide_eq_false h1,decide_eq_false h2];rfl
 rw [e] at q
 refine ⟨_,ϱ,_,ϱ,bD (λc=>absurd (Ξ c) h2) (λ_=>?_)⟩
 refine ⟨_,ϱ,a,d,_,ϱ,g,fO _ _ θ θ,_,ϱ,?_⟩
 refine ⟨_,ϱ,b,l,_,ϱ,hb,fO _ _ θ θ,_,ϱ,χ,λt Z=>?_⟩
 refine ⟨(kdS k.1,kdS j.1),y,_,([("read","read"),("read","mean"),("mean","read")]:à (Str×Str)),⟨t,_,_,ϱ,.inl ae,ϱ,ϱ⟩,ϱ,.inr O.sq.sq,.cons ⟨G,_,_,ϱ,U.sq,ϱ,ϱ⟩ (.cons ⟨I,_,_,ϱ,W.sq,ϱ,ϱ⟩ (.cons ⟨J,_,_,ϱ,X.sq,ϱ,ϱ⟩ .nil)),?_⟩
 have z:=q _ (af (o:=.tup [.str (kdS k.1),.str (kdS j.1)]) Z)
 rw [tT]
 exact z
def ku(F:Fun K "covers" "Lock.covers" f6 f fd)(T:TxK K C)(R:TxR K mg)(G:∀k,GM P w K mg base CX0 1 (C k) "kind" ["self"] (h9 k)):FnOk P w K mg base CX0 2 f fd ["self","other"] (jv C):=by
 refine F.oj sc_Lock_covers λI A r s H vs Q E z h=>?_
 obtain ⟨v,u,k,j,rfl,⟨a,g,rfl,l⟩,⟨b,o,rfl,hb⟩,q⟩:=h
 obtain ⟨d,x,y⟩:=R.rk
 refine ⟨_,ah (aG (i:=2) sc_Lock_covers.nd rfl (Or.inl rfl) (gD (bq vo (au (pv 0) rfl) (au (pv 1) rfl) (aA _)) (fX (bq vo (au (pv 1) rfl) (au (pv 0) rfl) (aA _)))))
  (aj (aw (gD (pv 2) (fX (bq DZ (ay (vt (D:=nK)) (gC (v:=.ref d) rfl x rfl) (pm0 (G k.1) (pv 0) (T.cl k.1) z) (λ_ _=>rfl)) (ay (vt (D:=nK)) (gC (v:=.ref d) rfl x rfl) (pm0 (G j.1) (pv 1) (T.cl j.1) z) (λ_ _=>rfl)) (aA _)))))),?_⟩
 refine ⟨_,ϱ,a,_,g,_,_,ϱ,l,T.cl _,T.nF _,gj _ _,_,ϱ,b,_,o,_,_,ϱ,hb,T.cl _,T.nF _,gj _ _,_,_,ϱ,ϱ,_,ϱ,?_⟩
 by_cases h1:k.2.1<=j.2.1
 .refine bD (λ_=>?_) (λc=>absurd (τ h1) c)
  refine ⟨_,ϱ,b,_,o,_,_,ϱ,hb,T.cl _,T.nL _,jL _ _,_,ϱ,a,_,g,_,_,ϱ,l,T.cl _,T.nL _,jL _ _,_,_,ϱ,ϱ,?_⟩
  by_cases h2:j.2.2<=k.2.2
  .have e:cT k j=decide (tX j.1<=tX k.1):=by unfold cT;rw [decide_eq_true h1,decide_eq_true h2];rfl
   rw [e] at q
   refine ⟨_,ϱ,_,ϱ,bD (λ_=>?_) (λc=>absurd (τ h2) c)⟩
   refine ⟨_,ϱ,a,g,_,ϱ,l,fO _ _ θ θ,_,ϱ,d,_,tX k.1,ϱ,ϱ,y,va k.1,ϱ,?_⟩
   exact ⟨_,ϱ,b,o,_,ϱ,hb,fO _ _ θ θ,_,ϱ,d,_,tX j.1,ϱ,ϱ,y,va j.1,ϱ,_,_,ϱ,ϱ,q H (Same.refl H)⟩
  .have e:cT k j=false:=by unfold cT;rw [decide_eq_false h2,Bool.and_false];rfl
   rw [e] at q
   exact ⟨_,ϱ,_,ϱ,bD (λc=>absurd (Ξ c) h2) (λ_=>q H (Same.refl H))⟩
 .have e:cT k j=false:=by unfold cT;rw [decide_eq_false h1];rfl
  rw [e] at q
  refine bD (λc=>absurd (Ξ c) h1) (λ_=>?_)
  exact ⟨_,ϱ,_,ϱ,aU (q H (Same.refl H))⟩
def wl(F:Fun K "__init__" "Locks.__init__" gP f fd)(L:TxL K C CL):FnOk P w K mg base CX0 1 f fd ["self"] (mK CL):=by
 refine F.oj pd λu A d s H vs Q E x h=>?_
 obtain ⟨l,r,rfl,i,q⟩:=h
 refine ⟨_,aj (aT (pv 0) (c7 ag) rfl),?_⟩
 refine ⟨χ,λp g=>?_⟩
 have j:l≠p:=aq i g
 refine ⟨_,ϱ,l,CL,r,[],ϱ,(by rw [am j];exact i),L.cl,L.nP,(by show 0<1000;decide),?_⟩
 exact q p _ g (by rw [am (Ne.symm j),ae]) ae λb o n e=>by rw [am n,am (aq e g)];exact e
def AA(F:Fun K "hinderer" "Locks.hinderer" dL f fd)(B:TxB mg)(T:TxK K C)(L:TxL K C CL)(GB:∀k,GM P w K mg base CX0 2 (C k) "beside" ["self","other"] (jy C)) :
  FnOk P w K mg base CX0 3 f fd ["self","place"] (jY C CL K):=by
 refine F.oj sc_Locks_hinderer λb5 A a4 s H vs Q E hr h=>?_
 obtain ⟨l,p,b,k,rfl,ls,hk,hz,q⟩:=h
 have nd:=sc_Locks_hinderer.nd
 obtain ⟨dx,vs,hl,hp,pr⟩:=id ls
 have ak:=pr.len
 obtain ⟨uk,J,O⟩:=pr.get1 (ξ hk)
 refine ⟨_,ah (aG (i:=2) nd rfl (Or.inl rfl) (ay (r:=cH K) aI (au (pv 0) rfl) (pv 1) (λ_ _=>rfl)))
  (ah (gz ō rfl (cX rfl B.range (ac (pv 1) ag)) (bU (i:=3) nd rfl (Or.inl rfl))
   (ah (aG (i:=4) nd rfl (Or.inl rfl) (ay (r:=cH K) aI (au (pv 0) rfl) (pv 3) (λ_ _=>rfl)))
   (aj (aJ (PW.pt (gy (az (uc cPa (hun hr)) (ay (r:=a9 K) aC (pv 4) ai (λ_ _=>rfl)) (ay (r:=a9 K) aC (pv 2) ai (λ_ _=>rfl)) (aA _))
    (fF (io (cK (PE.ex λkd:Kd=>pm (GB kd) (ay (r:=a9 K) aC (pv 4) ai (λ_ _=>rfl)) (T.cl kd) hr (ac (ay (r:=a9 K) aC (pv 2) ai (λ_ _=>rfl)) ag))))))) (aj (aw (pv 3))) aB))))
  (aj (aw c6))),?_⟩
 refine ⟨_,ϱ,l,CL,dx,_,_,ϱ,hl,L.cl,L.nP,b8,_,ϱ,p,_,_,_,ϱ,ϱ,SqL.of hp,br J,?_⟩
 refine ⟨_,ϱ,(k:Int),ϱ,(bnd ω).1,(bnd ω).2,?_⟩
 rw [ř]
 refine iR (n:=k) (λi σ H'=>Same H H'/\(∃y D,σ=[some (.ref l),some (.int (k:Nat)),some uk,y,D])/\∀j,j<i->hb b k j=false) ⟨Same.refl H,⟨none,none,ϱ⟩,λj h=>absurd h (ŝ _)⟩ ?_ ?_
 .rintro i σ H1 hi ⟨o,⟨y,D,rfl⟩,h0⟩
  rw [Int.zero_add]
  obtain ⟨U,aS,W,X,Y⟩:=ls.keep L.ne o
  have u:i<b.length:=by omega
  obtain ⟨ui,Z,a0⟩:=Y.get1 (ξ u)
  have x:=O.keep L.ne (bO o)
  obtain ⟨a1,p1,l1,rfl,t1,c1,o1⟩:=a0
  obtain ⟨G,p2,l2,rfl,t2,c2,o2⟩:=x
  have d:hb b k i=(!decide (b[i].1=b[k].1)&&!cq b[i].2 b[k].2):=by
   unfold hb
   rw [ξ u,ξ hk]
  have next:∀g,Same H1 g->hb b k i=false->(Same H g/\(∃y D,[some (.ref l),some (.int (k:Nat)),some (V.ref G),some (.int (i:Nat)),some (V.ref a1)]=[some (.ref l),some (.int (k:Nat)),some (V.ref G),y,D])/\∀j,j<i+1->hb b k j=false):=λg I hf =>
   ⟨o.trans I,⟨_,_,ϱ⟩,λj hj=>by
    by_cases e:j=i
    .rw [e];exact hf
    .exact h0 j ω⟩
  refine ⟨_,ϱ,l,CL,U,_,_,ϱ,W,L.cl,L.nP,b8,_,ϱ,p,_,_,_,ϱ,ϱ,SqL.of X,br Z,?_⟩
  refine ⟨_,ϱ,a1,_,_,_,ϱ,ϱ,t1.sq,ϱ,_,ϱ,G,_,_,_,ϱ,ϱ,t2.sq,ϱ,b[i].1,b[k].1,c1,c2,_,ϱ,?_⟩
  by_cases e:b[i].1=b[k].1
  .rw [τ e]
   exact aU (aU (next H1 (Same.refl _) (by rw [d,τ e];rfl)))
  rw [Γ e]
  refine cr ?_
  obtain ⟨la,da,rfl,ha⟩:=id o1
  refine ⟨b[i].2.1,_,ϱ,a1,_,_,_,ϱ,ϱ,t1.sq,ϱ,la,da,_,ϱ,ha,fO _ _ θ θ,_,ϱ,G,_,_,_,ϱ,ϱ,t2.sq,ϱ,_,_,b[i].2,b[k].2,ϱ,o1,o2,λg I=>⟨_,ϱ,?_⟩⟩
  cases eb:cq b[i].2 b[k].2 with
  | true=>exact aU (next g I (by rw [d,eb,Bool.not_true,Bool.and_false]))
  | false =>
   refine cr ⟨_,ϱ,?_⟩
   have z:=q g (o.trans I)
   rw [wC hi (by rw [d,eb,Γ e];rfl) h0] at z
   exact z
 .rintro σ H1 ⟨o,⟨y,D,rfl⟩,h0⟩
  have z:=q H1 o
  rw [qc h0] at z
  exact z
def yA(F:Fun K "held_pairs" "Locks.held_pairs" bE f fd)(B:TxB mg)(L:TxL K C CL)(GH:GM P w K mg base CX0 3 CL "hinderer" ["self","place"] (jY C CL K)) :
  FnOk P w K mg base CX0 4 f fd ["self"] (iL C CL K gW):=by
 refine F.oj iY λa6 A U s H vs Q E hr h=>?_
 obtain ⟨l,p,D,rfl,ls,hz,q⟩:=h
 obtain ⟨dx,vs,hl,X,Y⟩:=id ls
 have b:=Y.len
 refine ⟨_,aj (aw (fq hV rfl (cX rfl B.range (ac (aK bc rfl B.len Ů (ac (au (pv 0) rfl) ag)) ag))
  (λ_ _ _ _=>iN (az qV (pm GH (pv 1) L.cl hr (ac (pv 0) ag)) c6 (aA _))) (λ_ _ _ _=>ay (r:=cH K) aI (pfK K 1) (pv 0) (λ_ _=>rfl)))),?_⟩
 refine ⟨_,ϱ,l,CL,dx,_,_,ϱ,hl,L.cl,L.nP,b8,p,_,ϱ,.inl (SqL.of X),(vs.length:Int),ϱ,(bnd ω).1,(bnd ω).2,?_⟩
 rw [ř]
 refine jN (n:=vs.length) (λi W H'=>Same H H'/\W=dF vs ((List.range i).filter λk=>(cO D k).isNone)) ⟨Same.refl H,ϱ⟩ (ja ω) ?_ ?_
 .rintro i W H1 Z ⟨d,rfl⟩
  obtain ⟨G,u,I,J,a4⟩:=ls.keep L.ne d
  have ev:u=vs:=by
   have:=d p _ X
   rw [J] at this
   cases this
   rfl
  subst ev
  have O:i<D.length:=by omega
  refine ⟨_,ϱ,l,G,_,ϱ,I,gi θ,_,ϱ,l,p,D,i,ϱ,ls.keep L.ne d,O,hz,λH2 y=>⟨ϱ,_,ϱ,?_⟩⟩
  cases e:cO D i with
  | none =>
   refine cr ⟨_,ϱ,l,CL,G,_,_,ϱ,y _ _ I,L.cl,L.nP,b8,_,ϱ,p,_,_,_,ϱ,ϱ,SqL.of (y _ _ J),br (ξ Z),d.trans y,?_⟩
   rw [bH,e]
   show _=dF u (_++[i])
   rw [pS,ξ Z]
   rfl
  | some j =>
   refine aU ⟨d.trans y,?_⟩
   rw [bH,e]
   show _=dF u (_++[])
   rw [ţ]
 .rintro W H1 ⟨d,rfl⟩ x hx
  have y:=d.trans (af (o:=.lst (dF vs ((List.range vs.length).filter λk=>(cO D k).isNone))) hx)
  refine q x _ _ y (d.free hx) ae ?_
  have z:=kr Y (oE D)
  unfold oE at z
  rw [b] at z
  unfold gW oE
  rw [b]
  exact pp z λ_ _ g=>g.keep L.ne (bO y)
def yg(F:Fun K "waiting_pairs" "Locks.waiting_pairs" bf f fd)(B:TxB mg)(L:TxL K C CL)(GH:GM P w K mg base CX0 3 CL "hinderer" ["self","place"] (jY C CL K)) :
  FnOk P w K mg base CX0 4 f fd ["self"] (iL C CL K aN):=by
 refine F.oj gu λa6 A U s H vs Q E hr h=>?_
 obtain ⟨l,p,D,rfl,ls,hz,q⟩:=h
 obtain ⟨dx,vs,hl,X,Y⟩:=id ls
 have b:=Y.len
 refine ⟨_,aj (aw (fq fU rfl (cX rfl B.range (ac (aK bc rfl B.len Ů (ac (au (pv 0) rfl) ag)) ag))
  (λ_ _ _ _=>iN (az qU (pm GH (pv 1) L.cl hr (ac (pv 0) ag)) c6 (aA _))) (λ_ _ _ _=>ay (r:=cH K) aI (pfK K 1) (pv 0) (λ_ _=>rfl)))),?_⟩
 refine ⟨_,ϱ,l,CL,dx,_,_,ϱ,hl,L.cl,L.nP,b8,p,_,ϱ,.inl (SqL.of X),(vs.length:Int),ϱ,(bnd ω).1,(bnd ω).2,?_⟩
 rw [ř]
 refine jN (n:=vs.length) (λi W H'=>Same H H'/\W=dF vs ((List.range i).filter λk=>(cO D k).isSome)) ⟨Same.refl H,ϱ⟩ (ja ω) ?_ ?_
 .rintro i W H1 Z ⟨d,rfl⟩
  obtain ⟨G,u,I,J,a4⟩:=ls.keep L.ne d
  have ev:u=vs:=by
   have:=d p _ X
   rw [J] at this
   cases this
   rfl
  subst ev
  have O:i<D.length:=by omega
  refine ⟨_,ϱ,l,G,_,ϱ,I,gi θ,_,ϱ,l,p,D,i,ϱ,ls.keep L.ne d,O,hz,λH2 y=>⟨ϱ,_,ϱ,?_⟩⟩
  cases e:cO D i with
  | some j =>
   refine cr ⟨_,ϱ,l,CL,G,_,_,ϱ,y _ _ I,L.cl,L.nP,b8,_,ϱ,p,_,_,_,ϱ,ϱ,SqL.of (y _ _ J),br (ξ Z),d.trans y,?_⟩
   rw [bH,e]
   show _=dF u (_++[i])
   rw [pS,ξ Z]
   rfl
  | none =>
   refine aU ⟨d.trans y,?_⟩
   rw [bH,e]
   show _=dF u (_++[])
   rw [ţ]
 .rintro W H1 ⟨d,rfl⟩ x hx
  have y:=d.trans (af (o:=.lst (dF vs ((List.range vs.length).filter λk=>(cO D k).isSome))) hx)
  refine q x _ _ y (d.free hx) ae ?_
  have z:=kr Y (hX D)
  unfold hX at z
  rw [b] at z
  unfold aN hX
  rw [b]
  exact pp z λ_ _ g=>g.keep L.ne (bO y)
def AB(F:Fun K "held" "Locks.held" db f fd)(T:TxK K C)(L:TxL K C CL)(GP:GM P w K mg base CX0 4 CL "held_pairs" ["self"] (iL C CL K gW))(GT:∀k,GM P w K mg base CX0 2 (C k) "told" ["self"] (fR C)) :
  FnOk P w K mg base CX0 5 f fd ["self"] (ju C CL K gW):=by
 refine F.oj pf λav A X s H vs Q E Z h=>?_
 obtain ⟨l,p,j,rfl,ls,Y,q⟩:=h
 obtain ⟨dx,vs,hl,hp,pr⟩:=id ls
 refine ⟨_,aj (aw (fq lK rfl (bJ (pm0 GP (pv 0) L.cl Z)) (λ_ _ _ _=>cj)
  (λ_ _ _ _=>aL (ac (ay (r:=a9 K) aC (pv 0) ai (λ_ _=>rfl)) (ac (PE.ex λkd:Kd=>pm0 (GT kd) (ay (r:=a9 K) aC (pv 0) ai (λ_ _=>rfl)) (T.cl kd) Z) ag))))),?_⟩
 refine ⟨_,ϱ,l,dx,_,ϱ,hl,gi θ,l,p,j,ϱ,ls,Y,λx H1 us s1 nx hx px=>⟨x,ϱ,⟨_,SqL.of hx⟩,?_⟩⟩
 have b:=px.len
 have hb:us.length<=1000:=by
  rw [← b]
  exact Λ (qd j) Y
 refine e8 (xs:=us) (λi D H'=>Same H1 H'/\Paired (cPr.rp K H') ((gW j).take i) D) ⟨Same.refl _,.nil⟩ (ja hb) (λi D O _ g=>SqL.of (g.1 _ _ hx)) ?_ ?_
 .rintro i u D O hu ⟨I,U⟩
  obtain ⟨y,ey,ry⟩:=px.get hu
  have W:=ry.keep L.ne (bO I)
  obtain ⟨a,pu,lu,rfl,ta,cp,lo⟩:=W
  obtain ⟨la,da,rfl,ha⟩:=id lo
  refine jr ⟨_,ϱ,a,_,_,_,ϱ,ϱ,ta.sq,ϱ,?_⟩
  refine ⟨y.2.1,_,ϱ,a,_,_,_,ϱ,ϱ,ta.sq,ϱ,la,da,_,ϱ,ha,fO _ _ θ θ,_,y.2,ϱ,lo,λt ht=>?_⟩
  refine ⟨χ,λt2 G=>?_⟩
  have d:Same O (upd (upd O t (.tup [.str (kdS y.2.1),.int y.2.2.1,.int y.2.2.2])) t2 (.tup [pu,.ref t])):=(af ht).trans (af G)
  refine ⟨I.trans d,?_⟩
  have e:(gW j).take (i+1)=(gW j).take i++[y]:=by
   rw [Ţ,ey]
   rfl
  rw [e]
  refine (pp U λ_ _ g=>cPr.keep d.ts g).app (.cons ?_ .nil)
  exact zG (k:=y) ae (cPa.keep d.ts cp) (uF (af G _ _ ae))
 .rintro D O ⟨I,U⟩ z J
  have d:=af (o:=.lst D) J
  rw [← b,Ŭ] at U
  exact q z _ _ (s1.trans (I.trans d)) ((s1.trans I).free J) ae (pp U λ_ _ g=>cPr.keep d.ts g)
def uf(F:Fun K "waiting" "Locks.waiting" b7 f fd)(T:TxK K C)(L:TxL K C CL)(GP:GM P w K mg base CX0 4 CL "waiting_pairs" ["self"] (iL C CL K aN))(GT:∀k,GM P w K mg base CX0 2 (C k) "told" ["self"] (fR C)) :
  FnOk P w K mg base CX0 5 f fd ["self"] (ju C CL K aN):=by
 refine F.oj ki λav A X s H vs Q E Z h=>?_
 obtain ⟨l,p,j,rfl,ls,Y,q⟩:=h
 obtain ⟨dx,vs,hl,hp,pr⟩:=id ls
 refine ⟨_,aj (aw (fq jg rfl (bJ (pm0 GP (pv 0) L.cl Z)) (λ_ _ _ _=>cj)
  (λ_ _ _ _=>aL (ac (ay (r:=a9 K) aC (pv 0) ai (λ_ _=>rfl)) (ac (PE.ex λkd:Kd=>pm0 (GT kd) (ay (r:=a9 K) aC (pv 0) ai (λ_ _=>rfl)) (T.cl kd) Z) ag))))),?_⟩
 refine ⟨_,ϱ,l,dx,_,ϱ,hl,gi θ,l,p,j,ϱ,ls,Y,λx H1 us s1 nx hx px=>⟨x,ϱ,⟨_,SqL.of hx⟩,?_⟩⟩
 have b:=px.len
 have hb:us.length<=1000:=by
  rw [← b]
  exact Λ (gc j) Y
 refine e8 (xs:=us) (λi D H'=>Same H1 H'/\Paired (cPr.rp K H') ((aN j).take i) D) ⟨Same.refl _,.nil⟩ (ja hb) (λi D O _ g=>SqL.of (g.1 _ _ hx)) ?_ ?_
 .rintro i u D O hu ⟨I,U⟩
  obtain ⟨y,ey,ry⟩:=px.get hu
  have W:=ry.keep L.ne (bO I)
  obtain ⟨a,pu,lu,rfl,ta,cp,lo⟩:=W
  obtain ⟨la,da,rfl,ha⟩:=id lo
  refine jr ⟨_,ϱ,a,_,_,_,ϱ,ϱ,ta.sq,ϱ,?_⟩
  refine ⟨y.2.1,_,ϱ,a,_,_,_,ϱ,ϱ,ta.sq,ϱ,la,da,_,ϱ,ha,fO _ _ θ θ,_,y.2,ϱ,lo,λt ht=>?_⟩
  refine ⟨χ,λt2 G=>?_⟩
  have d:Same O (upd (upd O t (.tup [.str (kdS y.2.1),.int y.2.2.1,.int y.2.2.2])) t2 (.tup [pu,.ref t])):=(af ht).trans (af G)
  refine ⟨I.trans d,?_⟩
  have e:(aN j).take (i+1)=(aN j).take i++[y]:=by
   rw [Ţ,ey]
   rfl
  rw [e]
  refine (pp U λ_ _ g=>cPr.keep d.ts g).app (.cons ?_ .nil)
  exact zG (k:=y) ae (cPa.keep d.ts cp) (uF (af G _ _ ae))
 .rintro D O ⟨I,U⟩ z J
  have d:=af (o:=.lst D) J
  rw [← b,Ŭ] at U
  exact q z _ _ (s1.trans (I.trans d)) ((s1.trans I).free J) ae (pp U λ_ _ g=>cPr.keep d.ts g)
def wg(F:Fun K "waiting_place" "Locks.waiting_place" cg f fd)(B:TxB mg)(L:TxL K C CL)(GH:GM P w K mg base CX0 3 CL "hinderer" ["self","place"] (jY C CL K)) :
  FnOk P w K mg base CX0 4 f fd ["self","p"] (mI C CL K):=by
 refine F.oj sc_Locks_waiting_place λar A Z s H vs Q E hr h=>?_
 obtain ⟨l,p,b,v,x,rfl,ls,hz,hx,q⟩:=h
 have nd:=sc_Locks_waiting_place.nd
 obtain ⟨dx,vs,hl,hp,pr⟩:=id ls
 have D:=pr.len
 refine ⟨_,ah (gz ō rfl (cX rfl B.range (ac (aK bc rfl B.len Ů (ac (au (pv 0) rfl) ag)) ag)) (bU (i:=2) nd rfl (Or.inl rfl))
   (aj (aJ (PW.pt (gy (az (yc cPa (hun hr)) (ay (r:=a9 K) aC (ay (r:=cH K) aI (au (pv 0) rfl) (pv 2) (λ_ _=>rfl)) ai (λ_ _=>rfl)) (pv 1) (aA _))
    (fF (az qU (pm GH (pv 0) L.cl hr (ac (pv 2) ag)) c6 (aA _))))) (aj (aw (pv 2))) aB)))
  (aj (aw c6)),?_⟩
 refine ⟨_,ϱ,l,CL,dx,_,_,ϱ,hl,L.cl,L.nP,b8,p,_,ϱ,.inl (SqL.of hp),(vs.length:Int),ϱ,(bnd ω).1,(bnd ω).2,?_⟩
 rw [ř]
 refine iR (n:=vs.length) (λi σ H'=>Same H H'/\(∃I,σ=[some (.ref l),some v,I])/\∀j,j<i->wpl b x j=false) ⟨Same.refl H,⟨none,ϱ⟩,λj h=>absurd h (ŝ _)⟩ ?_ ?_
 .rintro i σ H1 hi ⟨o,⟨I,rfl⟩,h0⟩
  rw [Int.zero_add]
  have G:=ls.keep L.ne o
  obtain ⟨u,a8,y,O,U⟩:=id G
  have d:i<b.length:=by omega
  obtain ⟨ui,W,X⟩:=U.get1 (ξ d)
  obtain ⟨a1,p1,l1,rfl,t1,c1,o1⟩:=X
  have Y:wpl b x i=(decide (b[i].1=x)&&(cO b i).isSome):=by
   unfold wpl
   rw [ξ d]
  have next:∀g,Same H1 g->wpl b x i=false->(Same H g/\(∃I,[some (.ref l),some v,some (.int (i:Nat))]=[some (.ref l),some v,I])/\∀j,j<i+1->wpl b x j=false):=λg J hf =>
   ⟨o.trans J,⟨_,ϱ⟩,λj hj=>by
    by_cases e:j=i
    .rw [e];exact hf
    .exact h0 j ω⟩
  refine ⟨_,ϱ,l,CL,u,_,_,ϱ,y,L.cl,L.nP,b8,_,ϱ,p,_,_,_,ϱ,ϱ,SqL.of O,br W,a1,_,_,_,ϱ,ϱ,t1.sq,ϱ,_,ϱ,b[i].1,x,c1,cPa.keep o.ts hx,_,ϱ,?_⟩
  by_cases e:b[i].1=x
  .rw [τ e]
   refine cr ⟨_,ϱ,l,u,_,ϱ,y,gi θ,_,ϱ,l,p,b,i,ϱ,G,d,hz,λg J=>⟨ϱ,_,ϱ,?_⟩⟩
   cases eh:cO b i with
   | none=>exact aU (next g J (by rw [Y,eh];simp))
   | some j =>
    refine cr ⟨_,ϱ,?_⟩
    have z:=q g (o.trans J)
    rw [rE d (by rw [Y,eh,τ e];rfl) h0] at z
    exact z
  .rw [Γ e]
   exact aU (aU (next H1 (Same.refl _) (by rw [Y,Γ e];rfl)))
 .rintro σ H1 ⟨o,⟨I,rfl⟩,h0⟩
  have z:=q H1 o
  rw [D.symm] at h0
  rw [kW h0] at z
  exact z
def CG(F:Fun K "ask" "Locks.ask" eB f fd)(B:TxB mg)(T:TxK K C)(L:TxL K C CL)(GC:∀k,GM P w K mg base CX0 2 (C k) "covers" ["self","other"] (jv C))(GH:GM P w K mg base CX0 3 CL "hinderer" ["self","place"] (jY C CL K))(GW:GM P w K mg base CX0 4 CL "waiting_place" ["self","p"] (mI C CL K)) :
  FnOk P w K mg base CX0 5 f fd ["self","p","lock"] (xu C CL K):=by
 refine F.oj sc_Locks_ask λcc A b5 s H vs Q E hr h=>?_
 obtain ⟨l,p,b,v,x,u,k,rfl,ls,hz,hx,hu,hw,q⟩:=h
 have nd:=sc_Locks_ask.nd
 refine ⟨_,ah (aJ (az qU (pm GW (pv 0) L.cl hr (ac (pv 1) ag)) c6 (aA _)) aH aB)
  (ah (aJ (cK (aK (sU rfl) rfl B.any PyProof.Rows.boot_any (ac (fq nt rfl (bJ (au (pv 0) rfl)) (λ_ _ _ _=>cj)
   (λ_ _ _ _=>gD (bq (vq K cPa (hun hr)) (ay (r:=a9 K) aC (pv 0) ai (λ_ _=>rfl)) (pv 1) (aA _)) (fX (PE.ex λkd:Kd=>pm (GC kd) (ay (r:=a9 K) aC (pv 0) ai (λ_ _=>rfl)) (T.cl kd) hr (ac (pv 2) ag))))) ag))) (aj (aw rZ)) aB)
  (ah (aQ (iu Ň ŏ Ŏ fh (au (pv 0) rfl) (ac (aL (ac (pv 1) (ac (pv 2) ag))) ag)))
  (aj (aw (bq qV (pm GH (pv 0) L.cl hr (ac (aE oh (aK bc rfl B.len Ů (ac (au (pv 0) rfl) ag)) ai) ag)) c6 (aA _)))))),?_⟩
 obtain ⟨dx,vs,hl,hp,pr⟩:=id ls
 have a6:=pr.len
 refine ⟨_,ϱ,l,dx,_,ϱ,hl,gi θ,_,ϱ,l,p,b,v,x,ϱ,ls,Ĉ hz,hx,λH1 s1=>⟨ϱ,_,ϱ,?_⟩⟩
 rw [hw]
 refine aU ?_
 have b1:=ls.keep L.ne s1
 obtain ⟨av,W,aR,X,aS⟩:=id b1
 have ev:W=vs:=by
  have:=s1 p _ hp
  rw [X] at this
  cases this
  rfl
 subst ev
 refine ⟨_,ϱ,l,CL,av,_,_,ϱ,aR,L.cl,L.nP,b8,p,ϱ,⟨_,SqL.of X⟩,?_⟩
 refine e8 (xs:=W) (λi ys H'=>Same H1 H'/\ys=((b.take i).map λy=>decide (y.1=x)&&cT y.2 k).map V.bl) ⟨Same.refl _,ϱ⟩ (ja ω) (λi ys H2 _ g=>SqL.of (g.1 _ _ X)) ?_ ?_
 .rintro i u0 ys H2 ba ⟨s2,rfl⟩
  obtain ⟨y,ey,ry⟩:=aS.get ba
  have b2:=ry.keep L.ne (bO s2)
  obtain ⟨a,pu,lu,rfl,ta,cp,lo⟩:=b2
  obtain ⟨la,da,rfl,ha⟩:=id lo
  have sx:=s1.trans s2
  have e:b.take (i+1)=b.take i++[y]:=by
   rw [Ţ,ey]
   rfl
  refine jr ⟨_,ϱ,a,_,_,_,ϱ,ϱ,ta.sq,ϱ,_,ϱ,y.1,x,cp,cPa.keep sx.ts hx,_,ϱ,?_⟩
  by_cases ex:y.1=x
  .rw [τ ex]
   refine cr ⟨y.2.1,_,ϱ,a,_,_,_,ϱ,ϱ,ta.sq,ϱ,la,da,_,ϱ,ha,fO _ _ θ θ,_,ϱ,_,_,y.2,k,ϱ,lo,hu.keep L.ne (bO sx),λO G=>⟨s2.trans G,?_⟩⟩
   rw [e,ſ,ſ]
   simp only [List.map_cons,List.map_nil,decide_eq_true ex,Bool.true_and]
  .rw [Γ ex]
   refine aU ⟨s2,?_⟩
   rw [e,ſ,ſ]
   simp only [List.map_cons,List.map_nil,decide_eq_false ex,Bool.false_and]
 .rintro ys H2 ⟨s2,rfl⟩ y hy
  have el:W.length=b.length:=a6.symm
  rw [el,Ŭ]
  refine ⟨y,_,ϱ,SqL.of ae,_,ϱ,?_⟩
  have a7:((b.map λy=>decide (y.1=x)&&cT y.2 k).any id)=iT b x k:=by
   unfold iT
   rw [List.any_map]
   rfl
  rw [a7]
  have G:=s1.trans (s2.trans (af (o:=.lst ((b.map λy=>decide (y.1=x)&&cT y.2 k).map V.bl)) hy))
  generalize (upd H2 y (HO.lst ((b.map λy=>decide (y.1=x)&&cT y.2 k).map V.bl)))=O at G ⊢
  cases ec:iT b x k with
  | true =>
   refine cr ?_
   have z:=q O
   unfold bh i6 at z
   rw [ec,Ź rfl] at z
   exact z (ls.keep L.ne G) (Kp.of G)
  | false =>
   refine aU ?_
   obtain ⟨a2,d,Y,j,a3⟩:=ls.keep L.ne G
   have b3:=a3.len
   refine ⟨_,ϱ,l,CL,a2,_,_,ϱ,Y,L.cl,L.nP,b8,.inl ⟨ϱ,_,SqL.of j⟩,_,ϱ,_,ϱ,χ,λt ht=>?_⟩
   have np:p≠t:=aq j ht
   have nl:l≠p:=jH Y j (by intro z;cases z)
   have b4:(upd O t (.tup [v,u])) p=some (.lst d):=by rw [am np];exact j
   refine ⟨p,d,_,ϱ,ϱ,b4,fe ω,?_⟩
   have Z:Kp p O (upd (upd O t (.tup [v,u])) p (.lst (d++[.ref t]))):=(Kp.of (af ht)).trans bn
   have a0:FSame CL O (upd (upd O t (.tup [v,u])) p (.lst (d++[.ref t]))):=Z.fs j
   have a8:=Z l _ nl Y
   have I:LS C CL K (upd (upd O t (.tup [v,u])) p (.lst (d++[.ref t]))) l p (b++[(x,k)]) :=
    ⟨a2,_,a8,ae,(pp a3 λ_ _ g=>g.keep L.ne a0).app (.cons ⟨t,v,u,ϱ,.inl (by rw [am (Ne.symm np),ae]),cPa.keep ((bO G).trans a0).ts hx,hu.keep L.ne ((bO G).trans a0)⟩ .nil)⟩
   have ab:=(Kp.of (p:=p) G).trans Z
   generalize (upd (upd O t (.tup [v,u])) p (HO.lst (d++[.ref t])))=H4 at a8 I ab ⊢
   obtain ⟨a4,aZ,U,a5,b0⟩:=id I
   have D:=b0.len
   rw [Ž] at D
   have J:aZ.length=b.length+1:=D.symm
   refine ⟨_,ϱ,l,a4,_,ϱ,U,gi θ,_,ϱ,l,CL,a4,_,_,ϱ,U,L.cl,L.nP,b8,p,_,ϱ,.inl (SqL.of a5),_,_,ϱ,ϱ,?_⟩
   rw [J]
   have ei:((b.length+1:Nat):Int)-1=(b.length:Nat):=by omega
   refine ⟨l,p,_,b.length,congrArg (λi=>[V.ref l,V.int i]) ei,I,by rw [Ž];exact Į _,by rw [Ž];exact hz,λH5 s5=>⟨ϱ,?_⟩⟩
   have z:=q H5
   unfold bh i6 at z
   rw [ec,ž Ÿ,Bool.false_or] at z
   have z2:=z (I.keep L.ne s5) (ab.trans (Kp.of s5))
   have eo:(cO (b++[(x,k)]) b.length).isNone=decide (Cp (cO (b++[(x,k)]) b.length)=.non):=by
    cases cO (b++[(x,k)]) b.length<;>rfl
   rw [eo] at z2
   exact z2
inductive qB (C:Kd->é) (CL:é) (K:ä) (vs:à V) (H:Hp) (Q:VK) (E:XK):Prop|mk l p ps v x:vs=[.ref l,v]->LS C CL K H l p ps->ps.length<=1000->cPa.rp K H x v->(∀q p' H' us,LS C CL K H' l p' (bu ps x)->H p'=none->Kp l H H'->H q=none->q≠p'->H' q=some (.lst us)->Paired (cPa.rp K H') (jO ps x) us->Q (.ref q) H')->qB C CL K vs H Q E
def AC(F:Fun K "free" "Locks.free" bz f fd)(L:TxL K C CL)(GP:GM P w K mg base CX0 4 CL "waiting_pairs" ["self"] (iL C CL K aN)) :
  FnOk P w K mg base CX0 5 f fd ["self","p"] (qB C CL K):=by
 refine F.oj sc_Locks_free λcZ A c2 s H vs Q E hr h=>?_
 obtain ⟨l,p,I,v,x,rfl,ls,hz,hx,q⟩:=h
 have nd:=sc_Locks_free.nd
 refine ⟨_,ah (aG (i:=2) nd rfl (Or.inl rfl) (pm0 GP (pv 0) L.cl hr))
  (ah (aT (pv 0) (fq lN rfl (bJ (au (pv 0) rfl)) (λ_ _ _ _=>iN (az (vm K cPa (hun hr)) (ay (r:=a9 K) aC (pv 0) ai (λ_ _=>rfl)) (pv 1) (aA _))) (λ_ _ _ _=>pv 0)) rfl)
  (ah (aG (i:=3) nd rfl (Or.inr rfl) (fq lM rfl (bJ (pm0 GP (pv 0) L.cl hr)) (λ_ _ _ _=>cj) (λ_ _ _ _=>ay (r:=a9 K) aC (pv 0) ai (λ_ _=>rfl))))
  (aj (aw (fq lL rfl (bJ (pv 2)) (λ_ _ _ _=>iN (PW.pt (gy (az (vm K cPa (hun hr)) (ay (r:=a9 K) aC (pv 0) ai (λ_ _=>rfl)) (pv 1) (aA _)) (fF (az (ub K cPa (hun hr)) (ay (r:=a9 K) aC (pv 0) ai (λ_ _=>rfl)) (pv 2) rfl)))))
   (λ_ _ _ _=>ay (r:=a9 K) aC (pv 0) ai (λ_ _=>rfl))))))),?_⟩
 obtain ⟨dx,vs,hl,hp,pr⟩:=id ls
 have cf:=pr.len
 refine ⟨_,ϱ,l,dx,_,ϱ,hl,gi θ,l,p,I,ϱ,ls,hz,λw0 H1 us s1 nw hw pw=>?_⟩
 have bN:=ls.keep L.ne s1
 obtain ⟨d,aS,X,aZ,b0⟩:=id bN
 have a8:=b0.len
 refine ⟨_,ϱ,l,CL,d,_,_,ϱ,X,L.cl,L.nP,b8,p,ϱ,⟨_,SqL.of aZ⟩,?_⟩
 refine e8 (xs:=aS) (λi j H'=>Same H1 H'/\Paired (PrO C K H') ((I.take i).filter λy=>!decide (y.1=x)) j) ⟨Same.refl _,.nil⟩ (ja ω) (λi j O _ g=>SqL.of (g.1 _ _ aZ)) ?_ ?_
 .rintro i u j O hu ⟨s2,py⟩
  obtain ⟨y,ey,ry⟩:=b0.get hu
  have b5:=ry.keep L.ne (bO s2)
  have e:I.take (i+1)=I.take i++[y]:=by
   rw [Ţ,ey]
   rfl
  obtain ⟨a,pu,lu,rfl,ta,cp,lo⟩:=id b5
  refine ⟨_,ϱ,a,_,_,_,ϱ,ϱ,ta.sq,ϱ,_,ϱ,y.1,x,cp,cPa.keep (s1.trans s2).ts hx,_,ϱ,?_⟩
  by_cases ex:y.1=x
  .rw [τ ex]
   refine aU ⟨s2,?_⟩
   rw [e,Ű]
   simp only [List.filter_cons,List.filter_nil,decide_eq_true ex,Bool.not_true,Bool.false_eq_true,if_false,List.append_nil]
   exact py
  .rw [Γ ex]
   refine cr ⟨_,ϱ,s2,?_⟩
   rw [e,Ű]
   simp only [List.filter_cons,List.filter_nil,decide_eq_false ex,Bool.not_false,if_true]
   exact py.app (.cons b5 .nil)
 rintro j O ⟨s2,py⟩ G aR
 rw [show aS.length=I.length from a8.symm,Ŭ] at py
 have ab:=s1.trans s2
 have np:l≠G:=aq (s2 _ _ X) aR
 refine ⟨_,ϱ,l,CL,d,_,ϱ,(by rw [am np];exact s2 _ _ X),L.cl,L.nP,(by show 1<1000;decide),?_⟩
 rw [CP]
 have ak:Kp l O (upd (upd O G (.lst j)) l (.ins CL d [("pairs",.ref G)])):=(Kp.of (af aR)).trans bn
 have ap:FSame CL O (upd (upd O G (.lst j)) l (.ins CL d [("pairs",.ref G)])):=ak.fsi (s2 _ _ X)
 have Y:LS C CL K (upd (upd O G (.lst j)) l (.ins CL d [("pairs",.ref G)])) l G (bu I x):=⟨d,j,ae,by rw [am (Ne.symm np),ae],pp py λ_ _ g=>g.keep L.ne ap⟩
 have bP:w0≠l:=λz=>by
  rw [z] at hw
  rw [X] at hw
  cases hw
 have ar:=ak w0 _ bP (s2 _ _ hw)
 have Z:Kp l H (upd (upd O G (.lst j)) l (.ins CL d [("pairs",.ref G)])):=(Kp.of ab).trans ak
 have a3:FSame CL H (upd (upd O G (.lst j)) l (.ins CL d [("pairs",.ref G)])):=(bO ab).trans ap
 have a4:FSame CL H1 (upd (upd O G (.lst j)) l (.ins CL d [("pairs",.ref G)])):=(bO s2).trans ap
 have bS:H G=none:=ab.free aR
 generalize (upd (upd O G (.lst j)) l (HO.ins CL d [("pairs",V.ref G)]))=H3 at Y ar Z a3 a4 ⊢
 have b6:(bu I x).length<=1000:=Λ (Ų _ _) hz
 obtain ⟨bI,cz,b3,b4,cF⟩:=id Y
 refine ⟨_,ϱ,l,bI,_,ϱ,b3,gi θ,l,G,bu I x,ϱ,Y,b6,λw1 H4 as s4 d3 bi av=>⟨w1,ϱ,⟨_,SqL.of bi⟩,?_⟩⟩
 have c0:as.length<=1000:=by
  rw [← av.len]
  exact Λ (gc _) b6
 refine e8 (xs:=as) (λi j H'=>Same H4 H'/\Paired (cPa.rp K H') (((aN (bu I x)).take i).map (·.1)) j) ⟨Same.refl _,.nil⟩ (ja c0) (λi j O _ g=>SqL.of (g.1 _ _ bi)) ?_ ?_
 .rintro i u j H5 hu ⟨s5,a2⟩
  obtain ⟨y,ey,ry⟩:=av.get hu
  obtain ⟨a,pu,lu,rfl,ta,cp,lo⟩:=ry.keep L.ne (bO s5)
  refine jr ⟨_,ϱ,a,_,_,_,ϱ,ϱ,ta.sq,ϱ,s5,?_⟩
  have e:(aN (bu I x)).take (i+1)=(aN (bu I x)).take i++[y]:=by
   rw [Ţ,ey]
   rfl
  rw [e,ſ]
  exact a2.app (.cons cp .nil)
 rintro a1 H5 ⟨s5,a2⟩ st bp
 rw [show as.length=(aN (bu I x)).length from av.len.symm,Ŭ] at a2
 have D:=s4.trans (s5.trans (af (o:=.lst a1) bp))
 have a5:(upd H5 st (.lst a1)) st=some (.lst a1):=ae
 have ba:=pp a2 λa b (g:cPa.rp K H5 a b)=>cPa.keep (af (o:=.lst a1) bp).ts g
 generalize (upd H5 st (HO.lst a1))=H6 at D a5 ba ⊢
 refine ⟨_,ϱ,w0,ϱ,⟨_,SqL.of (D _ _ ar)⟩,?_⟩
 have c1:us.length<=1000:=by
  rw [← pw.len]
  exact Λ (gc _) hz
 refine e8 (xs:=us) (λi j H'=>Same H6 H'/\Paired (cPa.rp K H') ((((aN I).take i).filter λy=>!decide (y.1=x)&&!decide (y.1∈(aN (bu I x)).map (·.1))).map (·.1)) j) ⟨Same.refl _,.nil⟩ (ja c1) (λi j O _ g=>SqL.of (g.1 _ _ (D _ _ ar))) ?_ ?_
 .rintro i u j H7 hu ⟨W,U⟩
  obtain ⟨y,ey,ry⟩:=pw.get hu
  obtain ⟨a,pu,lu,rfl,ta,cp,lo⟩:=ry.keep L.ne (a4.trans (bO (D.trans W)))
  have e:(aN I).take (i+1)=(aN I).take i++[y]:=by
   rw [Ţ,ey]
   rfl
  refine ⟨_,ϱ,a,_,_,_,ϱ,ϱ,ta.sq,ϱ,_,ϱ,y.1,x,cp,cPa.keep (a3.trans (bO (D.trans W))).ts hx,_,ϱ,?_⟩
  by_cases ex:y.1=x
  .rw [τ ex]
   refine aU (aU ⟨W,?_⟩)
   rw [e,Ű,ſ]
   simp only [List.filter_cons,List.filter_nil,decide_eq_true ex,Bool.not_true,Bool.false_and,Bool.false_eq_true,if_false,List.map_nil,List.append_nil]
   exact U
  rw [Γ ex]
  refine cr ⟨_,ϱ,a,_,_,_,ϱ,ϱ,ta.sq,ϱ,_,ϱ,y.1,st,_,_,cp,ϱ,.inl (SqL.of (W _ _ a5)),pp ba (λ_ _ g=>cPa.keep W.ts g),_,ϱ,?_⟩
  by_cases em:y.1∈(aN (bu I x)).map (·.1)
  .refine bD (λc=>absurd em (by simpa only [Bool.not_eq_true',decide_eq_false_iff_not] using c)) (λ_=>⟨W,?_⟩)
   rw [e,Ű,ſ]
   simp only [List.filter_cons,List.filter_nil,decide_eq_true em,Bool.not_true,Bool.and_false,Bool.false_eq_true,if_false,List.map_nil,List.append_nil]
   exact U
  .refine bD (λ_=>?_) (λc=>absurd (by simpa only [Bool.not_eq_true',decide_eq_false_iff_not] using em) c)
   refine ⟨_,ϱ,a,_,_,_,ϱ,ϱ,ta.sq,ϱ,W,?_⟩
   rw [e,Ű,ſ]
   simp only [List.filter_cons,List.filter_nil,decide_eq_false em,decide_eq_false ex,Bool.not_false,Bool.and_true,if_true,List.map_cons,List.map_nil]
   exact U.app (.cons cp .nil)
 .rintro bt H7 ⟨W,U⟩ r J
  rw [show us.length=(aN I).length from pw.len.symm,Ŭ] at U
  have s8:=af (o:=.lst bt) J
  have bd:=D.trans (W.trans s8)
  refine q r G _ bt (Y.keep L.ne bd) bS (Z.trans (Kp.of bd)) ?_ (by obtain ⟨_,_,_,b4,_⟩:=id Y;exact Ne.symm (aq ((D.trans W) _ _ b4) J)) ae (pp U λ_ _ g=>cPa.keep s8.ts g)
  cases z:H r with
  | none=>rfl
  | some o =>
   by_cases hrl:r=l
   .rw [hrl] at J
    rw [(D.trans W) _ _ b3] at J
    cases J
   .rw [(D.trans W) _ _ (Z r o hrl z)] at J
    cases J
structure Sx where
 (cells:ù)(wk:à Pa)(rd:Option é)(rc:à Pa)(en:à (Pa×Str))
def dOf(p:Pa):Option é->List (List Key×V)
 | none=>[]
 | some a=>[(pk p,.ref a)]
def zN(p:Pa)(x:Option é):aY (dOf p x) (pk p)=x.map V.ref:=by
 cases x with
 | none=>rfl
 | some a=>exact bF rfl
def z8(k:List Key)(v:V):bZ [] k v=[(k,v)]:=il _ rfl
def stL(p:Pa)(A:Ad)(d:Sx):Cs:=[(A.cl,.lst (d.cells.map V.int)),(A.wk,.dT (dW d.wk)),(A.rd,.dT (dOf p d.rd)),(A.en,.dT (dE d.en))]
def PaA(H:Hp)(p:Pa)(a:é):Prop:=H a=some (.tup [.int p.1,.int p.2])
def ChT(K:ä)(H:Hp)(ch:à Pa)(v:V):Prop:=∃d us,v=.ref d/\(H d=some (.tup us)\/∃o,H d=some (.frz o (.tup us)))/\Paired (sPa K H) ch us
def ChT.keep{H H':Hp}{ch:à Pa}{v:V}(e:ImS CH CL H H')(h:ChT K H ch v):ChT K H' ch v:=by
 obtain ⟨d,b,rfl,h1,f⟩:=h
 exact ⟨d,b,ϱ,h1.imp (λz=>e _ _ z ϰ) (λ⟨o,z⟩=>⟨o,e _ _ z ϰ⟩),Paired.mapP f λ_ _ z=>z.keep e.ts⟩
structure Si(CS:é)(K:ä)(H:Hp)(p:Pa)(A:Ad)(d:Sx):Prop where
 ins:H A.l=some (.ins CS A.dx (sf A))
 rdy:∀r,d.rd=some r->∃a b c cv,H r=some (.tup [.str "ready",.ref a,b,c,cv])/\PaA H p a/\ChT K H d.rc cv
structure Sa(CS:é)(K:ä)(H:Hp)(p:Pa)(A:Ad)(d:Sx):Prop extends Si CS K H p A d where
 co:∀x∈stL p A d,H x.1=some x.2
def Bm(A:Ad):sf A≠[]:=λz=>by
 have:=u5 A
 rw [z] at this
 cases this
section
variable {N:û}{H0 H H':Hp}{L R:Cs}{p:Pa}{A:Ad}{d:Sx}{x y u:Addr×HO}
def Si.im(h:Si CS K H p A d)(t:∀b o,H b=some o->Im CH CL o->H' b=some o)(c:CS≠CH/\CS≠CL):Si CS K H' p A d :=
 ⟨t _ _ h.ins ⟨Bm A,c⟩,λr e=>let ⟨a,b,c,cv,h1,h0,h2⟩:=h.rdy r e;⟨a,b,c,cv,t _ _ h1 ϰ,t _ _ h0 ϰ,h2.keep t⟩⟩
def Si.keep(h:Si CS K H p A d)(e:Same H H'):Si CS K H' p A d:=⟨e _ _ h.ins,λr q=>let ⟨a,b,c,cv,h1,h0,h2⟩:=h.rdy r q;⟨a,b,c,cv,e _ _ h1,e _ _ h0,h2.keep (CH:=CS) (CL:=CS) (cR e)⟩⟩
def Sa.keep(h:Sa CS K H p A d)(e:Same H H'):Sa CS K H' p A d:=⟨h.toSi.keep e,λx hx=>e _ _ (h.co x hx)⟩
def Sa.cl(h:Sa CS K H p A d):H A.cl=some (.lst (d.cells.map V.int)):=h.co _ j0
def Sa.rdd(h:Sa CS K H p A d):H A.rd=some (.dT (dOf p d.rd)):=h.co _ j2
def Sa.en(h:Sa CS K H p A d):H A.en=some (.dT (dE d.en)):=h.co _ j3
def Bw(g:Ow CH CL N H0 H (x::y::u::(stL p A d++R)))(i:Si CS K H p A d):Sa CS K H p A d:=⟨i,λu hu=>g.co u (.tail _ (.tail _ (.tail _ (ź _ hu))))⟩
def Cn(g:Ow CH CL N H0 H (stL p A d++R))(i:Si CS K H p A d):Sa CS K H p A d:=⟨i,λu hu=>g.co u (ź _ hu)⟩
end
inductive Rx where
 | work (y:Pa) | rdy (ch:à Pa) | fin (y:Pa) (o:Str)
def RxAt(K:ä)(H:Hp)(p:Pa)(r:é):Rx->Prop
 | .work y=>∃pa,H r=some (.tup [.str "work",.ref pa])/\PaA H y pa
 | .rdy ch=>∃pa b c cv,H r=some (.tup [.str "ready",.ref pa,b,c,cv])/\PaA H p pa/\ChT K H ch cv
 | .fin y o=>∃pa e,H r=some (.tup [.str "end",.ref pa,.str o,e])/\PaA H y pa/\(y≠p->decide (o=("done":Str))=false)
def RxAt.keep{H H':Hp}{p:Pa}{r:é}{w:Rx}(e:ImS CH CL H H')(h:RxAt K H p r w):RxAt K H' p r w:=by
 cases w with
 | work y=>obtain ⟨d,h1,f⟩:=h;exact ⟨d,e _ _ h1 ϰ,e _ _ f ϰ⟩
 | rdy ch=>obtain ⟨d,b,c,i,h1,f,g⟩:=h;exact ⟨d,b,c,i,e _ _ h1 ϰ,e _ _ f ϰ,g.keep e⟩
 | fin y o=>obtain ⟨d,v,h1,f,g⟩:=h;exact ⟨d,v,e _ _ h1 ϰ,e _ _ f ϰ,g⟩
def Sx.chs(d:Sx):Rx->à Pa
 | .fin _ o=>if o="done"/\d.rd.isSome=true then d.rc else []
 | _=>[]
def Sx.kp(d:Sx)(r:é):Rx->Sx
 | .work y=>⟨d.cells,rB d.wk y,d.rd,d.rc,d.en⟩
 | .rdy ch=>⟨d.cells,d.wk,some r,ch,d.en⟩
 | .fin y o=>⟨apply d.cells (d.chs (.fin y o)),d.wk,d.rd,d.rc,d.en++[(y,o)]⟩
structure Sx.fits(d:Sx)(w:Rx):Prop where
 ch:∀c∈d.chs w,0<=c.1/\c.1<d.cells.length
 rd:∀ch,w=.rdy ch->d.rd=none
 en:∀y o,w=.fin y o->sN d.en y=none
 le:d.en.length<=60
 lw:d.wk.length<=60
def NwAt(K:ä)(H:Hp)(es:à (Pa×Str))(v:V):Prop:=∃t ys,v=.ref t/\H t=some (.tup ys)/\Paired (sPS K H) es ys
def NwAt.keep{H H':Hp}{es:à (Pa×Str)}{v:V}(e:TSame H H')(h:NwAt K H es v):NwAt K H' es v:=by
 obtain ⟨t,b,rfl,h1,d⟩:=h
 exact ⟨t,b,ϱ,e _ _ h1,Paired.mapP d λ_ _ z=>z.keep e⟩
section
variable (CS CH CL:é)(K:ä)
inductive qw (vs:à V) (H:Hp) (Q:VK) (E:XK):Prop|mk l dx c cs:vs=[.ref l,.ref c]->H l=some (.ins CS dx [])->H c=some (.lst ((cs:ù).map V.int))->(∀A H',A.l=l->H' l=some (.ins CS A.dx (sf A))->(∀p,Ow CH CL [l] H H' (stL p A ⟨cs,[],none,[],[]⟩))->Q .non H')->qw vs H Q E
inductive xt (vs:à V) (H:Hp) (Q:VK) (E:XK):Prop|mk p A d r w:vs=[.ref A.l,.ref r]->Sa CS K H p A d->RxAt K H p r w->(∀v H',Same H H'->ChT K H' (d.chs w) v->Q v H')->xt vs H Q E
inductive tN (vs:à V) (H:Hp) (Q:VK) (E:XK):Prop|mk p A d r w x y u R:vs=[.ref A.l,.ref r]->Ow CH CL (ad (x::y::u::(stL p A d++R))) H H (x::y::u::(stL p A d++R))->Si CS K H p A d->RxAt K H p r w->d.fits w->(∀H',Ow CH CL (ad (x::y::u::(stL p A d++R))) H H' (x::y::u::(stL p A (d.kp r w)++R))->Si CS K H' p A (d.kp r w)->Q .non H')->tN vs H Q E
inductive jx (vs:à V) (H:Hp) (Q:VK) (E:XK):Prop|mk A j c:∀(cs:ù),vs=[.ref A.l,.int (j:Nat)]->H A.l=some (.ins CS A.dx (sf A))->H A.cl=some (.lst (cs.map V.int))->cs[j]?=some c->Q (.int c) H->jx vs H Q E
inductive mr (vs:à V) (H:Hp) (Q:VK) (E:XK):Prop|mk p A d:vs=[.ref A.l]->Sa CS K H p A d->(∀q H',Same H H'->H q=none->H' q=some (.lst (d.cells.map V.int))->Q (.ref q) H')->mr vs H Q E
inductive qz (vs:à V) (H:Hp) (Q:VK) (E:XK):Prop|mk p A d:vs=[.ref A.l]->Sa CS K H p A d->d.en.length<=62->(∀v H',Same H H'->NwAt K H' (cu ltE d.en) v->Q v H')->qz vs H Q E
inductive mv (vs:à V) (H:Hp) (Q:VK) (E:XK):Prop|mk p A d:vs=[.ref A.l]->Sa CS K H p A d->d.en=[]->(∀l H',Same H H'->H l=none->H' l=some (.lst (d.rd.toList.map V.ref))->Q (.ref l) H')->mv vs H Q E
end
def sq{t u:TS}{D:Ends}{σ:L2.St}{H:Hp}(h:∀nx,(∀σ H,u D σ H->nx σ H)->t {D with nx:=nx} σ H):Dz t u D σ H:=h _ λ_ _ z=>z
def iq{X:Cx}{st:à â}{t u:TS}(h:PSs X st t)(hw:∀D σ H,u D σ H->t D σ H):PSs X st u:=rR u h hw
def wj(F:Fun K "__init__" "Stand.__init__" gL f fd)(B:TxB mg)(D:TxD K CS):FnOk P w K mg base CX0 1 f fd ["self","cells"] (qw CS CH CL):=by
 refine F.oj oZ λap A i s H vs Q E hr h=>?_
 obtain ⟨l,b,c,y,rfl,C,G,q⟩:=h
 refine ⟨_,ah (aT (pv 0) (aP gT rfl B.list PyProof.Rows.boot_list (ac (pv 1) ag)) rfl)
  (ah (aT (pv 0) (c7 ag) rfl) (ah (aT (pv 0) c8 rfl) (ah (aT (pv 0) c8 rfl) (ah (aT (pv 0) c8 rfl) (ah (aT (pv 0) c8 rfl) (aj (aT (pv 0) c8 rfl))))))),?_⟩
 have g0:Ow CH CL [l] H H [(l,.ins CS b [])]:=.mk0 (L:=[(l,.ins CS b [])]) (λx j=>by rw [List.mem_singleton.mp j];exact C) (by simp [ad]) (λx j=>by rw [List.mem_singleton.mp j];exact λz=>z.1 rfl)
 refine ⟨_,ϱ,c,_,ϱ,.inl (SqL.of G),λcl n1=>?_⟩
 obtain ⟨I,g1⟩:=g0.fld n1 (.lst (y.map V.int)) (ax "cells" (.ref cl) [])
 refine ⟨_,ϱ,l,CS,b,_,ϱ,I,D.cl,D.nc,(by show 0<1000;decide),χ,λd n2=>?_⟩
 obtain ⟨J,O⟩:=g1.fld n2 (.lst []) (ax "begins" (.ref d) (ax "cells" (.ref cl) []))
 refine ⟨_,ϱ,l,CS,b,_,ϱ,J,D.cl,D.nb,(bo (n:=999) (by show 0<999;decide)),λe n3=>?_⟩
 obtain ⟨U,W⟩:=O.fld n3 (.dT []) (ax "worked" (.ref e) (ax "begins" (.ref d) (ax "cells" (.ref cl) [])))
 refine ⟨_,ϱ,l,CS,b,_,ϱ,U,D.cl,D.nw,(bo (n:=999) (bo (n:=998) (by show 0<998;decide))),λg n4=>?_⟩
 obtain ⟨X,Y⟩:=W.fld n4 (.dT []) (ax "readies" (.ref g) (ax "worked" (.ref e) (ax "begins" (.ref d) (ax "cells" (.ref cl) []))))
 refine ⟨_,ϱ,l,CS,b,_,ϱ,X,D.cl,D.nr,(bo (n:=999) (bo (n:=998) (bo (n:=997) (by show 0<997;decide)))),λen n5=>?_⟩
 obtain ⟨Z,g5⟩:=Y.fld n5 (.dT []) (ax "ends" (.ref en) (ax "readies" (.ref g) (ax "worked" (.ref e) (ax "begins" (.ref d) (ax "cells" (.ref cl) [])))))
 refine ⟨_,ϱ,l,CS,b,_,ϱ,Z,D.cl,D.ne,(bo (n:=999) (bo (n:=998) (bo (n:=997) (bo (n:=996) (by show 0<996;decide))))),λo n6=>?_⟩
 obtain ⟨a6,g6⟩:=g5.fld n6 (.dT []) (ax "walks" (.ref o) (ax "ends" (.ref en) (ax "readies" (.ref g) (ax "worked" (.ref e) (ax "begins" (.ref d) (ax "cells" (.ref cl) []))))))
 refine ⟨_,ϱ,l,CS,b,_,ϱ,a6,D.cl,D.na,(bo (n:=999) (bo (n:=998) (bo (n:=997) (bo (n:=996) (bo (n:=995) (by show 0<995;decide)))))),λu n7=>?_⟩
 obtain ⟨a7,r⟩:=g6.fld n7 (.dT []) (sf ⟨l,b,cl,d,e,g,en,o,u⟩)
 refine ⟨_,ϱ,l,CS,b,_,ϱ,a7,D.cl,D.no,(bo (n:=999) (bo (n:=998) (bo (n:=997) (bo (n:=996) (bo (n:=995) (bo (n:=994) (by show 0<994;decide))))))),?_⟩
 exact q ⟨l,b,cl,d,e,g,en,o,u⟩ _ rfl (r.co _ (.head _)) λp=>r.sub (.cons _ (.cons₂ _ (.cons _ (.cons₂ _ (.cons₂ _ (.cons₂ _ (.cons _ (.cons _ .slnil))))))))
def fu{a b:Str}(h:decide (a=b)=false):decide (V.str a=V.str b)=false:=Γ λz=>ē h (V.str.inj z)
def CF(F:Fun K "changes_of" "Stand.changes_of" cU f fd)(D:TxD K CS):FnOk P w K mg base CX0 1 f fd ["self","row"] (xt CS K):=by
 refine F.oj iV λa2 A O s H vs Q E X h=>?_
 obtain ⟨p,S,d,r,w,rfl,G,L,q⟩:=h
 refine ⟨_,ah (aJ (PW.pt (gy (az bK (ay (r:=a9 K) aC (pv 1) ai (λ_ _=>rfl)) aD (aA _)) (gy (az bK (ay (r:=a9 K) aC (pv 1) ai (λ_ _=>rfl)) aD (aA _)) (fF (ip (qS (cE X) (ay (r:=a9 K) aC (pv 1) ai (λ_ _=>rfl)) (au (pv 0) rfl)))))))
   (aj (aw (ay (r:=a9 K) aC (dQ (cE X) (au (pv 0) rfl) (ay (r:=a9 K) aC (pv 1) ai (λ_ _=>rfl)) (λ_ _=>rfl)) ai (λ_ _=>rfl)))) aB)
  (iq (u:=λD σ U=>∃Y J,σ=[some (.ref S.l),some (.ref r)]/\U r=some (.tup (.str J::Y))/\decide (J=("walked":Str))=false/\decide (J=("undone":Str))=false/\∀v H2,Same U H2->ChT K H2 [] v->D.rt v H2)
   (ah (aJ (PW.pt (pP (az bK (ay (r:=a9 K) aC (pv 1) ai (λ_ _=>rfl)) aD (aA _)) (kq (az bK (ay (r:=a9 K) aC (pv 1) ai (λ_ _=>rfl)) aD (aA _))))) aH aB)
  (aj (aw (aL ag)))) ?v),?_⟩
 case v =>
  rintro D σ U ⟨Y,J,rfl,C,w1,w2,q⟩
  refine ⟨_,ϱ,r,_,_,_,ϱ,ϱ,SqT.of C,at0,ϱ,_,ϱ,?_⟩
  rw [fu w1]
  refine aU ⟨_,ϱ,r,_,_,_,ϱ,ϱ,SqT.of C,at0,ϱ,_,ϱ,?_⟩
  rw [fu w2]
  exact aU ⟨χ,λt ht=>q _ _ (af ht) ⟨t,[],ϱ,.inl ae,.nil⟩⟩
 cases w with
 | work y =>
  obtain ⟨W,g,i⟩:=L
  refine ⟨_,ϱ,r,_,_,_,ϱ,ϱ,SqT.of g,at0,ϱ,_,ϱ,?_⟩
  rw [fu θ]
  exact aU (aU ⟨_,_,ϱ,g,θ,θ,q⟩)
 | rdy ch =>
  obtain ⟨W,b,c,Z,g,_⟩:=L
  refine ⟨_,ϱ,r,_,_,_,ϱ,ϱ,SqT.of g,at0,ϱ,_,ϱ,?_⟩
  rw [fu θ]
  exact aU (aU ⟨_,_,ϱ,g,θ,θ,q⟩)
 | fin y o =>
  obtain ⟨W,e,g,i,ho⟩:=L
  refine ⟨_,ϱ,r,_,_,_,ϱ,ϱ,SqT.of g,at0,ϱ,_,ϱ,bD (λ_=>?_) (λc=>absurd (τ rfl) c)⟩
  refine ⟨_,ϱ,r,_,_,_,ϱ,ϱ,SqT.of g,at2,ϱ,_,ϱ,?_⟩
  by_cases eo:o="done"
  .obtain rfl:y=p:=Classical.byContradiction λz=>ē (ho z) eo
   refine bD (λ_=>?_) (λc=>absurd (τ (congrArg V.str eo)) c)
   have I:=DGet.t (k:=pk y) G.rdd i
   refine ⟨_,ϱ,r,_,_,_,ϱ,ϱ,SqT.of g,at1,_,ϱ,S.l,CS,S.dx,_,_,ϱ,G.ins,D.cl,D.nr,rL S,S.rd,_,ϱ,I,_,ϱ,?_⟩
   rw [zN] at I ⊢
   cases er:d.rd with
   | some x =>
    have j:d.chs (.fin y o)=d.rc:=Ź ⟨eo,by rw [er];rfl⟩
    rw [j] at q
    rw [er] at I
    obtain ⟨a,b,c,Z,h1,_,h2⟩:=G.rdy x er
    exact cr ⟨_,ϱ,S.l,CS,S.dx,_,_,ϱ,G.ins,D.cl,D.nr,rL S,_,ϱ,r,_,_,_,ϱ,ϱ,SqT.of g,at1,S.rd,.ref x,ϱ,I,x,_,_,_,ϱ,ϱ,SqT.of h1,ϱ,q _ H (Same.refl H) h2⟩
   | none =>
    have j:d.chs (.fin y o)=[]:=ž λz=>by rw [er] at z;cases z.2
    rw [j] at q
    exact aU ⟨_,_,ϱ,g,θ,θ,q⟩
  .have j:d.chs (.fin y o)=[]:=ž λz=>eo z.1
   rw [j] at q
   rw [fu (Γ eo)]
   exact aU (aU ⟨_,_,ϱ,g,θ,θ,q⟩)
def Av(F:Fun K "keep" "Stand.keep" gK f fd)(D:TxD K CS)(hc:CS≠CH/\CS≠CL)(GC:GM P w K mg base CX0 1 CS "changes_of" ["self","row"] (xt CS K)):FnOk P w K mg base CX0 2 f fd ["self","row"] (tN CS CH CL K):=by
 refine F.oj sc_Stand_keep λbt A aR s H vs Q E hr h=>?_
 obtain ⟨p,S,d,r,w,x,y,u,R,rfl,g,si,hx,L,q⟩:=h
 have nd:=sc_Stand_keep.nd
 refine ⟨_,ah (gz ō rfl (Cf (pm GC (pv 0) D.cl hr (ac (pv 1) ag))) (bU (i:=2) nd rfl (Or.inl rfl)) (aj (xO (ay (r:=a9 K) aC (pv 2) ai (λ_ _=>rfl)) (Ch (au (pv 0) rfl) (ay (r:=a9 K) aC (pv 2) ai (λ_ _=>rfl)) xz))))
  (ah (aG (i:=3) nd rfl (Or.inl rfl) (ay (r:=a9 K) aC (pv 1) ai (λ_ _=>rfl)))
  (aj (aJ (az bK (ay (r:=a9 K) aC (pv 1) ai (λ_ _=>rfl)) aD (aA _)) aH
  (aj (aJ (az bK (ay (r:=a9 K) aC (pv 1) ai (λ_ _=>rfl)) aD (aA _)) (aj (gB (cE hr) (au (pv 0) rfl) (pv 3) rZ rfl))
  (aj (aJ (az bK (ay (r:=a9 K) aC (pv 1) ai (λ_ _=>rfl)) aD (aA _)) (aj (gB (cE hr) (au (pv 0) rfl) (pv 3) (pv 1) rfl))
  (aj (aJ (az bK (ay (r:=a9 K) aC (pv 1) ai (λ_ _=>rfl)) aD (aA _)) (aj (aQ (vg (cE hr) (au (pv 0) rfl) (pv 3) (ay (r:=a9 K) aC (pv 1) ai (λ_ _=>rfl)) ⟨ϱ,ϱ,ϱ,ϱ⟩)))
  (aj (aJ (az bK (ay (r:=a9 K) aC (pv 1) ai (λ_ _=>rfl)) aD (aA _)) aH aH))))))))))),?_⟩
 refine sq λnA kA=>⟨_,ϱ,S.l,S.dx,_,ϱ,si.ins,jz θ,_,ϱ,p,S,d,r,w,ϱ,Bw g si,hx,λv H1 s1 W=>?_⟩
 obtain ⟨dc,a0,rfl,ab,a1⟩:=W
 have a3:∀{Z},ImS CH CL H1 Z->SqT K Z dc a0:=λe=>ab.elim (λz=>SqT.of (e _ _ z ϰ)) λ⟨o,z⟩=>.inl (.inr ⟨o,e _ _ z ϰ⟩)
 refine ⟨dc,ϱ,⟨_,a3 (cR (Same.refl _))⟩,?_⟩
 have a4:=a1.len
 have g1:=g.same s1
 refine A1 (xs:=a0) (λi σ Z=>∃x2 x3,σ=[some (.ref S.l),some (.ref r),x2,x3]/\Ow CH CL (ad (x::y::u::(stL p S d++R))) H Z (x::y::u::(stL p S ⟨apply d.cells ((d.chs w).take i),d.wk,d.rd,d.rc,d.en⟩++R))/\ImS CH CL H1 Z) ⟨none,none,ϱ,g1,cR (Same.refl _)⟩
  (λi σ Z _ q=>by obtain ⟨_,_,_,_,k⟩:=q;exact a3 k) ?_ ?_
 .rintro i u0 σ U hu ⟨x2,x3,rfl,C,t2⟩
  obtain ⟨c,ec,rc⟩:=a1.get hu
  obtain ⟨ca,rfl,a2⟩:=rc.keep t2.ts
  obtain ⟨f1,f2⟩:=L.ch c (Ŵ ec)
  have ap:((apply d.cells ((d.chs w).take i)).map V.int).length=d.cells.length:=by rw [ν,qm]
  refine ⟨_,ϱ,ca,_,_,_,ϱ,ϱ,SqT.of a2,ϱ,_,ϱ,S.l,CS,S.dx,_,_,ϱ,(si.im C.im hc).ins,D.cl,D.nc,u5 S,_,ϱ,ca,_,_,_,ϱ,ϱ,SqT.of a2,ϱ,S.cl,_,c.1,c.1.toNat,ϱ,ϱ,C.co _ j3,?_,?_⟩
  .rw [ap]
   exact C5 f1 f2
  .have e:(d.chs w).take (i+1)=(d.chs w).take i++[c]:=by rw [Ţ,ec];rfl
   have e3:((apply d.cells ((d.chs w).take i)).map V.int).set c.1.toNat (.int c.2)=(apply d.cells ((d.chs w).take (i+1))).map V.int:=by rw [e,uG,List.map_set]
   rw [e3]
   have g3:=C.up 3 (.lst ((apply d.cells ((d.chs w).take (i+1))).map V.int)) rfl
   have e4:U S.cl=some (.lst _):=C.co _ j3
   exact ⟨_,_,ϱ,g3,t2.trans (cJ bn e4 id)⟩
 .rintro σ U ⟨x2,x3,rfl,C,t2⟩
  rw [← a4,Ŭ] at C
  have I:=si.im C.im hc
  have X:=hx.keep C.im
  refine kA _ _ (sq λnB kB=>?_)
  cases w with
  | work y0 =>
   obtain ⟨pa,j,G⟩:=X
   refine ⟨_,ϱ,r,_,_,_,ϱ,ϱ,SqT.of j,at1,kB _ _ ⟨_,ϱ,r,_,_,_,ϱ,ϱ,SqT.of j,at0,ϱ,_,ϱ,?_⟩⟩
   rw [fu θ]
   refine aU ⟨_,ϱ,r,_,_,_,ϱ,ϱ,SqT.of j,at0,ϱ,_,ϱ,bD (λ_=>?_) (λc=>absurd (τ rfl) c)⟩
   have a5:U S.wk=some (.dT (dW d.wk)):=C.co _ j4
   refine ⟨_,ϱ,S.l,CS,S.dx,_,_,ϱ,I.ins,D.cl,D.nw,DQ S,_,ϱ,S.wk,_,ϱ,DPut.t (k:=pk y0) a5 G (fe (by unfold dW;rw [List.length_map];exact Nat.le_trans L.lw ζ)),?_⟩
   rw [Ce]
   have g3:=C.up 4 (.dT (dW (rB d.wk y0))) rfl
   have J:ImS CH CL U (upd U S.wk (.dT (dW (rB d.wk y0)))):=cJ bn a5 id
   have O:=I.im J hc
   exact q _ g3 ⟨O.ins,O.rdy⟩
  | rdy ch =>
   obtain ⟨pa,b,c,cv,j,G,W⟩:=X
   have er:=L.rd ch rfl
   refine ⟨_,ϱ,r,_,_,_,ϱ,ϱ,SqT.of j,at1,kB _ _ ⟨_,ϱ,r,_,_,_,ϱ,ϱ,SqT.of j,at0,ϱ,_,ϱ,?_⟩⟩
   rw [fu θ]
   refine aU ⟨_,ϱ,r,_,_,_,ϱ,ϱ,SqT.of j,at0,ϱ,_,ϱ,?_⟩
   rw [fu θ]
   refine aU ⟨_,ϱ,r,_,_,_,ϱ,ϱ,SqT.of j,at0,ϱ,_,ϱ,bD (λ_=>?_) (λc=>absurd (τ rfl) c)⟩
   have Y:U S.rd=some (.dT []):=by have:=C.co _ j5;rw [er] at this;exact this
   refine ⟨_,ϱ,_,ϱ,S.l,CS,S.dx,_,_,ϱ,I.ins,D.cl,D.nr,rL S,_,ϱ,S.rd,_,ϱ,DPut.t (k:=pk p) Y G ζ,?_⟩
   rw [z8]
   have J:ImS CH CL U (upd U S.rd (.dT [(pk p,.ref r)])):=cJ bn Y id
   have O:=I.im J hc
   exact q _ (C.up 5 _ rfl) ⟨O.ins,λr' e=>by cases e;exact ⟨_,b,c,cv,J _ _ j ϰ,J _ _ G ϰ,W.keep J⟩⟩
  | fin y o =>
   obtain ⟨pa,e,j,G,_⟩:=X
   have er:=L.en y o rfl
   refine ⟨_,ϱ,r,_,_,_,ϱ,ϱ,SqT.of j,at1,kB _ _ ⟨_,ϱ,r,_,_,_,ϱ,ϱ,SqT.of j,at0,ϱ,_,ϱ,?_⟩⟩
   rw [fu θ]
   refine aU ⟨_,ϱ,r,_,_,_,ϱ,ϱ,SqT.of j,at0,ϱ,_,ϱ,?_⟩
   rw [fu θ]
   refine aU ⟨_,ϱ,r,_,_,_,ϱ,ϱ,SqT.of j,at0,ϱ,_,ϱ,?_⟩
   rw [fu θ]
   refine aU ⟨_,ϱ,r,_,_,_,ϱ,ϱ,SqT.of j,at0,ϱ,_,ϱ,bD (λ_=>?_) (λc=>absurd (τ rfl) c)⟩
   have Y:U S.en=some (.dT (dE d.en)):=C.co _ j6
   have av:aY (dE d.en) (pk y)=none:=by rw [BK,er];rfl
   have e2:dE d.en++[(pk y,V.str o)]=dE (d.en++[(y,o)]):=by unfold dE;rw [List.map_append];rfl
   refine ⟨_,ϱ,S.l,CS,S.dx,_,_,ϱ,I.ins,D.cl,D.ne,xy S,S.en,ϱ,.inr ⟨_,.inl Y⟩,_,ϱ,_,ϱ,r,_,_,_,ϱ,ϱ,SqT.of j,at2,_,pk y,pa,Y,ϱ,G,(by unfold dE;rw [List.length_map];exact fe (Nat.le_trans L.le ζ)),(λv hv=>by rw [av] at hv;cases hv),λ_=>?_⟩
   rw [e2]
   exact q _ (C.up 6 _ rfl) (let i:=I.im (cJ bn Y id) hc;⟨i.ins,i.rdy⟩)
def wq(F:Fun K "cell_at" "Stand.cell_at" eM f fd)(D:TxD K CS):FnOk P w K mg base CX0 1 f fd ["self","cell"] (jx CS):=by
 refine F.oj ka λi A b s H vs Q E u h=>?_
 obtain ⟨S,j,c,o,rfl,d,e,g,q⟩:=h
 refine ⟨_,aj (aw (ay (r:=cH K) aI (au (pv 0) rfl) (pv 1) (λ_ _=>rfl))),?_⟩
 exact ⟨_,ϱ,S.l,CS,S.dx,_,_,ϱ,d,D.cl,D.nc,u5 S,_,ϱ,S.cl,_,_,.int c,ϱ,ϱ,SqL.of e,br (by rw [Ż,g];rfl),q⟩
def yH(F:Fun K "cells_told" "Stand.cells_told" cV f fd)(B:TxB mg)(D:TxD K CS):FnOk P w K mg base CX0 1 f fd ["self"] (mr CS K):=by
 refine F.oj iX λi A b s H vs Q E j h=>?_
 obtain ⟨p,S,d,rfl,e,q⟩:=h
 refine ⟨_,aj (aw (aP gT rfl B.list PyProof.Rows.boot_list (ac (au (pv 0) rfl) ag))),?_⟩
 exact ⟨_,ϱ,S.l,CS,S.dx,_,_,ϱ,e.ins,D.cl,D.nc,u5 S,S.cl,_,ϱ,.inl (SqL.of e.cl),λp g=>q p _ (af g) g ae⟩
def Ao(F:Fun K "news" "Stand.news" gJ f fd)(B:TxB mg)(D:TxD K CS):FnOk P w K mg base CX0 1 f fd ["self"] (qz CS K):=by
 refine F.oj oY λC A i s H vs Q E G h=>?_
 obtain ⟨p,S,d,rfl,g,x,q⟩:=h
 refine ⟨_,aj (aw (aP cQ rfl B.tuple ĳ (ac (aK (jT (R:=λH=>sPS K H) uS (λe h=>h.keep e) (λok q r=>q.ent ok r) rfl (hun (c:=3) G)) rfl B.sorted PyProof.Rows.boot_sorted (ac (xW (au (pv 0) rfl)) ag)) ag))),?_⟩
 refine ⟨_,ϱ,S.l,CS,S.dx,_,_,ϱ,g.ins,D.cl,D.ne,xy S,S.en,_,ϱ,g.en,λv I=>?_⟩
 have j:=af (o:=Vw v S.en) I
 refine ⟨v,S.en,d.en,ϱ,ae,Ep (j _ _ g.en),Š x ζ,λW l b J L O=>?_⟩
 have y:=af (o:=.lst b) L
 refine ⟨l,b,ϱ,.inl ⟨SqL.of ae,λt U=>?_⟩⟩
 have u:=af (o:=.tup b) U
 exact q _ _ (j.trans (J.trans (y.trans u))) ⟨t,b,ϱ,ae,Paired.mapP O λ_ _ z=>z.keep u.ts⟩
def vW{H H1:Hp}{D:é}{o:Obj}{f:List (List Key×V)}{p:é}{o2:HO}(l:H D=some (.dT f))(s1:Same (upd H D (Fz D o)) H1)(g:H1 p=none) :
  Same H (upd (upd H1 p o2) D (.dT f))/\(upd (upd H1 p o2) D (.dT f)) p=some o2/\(upd H1 p o2) D=some (Fz D o)/\H p=none:=by
 have h:H1 D=some (Fz D o):=s1 _ _ ae
 have d:p≠D:=Ne.symm (aq h g)
 refine ⟨λb j e=>?_,by rw [am d];exact ae,by rw [am (Ne.symm d)];exact h,?_⟩
 .by_cases hb:b=D
  .subst hb
   rw [ae,← e,l]
  .rw [am hb]
   have i:H1 b=some j:=s1 _ _ (by rw [am hb];exact e)
   rw [am (aq i g)]
   exact i
 .cases e:H p with
  | none=>rfl
  | some u =>
   have:=s1 p u (by rw [am d];exact e)
   rw [g] at this
   cases this
def wc{X:Cx}{o i:á}{pos:Pos}{b d:TE}(P:ê)(w:è)(e:X.A.units+1<cLine)(f:PE X o b)(g:PE X i d)(h:Be i)(j:X.prog=P:=by rfl)(hw:X.w=w:=by rfl):PE X (.Subscript o i pos) (xl P w b d):=by
 subst j hw
 exact xX e f g h
def yI(F:Fun K "bound" "Stand.bound" cN f fd)(D:TxD K CS):FnOk P w K mg base CX0 1 f fd ["self"] (mv CS K):=by
 refine F.oj mZ λa1 A U s H vs Q E G h=>?_
 obtain ⟨p,S,d,rfl,y,W,q⟩:=h
 refine ⟨_,aj (aw (Ab (fq kn rfl (z9 (au (pv 0) rfl)) (λ_ _ _ _=>iN (ip (iP (cE G) (pv 0) (pfK K 1)))) (λ_ _ _ _=>wc P w (cE G) (pfK K 1) (pv 0) (λ_ _=>rfl))))),?_⟩
 have g:=y.rdd
 have C:H S.en=some (.dT []):=by have:=y.en;rw [W] at this;exact this
 refine ⟨_,ϱ,S.l,CS,S.dx,_,_,ϱ,y.ins,D.cl,D.nr,rL S,S.rd,_,ϱ,g,λo f=>?_⟩
 have u:(upd H S.rd (Fz S.rd o)) S.l=some (.ins CS S.dx (sf S)):=by rw [am (jH y.ins g (by intro z;cases z))];exact y.ins
 refine AN f (λi I H1=>Same (upd H S.rd (Fz S.rd o)) H1/\I=if i=0 then [] else d.rd.toList.map V.ref) ⟨Same.refl _,ϱ⟩ (λi I H' _ z=>⟨z.1 _ _ ae,z.1.ts⟩) (λi e b I H' J hb z=>?_) ?_
 .obtain ⟨j,L⟩:=z
  cases er:d.rd with
  | none=>rw [er] at J;cases J
  | some x =>
   rw [er] at J f g
   have O:(upd H S.rd (Fz S.rd o)) S.en=some (.dT []):=by rw [am (jH C g (by intro z;cases z))];exact C
   cases i with
   | succ i=>cases J
   | zero =>
    cases J
    rw [Ź rfl] at L
    subst L
    exact ⟨_,ϱ,_,ϱ,S.l,CS,S.dx,_,_,ϱ,j _ _ u,D.cl,D.ne,xy S,S.en,_,ϱ,DGet.t (k:=pk p) (j _ _ O) hb,_,ϱ,cr ⟨_,ϱ,S.l,CS,S.dx,_,_,ϱ,j _ _ u,D.cl,D.nr,rL S,_,ϱ,S.rd,o,_,pk p,b,.ref x,ϱ,ϱ,j _ _ ae,f.keep j.ts,hb,bF rfl,j,ϱ⟩⟩
 .rintro I H1 ⟨j,L⟩ r G
  obtain ⟨X,Y,Z,t4⟩:=vW (o2:=.lst I) g j G
  refine ⟨S.rd,o,_,Z,(f.keep j.ts).keep (af G).ts,q r _ X t4 ?_⟩
  rw [Y,L]
  cases er:d.rd with
  | none=>rfl
  | some x=>rfl
def Ef{d:Sx}{r:é}{w:Rx}(h:d.en.length<=60):(d.kp r w).en.length<=62:=by
 cases w with
 | fin y o=>show (d.en++[(y,o)]).length<=62;rw [Ž];exact υ (ć h)
 | _=>exact Λ h ζ
def shL(CH S:é)(h:Ah)(rs:û)(us:à V)(v:V):Cs:=[(h.l,.ins CH h.dx (hf S h v)),(h.rw,.lst (rs.map V.ref)),(h.sn,.lst us)]
def LtAt(K:ä)(H:Hp)(es:à (Pa×Str))(x:Ws)(u:V):Prop:=∃t t2 nv,u=.ref t/\H t=some (.tup [.int x.1,.ref t2])/\H t2=some (.tup [.str x.2.1,.ref x.2.2.1,.ref x.2.2.2,nv])/\NwAt K H es nv
def LtAt.keep{H H':Hp}{es:à (Pa×Str)}{x:Ws}{u:V}(e:TSame H H')(h:LtAt K H es x u):LtAt K H' es x u:=by
 obtain ⟨t,b,d,rfl,h1,f,g⟩:=h
 exact ⟨t,b,d,ϱ,e _ _ h1,e _ _ f,g.keep e⟩
section
variable (CS CH CL:é)(K:ä)
inductive iM (vs:à V) (H:Hp) (Q:VK) (E:XK):Prop|mk l dx S:vs=[.ref l,.ref S]->H l=some (.ins CH dx [])->(∀h H',h.l=l->Ow CH CL [l] H H' (shL CH S h [] [] .non)->Q .non H')->iM vs H Q E
inductive mQ (vs:à V) (H:Hp) (Q:VK) (E:XK):Prop|mk p A h d rs us v r w R:vs=[.ref h.l,.ref r]->Ow CH CL (ad (shL CH A.l h rs us v++(stL p A d++R))) H H (shL CH A.l h rs us v++(stL p A d++R))->Si CS K H p A d->RxAt K H p r w->d.fits w->rs.length<=900->(∀v' H',Ow CH CL (ad (shL CH A.l h rs us v++(stL p A d++R))) H H' (shL CH A.l h (rs++[r]) us v'++(stL p A (d.kp r w)++R))->Si CS K H' p A (d.kp r w)->NwAt K H' (cu ltE (d.kp r w).en) v'->Q .non H')->mQ vs H Q E
inductive mo (vs:à V) (H:Hp) (Q:VK) (E:XK):Prop|mk S h rs us v x R:vs=[.ref h.l,.int x.1,.str x.2.1,.ref x.2.2.1,.ref x.2.2.2]->Ow CH CL (ad (shL CH S h rs us v++R)) H H (shL CH S h rs us v++R)->us.length<=900->(∀u H',Ow CH CL (ad (shL CH S h rs us v++R)) H H' (shL CH S h rs (us++[u]) v++R)->WsAt H' x u->Q .non H')->mo vs H Q E
inductive mq (vs:à V) (H:Hp) (Q:VK) (E:XK):Prop|mk S h rs v:vs=[.ref h.l]->H h.l=some (.ins CH h.dx (hf S h v))->H h.rw=some (.lst ((rs:û).map V.ref))->(∀q H',Same H H'->H' q=some (.lst (rs.map V.ref))->Q (.ref q) H')->mq vs H Q E
inductive qA (vs:à V) (H:Hp) (Q:VK) (E:XK):Prop|mk p A h d us ws v:vs=[.ref h.l]->H h.l=some (.ins CH h.dx (hf A.l h v))->H h.sn=some (.lst us)->Sa CS K H p A d->Paired (WsAt H) ws us->ws.length<=900->d.en.length<=62->((v=.non\/NwAt K H (cu ltE d.en) v))->(∀q us' H',Same H H'->H' q=some (.lst us')->Paired (LtAt K H' (cu ltE d.en)) ws us'->Q (.ref q) H')->qA vs H Q E
end
def yz(F:Fun K "__init__" "Sheet.__init__" gO f fd)(d:TxH K CH):FnOk P w K mg base CX0 1 f fd ["self","stand"] (iM CH CL):=by
 refine F.oj o9 λD A g s H vs Q E J h=>?_
 obtain ⟨l,b,S,rfl,j,q⟩:=h
 refine ⟨_,ah (aT (pv 0) (pv 1) rfl) (ah (aT (pv 0) (c7 ag) rfl) (ah (aT (pv 0) (c7 ag) rfl) (aj (aT (pv 0) c6 rfl)))),?_⟩
 have g0:Ow CH CL [l] H H [(l,.ins CH b [])]:=.mk0 (L:=[(l,.ins CH b [])]) (λx i=>by rw [List.mem_singleton.mp i];exact j) (by simp [ad]) (λx i=>by rw [List.mem_singleton.mp i];exact λz=>z.1 rfl)
 have g1:Ow CH CL [l] H _ [(l,.ins CH b (ax "stand" (.ref S) []))]:=g0.up 0 _ rfl
 refine ⟨_,ϱ,_,ϱ,l,CH,b,_,ϱ,j,d.cl,d.ht,(by show 0<1000;decide),χ,λe G=>?_⟩
 obtain ⟨u,y⟩:=g1.fld G (.lst []) (ax "rows" (.ref e) (ax "stand" (.ref S) []))
 refine ⟨_,ϱ,l,CH,b,_,ϱ,u,d.cl,d.hw,(bo (n:=999) (by show 0<999;decide)),χ,λr I=>?_⟩
 obtain ⟨C,o⟩:=y.fld I (.lst []) (ax "sent" (.ref r) (ax "rows" (.ref e) (ax "stand" (.ref S) [])))
 exact ⟨_,ϱ,l,CH,b,_,ϱ,C,d.cl,d.hs,(bo (n:=999) (bo (n:=998) (by show 0<998;decide))),_,ϱ,l,CH,b,_,ϱ,o.co _ (.head _),d.cl,d.hl,(bo (n:=999) (bo (n:=998) (bo (n:=997) (by show 0<997;decide)))),q ⟨l,b,e,r⟩ _ rfl (o.up 0 _ rfl)⟩
def Ay(F:Fun K "row" "Sheet.row" iD f fd)(D:TxD K CS)(b:TxH K CH)(W:CS≠CH/\CS≠CL)(GK:GM P w K mg base CX0 2 CS "keep" ["self","row"] (tN CS CH CL K))(GW:GM P w K mg base CX0 1 CS "news" ["self"] (qz CS K)) :
  FnOk P w K mg base CX0 3 f fd ["self","row"] (mQ CS CH CL K):=by
 refine F.oj qI λa0 A y s H vs Q E O h=>?_
 obtain ⟨p,S,h,d,e,G,v,r,I,R,rfl,g,J,X,j,Y,q⟩:=h
 refine ⟨_,ah (aQ (pm GK (au (pv 0) rfl) D.cl O (ac (pv 1) ag)))
  (ah (aQ (iu Ň ŏ Ŏ fh (au (pv 0) rfl) (ac (pv 1) ag)))
  (aj (aT (pv 0) (pm0 GW (au (pv 0) rfl) D.cl O) rfl))),?_⟩
 refine ⟨_,ϱ,h.l,CH,h.dx,_,_,ϱ,g.co _ j0,b.cl,b.ht,yZ _ _ _,S.l,S.dx,_,ϱ,J.ins,jz θ,_,ϱ,p,S,d,r,I,_,_,_,R,ϱ,g,J,X,j,λH1 g1 C=>?_⟩
 have Z:H1 h.rw=some (.lst (e.map V.ref)):=g1.co _ j1
 refine ⟨_,ϱ,h.l,CH,h.dx,_,_,ϱ,g1.co _ j0,b.cl,b.hw,BD _ _ _,.inl ⟨ϱ,_,SqL.of (g1.co _ j1)⟩,_,ϱ,h.rw,_,_,ϱ,ϱ,g1.co _ j1,fe (by rw [ν];omega),?_⟩
 have u:Ow CH CL (ad (shL CH S.l h e G v++(stL p S d++R))) H (upd H1 h.rw (.lst ((e++[r]).map V.ref))) (shL CH S.l h (e++[r]) G v++(stL p S (d.kp r I)++R)):=g1.up 1 _ rfl
 rw [show e.map V.ref++[.ref r]=(e++[r]).map V.ref by rw [ſ];rfl]
 have i:=C.im (cJ (bn (o:=.lst ((e++[r]).map V.ref))) Z id) W
 refine ⟨_,ϱ,h.l,CH,h.dx,_,_,ϱ,u.co _ j0,b.cl,b.ht,yZ _ _ _,S.l,S.dx,_,ϱ,i.ins,jz θ,p,S,_,ϱ,Bw u i,Ef j.le,λv' H3 U nw=>?_⟩
 have L:=u.same U
 have x:H3 h.l=some (.ins CH h.dx (hf S.l h v)):=L.co _ j0
 refine ⟨_,ϱ,h.l,CH,h.dx,_,ϱ,x,b.cl,b.hl,C8 _ _ _,?_⟩
 rw [C7]
 exact q v' _ (L.up 0 _ rfl) ((i.keep U).im (cJ bn x λz=>z.2.1 rfl) W) (nw.keep (fQ x))
def yx(F:Fun K "send" "Sheet.send" gN f fd)(u:TxH K CH):FnOk P w K mg base CX0 1 f fd ["self","to","word","p","more"] (mo CH CL):=by
 refine F.oj o6 λC A b s H vs Q E J h=>?_
 obtain ⟨S,h,G,y,v,x,R,rfl,g,I,q⟩:=h
 refine ⟨_,aj (aQ (iu Ň ŏ Ŏ fh (au (pv 0) rfl) (ac (aL (ac (pv 1) (ac (aL (ac (pv 2) (ac (pv 3) (ac (pv 4) ag)))) ag))) ag))),?_⟩
 refine ⟨_,ϱ,h.l,CH,h.dx,_,_,ϱ,g.co _ j0,u.cl,u.hs,BC _ _ _,.inl ⟨ϱ,_,SqL.of (g.co _ j2)⟩,_,ϱ,_,ϱ,_,ϱ,_,ϱ,χ,λr d=>⟨χ,λt D=>?_⟩⟩
 have e:=af (o:=.tup [.int x.1,.ref r]) D
 have i:=(g.same (af d)).same e
 have j:=i.co _ j2
 have z:WsAt _ x (.ref t):=⟨t,r,ϱ,ae,e _ _ ae⟩
 exact ⟨h.sn,y,_,ϱ,ϱ,j,fe ω,q (.ref t) _ (i.up 2 _ rfl) (z.keep (fQ j))⟩
def yy(F:Fun K "rows_told" "Sheet.rows_told" c9 f fd)(B:TxB mg)(d:TxH K CH):FnOk P w K mg base CX0 1 f fd ["self"] (mq CH):=by
 refine F.oj jf λg A b s H vs Q E o h=>?_
 obtain ⟨S,h,j,v,rfl,h1,e,q⟩:=h
 refine ⟨_,aj (aw (aP gT rfl B.list PyProof.Rows.boot_list (ac (au (pv 0) rfl) ag))),?_⟩
 exact ⟨_,ϱ,h.l,CH,h.dx,_,_,ϱ,h1,d.cl,d.hw,BD _ _ _,h.rw,_,ϱ,.inl (SqL.of e),λp i=>q p _ (af i) ae⟩
inductive Du (CH:é) (K:ä) (D:Ends) (σ:L2.St) (H:Hp):Prop|mk S h us ws v nv es:σ=[some (.ref (h:Ah).l),some nv]->H h.l=some (.ins CH h.dx (hf S h v))->H h.sn=some (.lst us)->Paired (WsAt H) ws us->ws.length<=900->NwAt K H es nv->(∀p us' H',Same H H'->H' p=some (.lst us')->Paired (LtAt K H' es) ws us'->D.rt (.ref p) H')->Du CH K D σ H
def Az(F:Fun K "letters_told" "Sheet.letters_told" bj f fd)(D:TxD K CS)(j:TxH K CH)(GW:GM P w K mg base CX0 1 CS "news" ["self"] (qz CS K)) :
  FnOk P w K mg base CX0 2 f fd ["self"] (qA CS CH K):=by
 refine F.oj sc_Sheet_letters_told λaR A a2 s H vs Q E hr h=>?_
 obtain ⟨p,S,h,d,y,C,v,rfl,h1,h2,sa,b,X,le,Y,q⟩:=h
 have nd:=sc_Sheet_letters_told.nd
 refine ⟨_,ah (aG (i:=1) nd rfl (Or.inr rfl) (rW (az qV (au (pv 0) rfl) c6 (aA _)) (pm0 GW (au (pv 0) rfl) D.cl hr) (au (pv 0) rfl)))
  (rR (Du CH K) (aj (aw (fq gh rfl (bJ (au (pv 0) rfl)) (λ_ _ _ _=>cj) (λ_ _ _ _=>aL (ac (ay (r:=a9 K) aC (pv 0) ai (λ_ _=>rfl)) (ac (aE (r:=Bs K) Ag (ay (r:=a9 K) aC (pv 0) ai (λ_ _=>rfl)) (aL (ac (pv 1) ag))) ag)))))) ?v1),?_⟩
 case v1 =>
  rintro D0 σ H ⟨S,h,y,C,v,nv,es,rfl,h1,L,b,X,O,q⟩
  refine ⟨_,ϱ,h.l,CH,h.dx,_,_,ϱ,h1,j.cl,j.hs,BC _ _ _,h.sn,ϱ,⟨_,SqL.of L⟩,?_⟩
  refine e8 (xs:=y) (λi G J=>Same H J/\Paired (LtAt K J es) (C.take i) G) ⟨Same.refl _,.nil⟩ (ja (by rw [← b.len];omega)) (λi G J _ z=>SqL.of (z.1 _ _ L)) ?_ ?_
  .rintro i u G H1 hu ⟨g,W⟩
   obtain ⟨x,ex,t,t2,rfl,ht,Z⟩:=b.get hu
   obtain ⟨U,rfl⟩:∃U,nv=.ref U:=by obtain ⟨t,_,e,_⟩:=O;exact ⟨t,e⟩
   have et:C.take (i+1)=C.take i++[x]:=by rw [Ţ,ex];rfl
   refine jr ⟨_,ϱ,t,_,_,_,ϱ,ϱ,SqT.of (g _ _ ht),at0,_,ϱ,t,_,_,_,ϱ,ϱ,SqT.of (g _ _ ht),at1,_,ϱ,χ,λt3 a3=>?_⟩
   have s3:=af (o:=.tup [.ref U]) a3
   refine ⟨t2,t3,_,_,ϱ,ϱ,SqT.of (s3 _ _ (g _ _ Z)),SqT.of ae,(λz=>by cases z),χ,(λz=>by cases z),λ_ t4 a4=>⟨χ,λt5 a5=>?_⟩⟩
   have s4:=af (o:=.tup ([.str x.2.1,.ref x.2.2.1,.ref x.2.2.2]++[.ref U])) a4
   have s5:=af (o:=.tup [.int x.1,.ref t4]) a5
   have I:=g.trans (s3.trans (s4.trans s5))
   rw [et]
   exact ⟨I,(Paired.mapP W λ_ _ z=>z.keep (s3.trans (s4.trans s5)).ts).app (.cons ⟨t5,t4,_,ϱ,ae,s5 _ _ ae,O.keep I.ts⟩ .nil)⟩
  .rintro G H1 ⟨g,W⟩ p hp
   rw [← b.len,Ŭ] at W
   have s2:=af (o:=.lst G) hp
   exact q p G _ (g.trans s2) ae (Paired.mapP W λ_ _ z=>z.keep s2.ts)
 refine ⟨_,ϱ,h.l,CH,h.dx,_,_,ϱ,h1,j.cl,j.hl,BE _ _ _,ϱ,_,ϱ,?_⟩
 by_cases e:v=.non
 .refine bD (λ_=>?_) (λc=>absurd (τ e) c)
  refine ⟨_,ϱ,h.l,CH,h.dx,_,_,ϱ,h1,j.cl,j.ht,yZ _ _ _,S.l,S.dx,_,ϱ,sa.ins,jz θ,p,S,d,ϱ,sa,le,λnv H1 g nw=>?_⟩
  exact ⟨S.l,h,y,C,v,nv,_,ϱ,g _ _ h1,g _ _ h2,Paired.mapP b λ_ _ z=>z.keep g.ts,X,nw,λp y J s'=>q p y J (g.trans s')⟩
 .refine bD (λc=>absurd (Ξ c) e) (λ_=>?_)
  exact ⟨_,ϱ,h.l,CH,h.dx,_,_,ϱ,h1,j.cl,j.hl,BE _ _ _,S.l,h,y,C,v,v,_,ϱ,h1,h2,b,X,Y.resolve_left e,q⟩
end
open St
section
variable {P:ê}{w:è}{K:ä}{mg:ā}{base:ã}{f CL CS CH CV:é}{fd:ç}{C:Kd->é}{CW:Wd->é}
def yp(F:Fun K "lock" "TakeStep.lock" eK f fd)(W:TxW K CW)(T:TxK K C)(l:∀k,mg (kdN k)=some (.ref (C k))){u:é}{D:ç}(M:∀k,Mk K (C k) u)
  (U:FnOk P w K mg base CX0 1 u D ["self","first","last"] (fE C))(X:Binds K D ["self","first","last"] [])(Y:∀k,GM P w K mg base CX0 2 (C k) "told" ["self"] (fR C)):FnOk P w K mg base CX0 3 f fd ["self"] (eY CW K .take):=by
 refine F.oj j9 λI A g s H vs Q E r h=>?_
 obtain ⟨v,Z,rfl,G,⟨a,o,rfl,b⟩,q⟩:=h
 obtain ⟨x,y,rfl,_,_,e⟩:=G.c rfl
 rw [e] at b
 have d:Room (1+1) _:=r
 refine ⟨_,aj (aw (pm0 (Y .read) (bb (M .read) U d rfl (l .read) X .nil be (ac (au (pv 0) rfl) (ac (au (pv 0) rfl) ag))) (T.cl .read) r)),?_⟩
 refine ⟨_,ϱ,a,_,o,_,_,ϱ,b,W.cl _,W.nC _,bM,_,ϱ,a,_,o,_,_,ϱ,b,W.cl _,W.nC _,bM,λz i J j L=>⟨z,i,.read,y,y,ϱ,ae,ϱ,z,i,_,ϱ,ae,fO _ _ θ θ,_,(.read,y,y),ϱ,⟨z,i,ϱ,ae⟩,λt O=>?_⟩⟩
 exact q _ _ ((fL J j).trans (af O)) ⟨t,ϱ,ae⟩
def yr(F:Fun K "lock" "MeanStep.lock" eQ f fd)(W:TxW K CW)(T:TxK K C)(l:∀k,mg (kdN k)=some (.ref (C k))){u:é}{D:ç}(M:∀k,Mk K (C k) u)
  (U:FnOk P w K mg base CX0 1 u D ["self","first","last"] (fE C))(X:Binds K D ["self","first","last"] [])(Y:∀k,GM P w K mg base CX0 2 (C k) "told" ["self"] (fR C)):FnOk P w K mg base CX0 3 f fd ["self"] (eY CW K .mean):=by
 refine F.oj kh λI A g s H vs Q E r h=>?_
 obtain ⟨v,Z,rfl,G,⟨a,o,rfl,b⟩,q⟩:=h
 obtain ⟨x,y,rfl,_,_,e⟩:=G.c rfl
 rw [e] at b
 have d:Room (1+1) _:=r
 refine ⟨_,aj (aw (pm0 (Y .mean) (bb (M .mean) U d rfl (l .mean) X .nil be (ac (au (pv 0) rfl) (ac (au (pv 0) rfl) ag))) (T.cl .mean) r)),?_⟩
 refine ⟨_,ϱ,a,_,o,_,_,ϱ,b,W.cl _,W.nC _,bM,_,ϱ,a,_,o,_,_,ϱ,b,W.cl _,W.nC _,bM,λz i J j L=>⟨z,i,.mean,y,y,ϱ,ae,ϱ,z,i,_,ϱ,ae,fO _ _ θ θ,_,(.mean,y,y),ϱ,⟨z,i,ϱ,ae⟩,λt O=>?_⟩⟩
 exact q _ _ ((fL J j).trans (af O)) ⟨t,ϱ,ae⟩
def yw(F:Fun K "lock" "GiveStep.lock" eR f fd)(W:TxW K CW)(T:TxK K C)(l:∀k,mg (kdN k)=some (.ref (C k))){u:é}{D:ç}(M:∀k,Mk K (C k) u)
  (U:FnOk P w K mg base CX0 1 u D ["self","first","last"] (fE C))(X:Binds K D ["self","first","last"] [])(Y:∀k,GM P w K mg base CX0 2 (C k) "told" ["self"] (fR C)):FnOk P w K mg base CX0 3 f fd ["self"] (eY CW K .give):=by
 refine F.oj kj λI A g s H vs Q E r h=>?_
 obtain ⟨v,Z,rfl,G,⟨a,o,rfl,b⟩,q⟩:=h
 obtain ⟨x,y,rfl,_,_,e⟩:=G.c rfl
 rw [e] at b
 have d:Room (1+1) _:=r
 refine ⟨_,aj (aw (pm0 (Y .change) (bb (M .change) U d rfl (l .change) X .nil be (ac (au (pv 0) rfl) (ac (au (pv 0) rfl) ag))) (T.cl .change) r)),?_⟩
 refine ⟨_,ϱ,a,_,o,_,_,ϱ,b,W.cl _,W.nC _,bM,_,ϱ,a,_,o,_,_,ϱ,b,W.cl _,W.nC _,bM,λz i J j L=>⟨z,i,.change,y,y,ϱ,ae,ϱ,z,i,_,ϱ,ae,fO _ _ θ θ,_,(.change,y,y),ϱ,⟨z,i,ϱ,ae⟩,λt O=>?_⟩⟩
 exact q _ _ ((fL J j).trans (af O)) ⟨t,ϱ,ae⟩
def Au(F:Fun K "lock" "AddStep.lock" fz f fd)(W:TxW K CW)(T:TxK K C)(i:∀k,mg (kdN k)=some (.ref (C k))){r:é}{u:ç}(M:∀k,Mk K (C k) r)
  (O:FnOk P w K mg base CX0 1 r u ["self","first","last"] (fE C))(U:Binds K u ["self","first","last"] [])(X:∀k,GM P w K mg base CX0 2 (C k) "told" ["self"] (fR C)):FnOk P w K mg base CX0 3 f fd ["self"] (eY CW K .add):=by
 refine F.oj lH λG A d s H vs Q E o h=>?_
 obtain ⟨v,Y,rfl,D,⟨a,j,rfl,l⟩,q⟩:=h
 obtain ⟨x,y,Z,rfl,_⟩:=D.a
 have b:Room (1+1) _:=o
 refine ⟨_,aj (aw (pm0 (X .change) (bb (M .change) O b rfl (i .change) U .nil be (ac (au (pv 0) rfl) (ac (au (pv 0) rfl) ag))) (T.cl .change) o)),?_⟩
 refine ⟨_,ϱ,a,_,j,_,_,ϱ,l,W.cl _,W.nC _,(by show (ax "amount" _ (ax "cell" _ (ax "where" _ []))).lookup _=_;rw [aO θ,bM]),_,ϱ,a,_,j,_,_,ϱ,l,W.cl _,W.nC _,(by show (ax "amount" _ (ax "cell" _ (ax "where" _ []))).lookup _=_;rw [aO θ,bM]),λz e I g J=>⟨z,e,.change,y,y,ϱ,ae,ϱ,z,e,_,ϱ,ae,fO _ _ θ θ,_,(.change,y,y),ϱ,⟨z,e,ϱ,ae⟩,λt L=>?_⟩⟩
 exact q _ _ ((fL I g).trans (af L)) ⟨t,ϱ,ae⟩
def Aq(F:Fun K "lock" "SumStep.lock" fx f fd)(W:TxW K CW)(T:TxK K C)(i:∀k,mg (kdN k)=some (.ref (C k))){r:é}{u:ç}(M:∀k,Mk K (C k) r)
  (O:FnOk P w K mg base CX0 1 r u ["self","first","last"] (fE C))(U:Binds K u ["self","first","last"] [])(X:∀k,GM P w K mg base CX0 2 (C k) "told" ["self"] (fR C)):FnOk P w K mg base CX0 3 f fd ["self"] (eY CW K .sum):=by
 refine F.oj lF λG A d s H vs Q E o h=>?_
 obtain ⟨v,Y,rfl,D,⟨a,j,rfl,l⟩,q⟩:=h
 obtain ⟨x,y,y2,rfl,_⟩:=D.s
 have b:Room (1+1) _:=o
 refine ⟨_,aj (aw (pm0 (X .read) (bb (M .read) O b rfl (i .read) U .nil be (ac (au (pv 0) rfl) (ac (au (pv 0) rfl) ag))) (T.cl .read) o)),?_⟩
 refine ⟨_,ϱ,a,_,j,_,_,ϱ,l,W.cl _,W.nL _,(by show (ax "high" _ (ax "low" _ (ax "where" _ []))).lookup _=_;rw [aO θ,bM]),_,ϱ,a,_,j,_,_,ϱ,l,W.cl _,W.nH _,bM,λz e I g J=>⟨z,e,.read,y,y2,ϱ,ae,ϱ,z,e,_,ϱ,ae,fO _ _ θ θ,_,(.read,y,y2),ϱ,⟨z,e,ϱ,ae⟩,λt L=>?_⟩⟩
 exact q _ _ ((fL I g).trans (af L)) ⟨t,ϱ,ae⟩
def sg{b:Wd}(hw:b=.plus\/b=.need)(F:Fun K "lock" "Step.lock" iC f fd):FnOk P w K mg base CX0 1 f fd ["self"] (eY CW K b):=by
 refine F.oj qH λi A d s H vs Q E o h=>?_
 obtain ⟨v,g,rfl,j,l,q⟩:=h
 refine ⟨_,aj (aw c6),?_⟩
 have e:sy b g=none:=by rcases hw with rfl | rfl<;>rfl
 rw [e] at q
 exact q .non H (Same.refl H) rfl
end
end K55
namespace K55T
open PySem L2 Km PySem.NumText
abbrev xB:â:=K55.nu
abbrev u6:â:=K55.jC
abbrev Bn:â:=K55.pO
abbrev Bp:â:=K55.jb
abbrev Bo:â:=K55.gV
abbrev DU:â:=K55.fM
abbrev xC:â:=K55.eX
abbrev DS:â:=K55.d8
def tp:¬(("text":Str)="place"):=by decide +kernel
def rf(z:Str)(k:Int):List (Str×V):=ax "place" (.int k) (ax "text" (.str z) [])
def xH(z:Str)(k:Int):rf z k=([("text",V.str z),("place",V.int k)]:List (Str×V)):=by
 show (if ("text":Str)="place" then [(("text":Str),V.int k)] else (("text":Str),V.str z)::ax "place" (V.int k) [])=([("text",V.str z),("place",V.int k)]:List (Str×V))
 rw [ž tp]
 all_goals rfl
def mx(z:Str)(k:Int):(rf z k).lookup ("text":Str)=some (.str z):=by
 unfold rf
 rw [al,ž tp,al,Ź rfl]
def dZ(z:Str)(k:Int):(rf z k).lookup ("place":Str)=some (.int k):=by
 unfold rf
 rw [al,Ź rfl]
def rP(z:Str)(k:Int){m:Str}(h1:¬m="place")(b:¬m="text"):(rf z k).lookup m=none:=by
 unfold rf
 rw [al,ž h1,al,ž b]
 all_goals rfl
def xF(z:Str)(k j:Int):ax "place" (.int j) (rf z k)=rf z j:=by
 rw [xH,xH]
 show (if ("text":Str)="place" then _ else (("text":Str),V.str z)::(if ("place":Str)="place" then [(("place":Str),V.int j)] else _))=([("text",V.str z),("place",V.int j)]:List (Str×V))
 rw [ž tp,Ź rfl]
def xG(z:Str)(k:Int):(rf z k).length=2:=by rw [xH];rfl
structure Tx(K:ä)(mg:ā)(C:é):Prop where
 cl:Cls K C
 nT:NoAttr K C "text"
 nP:NoAttr K C "place"
 mgC:mg "Reader"=some (.ref C)
 isi:mg "isinstance"=none
 int:mg "int"=none
 bool:mg "bool"=none
 str:mg "str"=none
 len:mg "len"=none
 ord:mg "ord"=none
 all:mg "all"=none
 range:mg "range"=none
 cFig:∃t,mg "MOST_FIGURES_things"=some (.int 400 t)
 cDeep:∃t,mg "MOST_DEEP"=some (.int 8 t)
 cLong:∃t,mg "LONGEST"=some (.int 100000 t)
 cBl:∃t,mg "BLANK"=some (.int 32 t)
 cPc:∃t,mg "PERCENT"=some (.int 37 t)
 cTi:∃t,mg "TILDE"=some (.int 126 t)
def sI{X:Cx}{x:Str}{i:Int}{pos:Pos}(b:∃t,X.mg x=some (.int i t))(d:Gl X x)(f:(x==("__debug__":Str))=false:=by decide):PE X (.Name x pos) (tC (.int i)):=by
 obtain ⟨t,e⟩:=b
 exact gC d e ⟨t,ϱ⟩ f
section
variable {K:ä}
def CU:PySem.W.kitOne K (.type "int") (.type "int")=some true:=rfl
def CZ:PySem.W.kitOne K (.type "int") (.type "bool")=some false:=by kernel_rfl
end
section
variable {P:ê}{w:è}{K:ä}{mg:ā}{base:ã}{f C:é}{fd:ç}
inductive qt (vs:à V) (H:Hp) (Q:VK) (E:XK):Prop|mk i:vs=[.int i]->Q (.bl true) H->qt vs H Q E
def zY:ao ["thing"] ["thing"] (defScope xB):=ß
def ye(F:Fun K "is_whole" "is_whole" xB f fd)(T:Tx K mg C):FnOk P w K mg base CX0 1 f fd ["thing"] qt:=by
 refine F.oj zY λd A b s H vs Q E e h=>?_
 obtain ⟨i,rfl,q⟩:=h
 refine ⟨_,aj (aw (gD (aK lC rfl T.isi PyProof.Rows.boot_isinstance (ac (pv 0) (ac (vj (v:=.ty "int") rfl T.int ő rfl) ag)))
  (fX (Cj (aK lC rfl T.isi PyProof.Rows.boot_isinstance (ac (pv 0) (ac (vj (v:=.ty "bool") rfl T.bool PyProof.Rows.boot_bool rfl) ag))))))),?_⟩
 exact ⟨_,ϱ,_,_,_,_,ϱ,TyOf.int i,CU,_,ϱ,cr ⟨_,ϱ,_,_,_,_,ϱ,TyOf.int i,CZ,_,ϱ,q⟩⟩
def ot:1000000<=sizeLine:=by decide
inductive tH (vs:à V) (H:Hp) (Q:VK) (E:XK):Prop|mk (c:Nat):vs=[.str ⟨#[c]⟩]->Q (.bl (ug c)) H->tH vs H Q E
def scSign:ao ["sign","number"] ["sign"] (defScope Bn):=ß
def Ak(F:Fun K "is_sign" "is_sign" Bn f fd)(T:Tx K mg C):FnOk P w K mg base CX0 1 f fd ["sign"] tH:=by
 refine F.oj scSign λj A e s H vs Q E l h=>?_
 obtain ⟨c,rfl,q⟩:=h
 refine ⟨_,ah (aG (i:=1) scSign.nd rfl (Or.inl rfl) (aK zF rfl T.ord PyProof.Rows.boot_ord (ac (pv 0) ag)))
  (aj (aw (gD (xY vo vo (sI T.cBl rfl) (pv 1) (sI T.cTi rfl)) (fX (bq ol (pv 1) (sI T.cPc rfl) (aA _)))))),?_⟩
 refine ⟨_,ϱ,_,ϱ,ϱ,?_⟩
 refine ⟨_,ϱ,_,_,ϱ,ϱ,_,ϱ,?_⟩
 have e0:((({cps:=#[c]}:Str).cps.getD 0 0:Nat):Int)=(c:Int):=rfl
 unfold ug at q
 by_cases h1:32<=c
 .have b:decide ((32:Int)<=(({cps:=#[c]}:Str).cps.getD 0 0:Nat))=true:=τ (by rw [e0];omega)
  rw [b]
  refine cr ⟨_,_,ϱ,ϱ,_,ϱ,?_⟩
  by_cases h2:c<=126
  .have d:decide (((({cps:=#[c]}:Str).cps.getD 0 0:Nat):Int)<=126)=true:=τ (by rw [e0];omega)
   rw [d]
   refine cr ⟨_,ϱ,ϱ,?_⟩
   have g:(!decide (V.int (({cps:=#[c]}:Str).cps.getD 0 0:Nat)=V.int 37))=(decide (32<=c)&&decide (c<=126)&&decide (c≠37)):=by
    rw [τ h1,τ h2,rh,e0]
    by_cases h3:c=37
    .subst h3;rfl
    .have:((c:Int)==37)=false:=ś.mpr ω
     rw [this,τ h3];rfl
   rw [g]
   exact q
  .have d:decide (((({cps:=#[c]}:Str).cps.getD 0 0:Nat):Int)<=126)=false:=Γ (by rw [e0];omega)
   rw [d]
   refine aU ?_
   rw [Γ h2,Bool.and_false,Bool.false_and] at q
   exact q
 .have b:decide ((32:Int)<=(({cps:=#[c]}:Str).cps.getD 0 0:Nat))=false:=Γ (by rw [e0];omega)
  rw [b]
  refine aU ⟨_,ϱ,aU ?_⟩
  rw [Γ h1,Bool.false_and,Bool.false_and] at q
  exact q
inductive tO (C:é) (vs:à V) (H:Hp) (Q:VK) (E:XK):Prop|mk p dx z:vs=[.ref p,.str z]->H p=some (.ins C dx [])->Q .non (upd (upd H p (.ins C dx (ax "text" (.str z) []))) p (.ins C dx (rf z 0)))->tO C vs H Q E
def B7:ao ["self","text"] ["self","text"] (defScope Bp):=ß
def Ax(F:Fun K "__init__" "Reader.__init__" Bp f fd)(T:Tx K mg C):FnOk P w K mg base CX0 1 f fd ["self","text"] (tO C):=by
 refine F.oj B7 λg A b s H vs Q E i h=>?_
 obtain ⟨p,d,z,rfl,e,q⟩:=h
 refine ⟨_,ah (aT (pv 0) (pv 1) rfl) (aj (aT (pv 0) ai rfl)),?_⟩
 exact ⟨_,ϱ,_,ϱ,p,C,d,[],ϱ,e,T.cl,T.nT,(by show 0<1000;decide),_,ϱ,p,C,d,_,ϱ,ae,T.cl,T.nP,(by show 1<1000;decide),q⟩
def mF(z:Str)(c k:Nat):Txt.startswith3 z ⟨#[c]⟩ (k:Int)=decide (z.cps.toList[k]?=some c):=by
 have f:fromIndex z.length (k:Int)=k:=by
  unfold fromIndex
  rw [ž ω]
  omega
 unfold Txt.startswith3
 rw [f]
 have e:(({cps:=#[c]}:Str)).length=1:=rfl
 rw [e]
 by_cases h:k<z.length
 .have g:k<z.cps.size:=h
  have j:Builtin.Str.subAt z ⟨#[c]⟩ k=(z.cps[k]==c):=by
   unfold Builtin.Str.subAt
   rw [e]
   have l:z.cps.extract k (k+1)=#[z.cps[k]]:=by
    apply Array.ext
    .simp;omega
    .intro i h1 o
     have:i=0:=by simp at o;omega
     subst this
     simp
   rw [l]
   simp
  rw [j]
  have b:decide (k+1<=z.length)=true:=τ h
  rw [b,Bool.true_and]
  have d:z.cps.toList[k]?=some z.cps[k]:=by rw [Ľ];exact Array.getElem?_eq_getElem g
  rw [d]
  simp [Bool.beq_eq_decide_eq]
 .have b:decide (k+1<=z.length)=false:=Γ ω
  rw [b,Bool.false_and]
  have d:z.cps.toList[k]?=none:=by rw [Ľ];exact Array.getElem?_eq_none (by show z.length<=k;omega)
  rw [d]
  simp
inductive tK (C:é) (vs:à V) (H:Hp) (Q:VK) (E:XK):Prop|mk p dx z c:∀(k:Nat),vs=[.ref p,.str ⟨#[c]⟩]->H p=some (.ins C dx (rf z k))->((if z.cps.toList[k]?=some c then Q (.bl true) (upd H p (.ins C dx (rf z ((k+1:Nat):Int)))) else Q (.bl false) H))->tK C vs H Q E
def B6:ao ["self","sign"] ["self","sign"] (defScope Bo):=ß
def An(F:Fun K "passes" "Reader.passes" Bo f fd)(T:Tx K mg C):FnOk P w K mg base CX0 1 f fd ["self","sign"] (tK C):=by
 refine F.oj B6 λi A g s H vs Q E j h=>?_
 obtain ⟨p,b,z,c,k,rfl,d,q⟩:=h
 refine ⟨_,ah (aJ (io (cK (iu Ń PySem.F.slot_str_startswith PySem.F.type_str_startswith oo (au (pv 0) rfl) (ac (pv 1) (ac (au (pv 0) rfl) ag))))) (aj (aw rZ)) aB)
  (ah (pR (pv 0) ai yW) (aj (aw rZ))),?_⟩
 refine ⟨_,ϱ,p,C,b,_,_,ϱ,d,T.cl,T.nT,mx _ _,ϱ,_,ϱ,_,ϱ,p,C,b,_,_,ϱ,d,T.cl,T.nP,dZ _ _,_,_,_,ϱ,ϱ,_,ϱ,?_⟩
 rw [mF]
 by_cases hk:z.cps.toList[k]?=some c
 .rw [Ź hk] at q
  rw [τ hk]
  refine aU ?_
  refine ⟨_,ϱ,p,C,b,_,_,ϱ,d,T.cl,T.nP,dZ _ _,_,_,ϱ,ϱ,b,_,d,(by rw [xG];decide),?_⟩
  rw [xF]
  have e:((k:Int)+1)=((k+1:Nat):Int):=by omega
  rw [e]
  exact q
 .rw [ž hk] at q
  rw [Γ hk]
  exact cr q
end
def mf{x y:Str}(h:x.cps.toList=y.cps.toList):x=y:=by
 obtain ⟨a⟩:=x
 obtain ⟨b⟩:=y
 have:a=b:=ĭ.mp h
 rw [this]
def mz(z:Str):z.length=z.cps.toList.length:=by simp [Str.length]
def vY{z:Str}{pre d b:ø}(e:z.cps.toList=pre++d++b):Txt.slice z (some ((pre.length:Nat):Int)) (some (((pre.length+d.length:Nat)):Int))=⟨d.toArray⟩:=by
 have h:z.cps.toList.length=pre.length+d.length+b.length:=by rw [e];simp;omega
 have q:=PyProof.Rows.slice_closes (x:=z) (i:=((pre.length:Nat):Int)) (j:=((pre.length+d.length:Nat):Int)) ⟨ω,ω,ω⟩
 rw [eq_of_beq q]
 refine mf ?_
 have f:(((pre.length+d.length:Nat):Int)-((pre.length:Nat):Int)).toNat=d.length:=by omega
 have g:(((pre.length:Nat):Int)).toNat=pre.length:=by omega
 rw [f,g,e,œ,List.drop_left,List.take_left]
def zP:∀c:Nat,c<128->Unicode.isDigit c=sF c:=by decide +kernel
def ly{c:Nat}(h:c<128):Txt.isdigit ⟨#[c]⟩=sF c:=by
 rw [← zP c h]
 unfold Txt.isdigit
 simp [Str.length]
def zK(ds:ø):Prop:=AllDigits ds/\ds≠[]/\ds.length<=400/\(ds=[48]\/∀c r,ds=c::r->c≠48)
def vK(post:ø):Prop:=∀c r,post=c::r->c<128/\sF c=false
def But(p:é)(H H':Hp):Prop:=∀b o,H b=some o->b≠p->H' b=some o
def But.refl(p:é)(H:Hp):But p H H:=λ_ _ e _=>e
def But.upd{p:é}{H H':Hp}(h:But p H H')(o:HO):But p H (L2.upd H' p o):=λb u e n=>by rw [am n];exact h b u e n
def But.trans{p:é}{H H1 H2:Hp}(a:But p H H1)(b:But p H1 H2):But p H H2:=λc o e n=>b c o (a c o e n) n
def zV(x y:Str):Txt.startswith x y=Txt.startswith3 x y ((0:Nat):Int):=by
 unfold Txt.startswith Txt.startswith3
 have e:fromIndex x.length ((0:Nat):Int)=0:=by unfold fromIndex;simp
 rw [e]
section
variable {P:ê}{w:è}{K:ä}{mg:ā}{base:ã}{f C:é}{fd:ç}
inductive uV (C:é) (vs:à V) (H:Hp) (Q:VK) (E:XK):Prop|mk p dx z pre ds post:vs=[.ref p]->z.cps.toList=pre++ds++post->H p=some (.ins C dx (rf z (pre.length:Nat)))->z.length<=100000->zK ds->vK post->(∀H',H' p=some (.ins C dx (rf z ((pre.length+ds.length:Nat):Int)))->But p H H'->Q (.int (digitsVal ds:Nat)) H')->uV C vs H Q E
def scNum:ao ["self","start","figures"] ["self"] (defScope DS):=ß
def A3:(Str.ofString "")=⟨#[]⟩:=by decide +kernel
def zm:(Str.ofString "0")=⟨#[48]⟩:=by decide +kernel
def rJ(K:ä):TT:=DO (Bj (tOp (rI0 λi j=>.bl (decide (i<j))) (vX K (qq 0) "place") (tCB (λxs H Q=>∃z,xs=[.str z]/\z.length<=sizeLine/\Q (.int z.length) H) (Bl (vX K (qq 0) "text") tG))))
 (tB (DM K "str" (λx vs H Q=>∃z,x=.str z/\vs=[]/\Q (.bl (Txt.isdigit z)) H) (tOp DW (vX K (qq 0) "text") (vX K (qq 0) "place"))))
def yL{p l:é}{z:Str}{pre d b:ø}{j:Nat}{σ:St}{H1:Hp}{R:Bool->Hp->Prop}(T:Tx K mg C)(u:z.cps.toList=pre++d++b)(hz:z.length<=100000)(D:AllDigits d)(w:vK b)(H:j<=d.length)
  (e0:σ[0]?=some (some (.ref p)))(e:H1 p=some (.ins C l (rf z ((pre.length+j:Nat):Int))))(h:R (decide (j<d.length)) H1):rJ K σ H1 R:=by
 have F:=ot
 have G:z.length=pre.length+d.length+b.length:=by rw [mz,u];simp;omega
 refine ⟨_,e0,p,C,l,_,_,ϱ,e,T.cl,T.nP,dZ _ _,_,e0,p,C,l,_,_,ϱ,e,T.cl,T.nT,mx _ _,_,ϱ,ω,_,_,ϱ,ϱ,_,ϱ,?_⟩
 by_cases hlt:(pre.length+j:Nat)<z.length
 .rw [τ (show (((pre.length+j:Nat)):Int)<((z.length:Nat):Int) by omega)]
  have g:pre.length+j<z.cps.toList.length:=by rw [← mz];exact hlt
  obtain ⟨c,f⟩:∃c,z.cps.toList[pre.length+j]?=some c:=⟨_,ξ g⟩
  refine cr ⟨_,e0,p,C,l,_,_,ϱ,e,T.cl,T.nT,mx _ _,_,e0,p,C,l,_,_,ϱ,e,T.cl,T.nP,dZ _ _,z,_,c,ϱ,ϱ,ω,br f,ϱ,_,ϱ,ϱ,_,ϱ,?_⟩
  by_cases hjd:j<d.length
  .have o:d[j]?=some c:=by
    rw [u,œ,ń ω,List.getElem?_append_left ω] at f
    rw [← f];congr 1;omega
   have x:48<=c/\c<=57:=D c (Ŵ o)
   have q:Txt.isdigit ⟨#[c]⟩=true:=by rw [ly ω];unfold sF;rw [decide_eq_true x.1,decide_eq_true x.2];rfl
   rw [τ hjd] at h
   rw [q]
   exact h
  .have y:j=d.length:=by omega
   have o:b[0]?=some c:=by
    rw [u,ń (by rw [Ž];omega)] at f
    rw [← f];congr 1;rw [Ž];omega
   have i:c<128/\sF c=false:=by
    cases b with
    | nil=>cases o
    | cons a r=>exact w c r (by rw [show a=c by simpa using o])
   have q:Txt.isdigit ⟨#[c]⟩=false:=by rw [ly i.1];exact i.2
   rw [Γ hjd] at h
   rw [q]
   exact h
 .rw [Γ (show ¬(((pre.length+j:Nat)):Int)<((z.length:Nat):Int) by omega)]
  rw [Γ (show ¬j<d.length by omega)] at h
  exact aU h
def Ct(F:Fun K "read_number" "Reader.read_number" DS f fd)(T:Tx K mg C):FnOk P w K mg base CX0 1 f fd ["self"] (uV C):=by
 refine F.oj scNum λa5 A J s H vs Q E hr h=>?_
 obtain ⟨p,l,z,g,b,o,rfl,y,O,Y,D,G,q⟩:=h
 obtain ⟨U,I,d3,Z⟩:=D
 have hu:=ot
 have lz:z.length=g.length+b.length+o.length:=by rw [mz,y];simp;omega
 refine ⟨_,ah (aG (i:=1) scNum.nd rfl (Or.inl rfl) (au (pv 0) rfl))
  (ah (xK (tc:=rJ K) ō (PW.pt (gy (az se (au (pv 0) rfl) (aK bX rfl T.len Ů (ac (au (pv 0) rfl) ag)) (aA _))
    (fF (cK (Cl Ń PySem.F.slot_str_isdigit PySem.F.type_str_isdigit uj (ay yV (au (pv 0) rfl) (au (pv 0) rfl) (λ_ _=>rfl)))))))
   (aj (pR (pv 0) ai yW)))
  (ah (aG (i:=2) scNum.nd rfl (Or.inl rfl) (nQ B4 (au (pv 0) rfl) (iO (pv 1)) (iO (au (pv 0) rfl))))
  (ah (aJ (az bK (pv 2) aD (aA _)) aH aB)
  (ah (aJ (az vp (aK bX rfl T.len Ů (ac (pv 2) ag)) (sI T.cFig rfl) (aA _)) aH aB)
  (ah (aJ (PW.pt (gy (cK (iu Ń PySem.F.slot_str_startswith PySem.F.type_str_startswith pA (pv 2) (ac aD ag))) (fF (az ol (pv 2) aD (aA _))))) aH aB)
  (aj (aw (aP dU rfl T.int ő (ac (pv 2) ag))))))))),?_⟩
 refine ⟨_,ϱ,p,C,l,_,_,ϱ,O,T.cl,T.nP,dZ _ _,?_⟩
 refine ⟨λm σ H1=>∃j,m=b.length-j/\j<=b.length/\σ=[some (.ref p),some (.int (g.length:Nat)),none]/\H1 p=some (.ins C l (rf z ((g.length+j:Nat):Int)))/\But p H H1,
  ⟨b.length,0,ϱ,ϖ _,ϱ,O,But.refl p H⟩,?_⟩
 rintro m σ H1 ⟨j,rfl,hj,rfl,d,L⟩
 refine yL T y Y U G hj rfl d ?_
 by_cases hjd:j<b.length
 .rw [τ hjd]
  refine cr ⟨_,fun σ' H' h=>h,?_⟩
  refine ⟨_,ϱ,p,C,l,_,_,ϱ,d,T.cl,T.nP,dZ _ _,_,_,ϱ,ϱ,l,_,d,(by rw [xG];decide),?_⟩
  refine ⟨b.length-(j+1),ω,j+1,ϱ,hjd,ϱ,?_,L.upd _⟩
  rw [ae,xF]
  have e:(((g.length+j:Nat)):Int)+1=((g.length+(j+1):Nat):Int):=by omega
  rw [e]
 .rw [Γ hjd]
  obtain rfl:j=b.length:=by omega
  refine aU ?_
  refine ⟨_,ϱ,p,C,l,_,_,ϱ,d,T.cl,T.nT,mx _ _,_,ϱ,_,ϱ,_,ϱ,p,C,l,_,_,ϱ,d,T.cl,T.nP,dZ _ _,_,ϱ,z,ϱ,ω,?_⟩
  rw [vY y]
  have u:(({cps:=b.toArray}:Str)).length=b.length:=by simp [Str.length]
  refine ⟨_,ϱ,ϱ,_,ϱ,?_⟩
  have n1:¬(V.str ({cps:=b.toArray}:Str)=V.str (Str.ofString "")):=by
   intro e
   have W:(({cps:=b.toArray}:Str))=Str.ofString "":=by injection e
   rw [A3] at W
   have e2:=congrArg (λs:Str=>s.cps.toList) W
   exact I (by simpa using e2)
  rw [Γ n1]
  refine aU ?_
  refine ⟨_,ϱ,_,ϱ,ω,_,_,ϱ,ϱ,_,ϱ,?_⟩
  rw [Γ (show ¬((400:Int)<((({cps:=b.toArray}:Str)).length:Nat)) by rw [u];omega)]
  refine aU ?_
  have X:PySem.intText? ({cps:=b.toArray}:Str)=some ((digitsVal b:Nat):Int):=by
   have:=intText_digits (x:=({cps:=b.toArray}:Str)) (by simpa using U) (by simpa using I) (by rw [u];omega)
   simpa using this
  refine ⟨_,ϱ,ϱ,_,_,ϱ,ϱ,_,ϱ,?_⟩
  have hs:Txt.startswith ({cps:=b.toArray}:Str) (Str.ofString "0")=decide (b[0]?=some 48):=by
   rw [zm,zV,mF]
  rw [hs]
  rcases Z with e4 | h4
  .subst e4
   refine cr ⟨_,ϱ,ϱ,_,ϱ,?_⟩
   have n3:V.str ({cps:=([48]:ø).toArray}:Str)=V.str (Str.ofString "0"):=by rw [zm]
   rw [τ n3]
   exact aU ⟨_,ϱ,_,_,ϱ,X,by rw [u];omega,q H1 d L⟩
  .have n4:¬b[0]?=some 48:=by
    cases b with
    | nil=>exact absurd rfl I
    | cons c r=>intro e;exact h4 c r rfl (by simpa using e)
   rw [Γ n4]
   exact aU (aU ⟨_,ϱ,_,_,ϱ,X,by rw [u];omega,q H1 d L⟩)
inductive qE (C:é) (vs:à V) (H:Hp) (Q:VK) (E:XK):Prop|mk p dx z pre ds post:vs=[.ref p]->z.cps.toList=pre++ds++post->H p=some (.ins C dx (rf z (pre.length:Nat)))->z.length<=100000->zK ds->vK post->digitsVal ds≠0->(∀H',H' p=some (.ins C dx (rf z ((pre.length+ds.length:Nat):Int)))->But p H H'->Q (.int (-((digitsVal ds:Nat):Int))) H')->qE C vs H Q E
def scBelow:ao ["self","number"] ["self"] (defScope xC):=ß
def yJ{y:é}{D:ç}(F:Fun K "read_below" "Reader.read_below" xC f fd)(T:Tx K mg C)(X:FnOk P w K mg base CX0 1 y D ["self"] (uV C))(Y:Binds K D ["self"] [])(Z:i9 K C "read_number" y) :
  FnOk P w K mg base CX0 2 f fd ["self"] (qE C):=by
 refine F.oj scBelow λO A l s H vs Q E U h=>?_
 obtain ⟨p,r,z,d,u,b,rfl,G,x,I,g,j,J,q⟩:=h
 refine ⟨_,ah (aG (i:=1) scBelow.nd rfl (Or.inl rfl) (jE (pv 0) T.cl Z X U Y .nil be))
  (ah (aJ (az bK (pv 1) ai (aA _)) aH aB)
  (aj (aw (DY BL (pv 1))))),?_⟩
 refine ⟨_,ϱ,p,r,_,ϱ,x,rP _ _ θ θ,p,r,z,d,u,b,ϱ,G,x,I,g,j,λH1 o W=>?_⟩
 refine ⟨_,ϱ,ϱ,_,ϱ,?_⟩
 have L:¬(V.int ((digitsVal u:Nat):Int)=V.int 0):=by intro e;injection e with e;omega
 rw [Γ L]
 exact aU ⟨_,ϱ,_,ϱ,q H1 o W⟩
end
inductive Do:ø->V->Prop where
 | num (n:Int) (h:n.natAbs<10 ^ 400):Do (cy n) (.int n)
def Ends(post:ø):Prop:=∀c r,post=c::r->c=32\/c=41
def sO(m:Nat)(h:m<10 ^ 400):zK (ci m):=by
 refine ⟨gm m,jQ m,oM ζ h,?_⟩
 by_cases h0:m=0
 .subst h0;exact .inl wG
 .exact .inr (wH m h0)
def Ends.stops{post:ø}(h:Ends post):vK post:=λc r e=>by
 rcases h c r e with rfl | rfl<;>exact ⟨ζ,ζ⟩
def zn:(Str.ofString "(")=⟨#[40]⟩:=by decide +kernel
def vB:(Str.ofString "-")=⟨#[45]⟩:=by decide +kernel
def A4:(Str.ofString ":")=⟨#[58]⟩:=by decide +kernel
def zI{z:Str}{pre rest:ø}(e:z.cps.toList=pre++rest):z.cps.toList[pre.length]?=rest[0]?:=by
 rw [e,ń (ι _),Nat.sub_self]
def wI(m:Nat):∃c r,ci m=c::r/\48<=c/\c<=57:=by
 cases e:ci m with
 | nil=>exact absurd e (jQ m)
 | cons c r =>
  have h:=gm m
  rw [e] at h
  exact ⟨c,r,ϱ,h.head⟩
section
variable {P:ê}{w:è}{K:ä}{mg:ā}{base:ã}{f C:é}{fd:ç}
inductive xw (C:é) (vs:à V) (H:Hp) (Q:VK) (E:XK):Prop|mk p dx z pre it post v d:vs=[.ref p,d]->z.cps.toList=pre++it++post->H p=some (.ins C dx (rf z ((pre:ø).length:Nat)))->z.length<=100000->Do it v->Ends post->(∀H',H' p=some (.ins C dx (rf z ((pre.length+it.length:Nat):Int)))->But p H H'->Q v H')->xw C vs H Q E
def scAny:ao ["self","deep","number"] ["self","deep"] (defScope DU):=ß
def CI{fP fB fN:é}{dP dB dN:ç}(F:Fun K "read_any" "Reader.read_any" DU f fd)(T:Tx K mg C)
  (W:FnOk P w K mg base CX0 1 fP dP ["self","sign"] (tK C))(X:Binds K dP ["self","sign"] [])(Y:i9 K C "passes" fP)
  (GB:FnOk P w K mg base CX0 2 fB dB ["self"] (qE C))(bB:Binds K dB ["self"] [])(mB:i9 K C "read_below" fB)
  (GN:FnOk P w K mg base CX0 1 fN dN ["self"] (uV C))(bN:Binds K dN ["self"] [])(mN:i9 K C "read_number" fN) :
  FnOk P w K mg base CX0 3 f fd ["self","deep"] (xw C):=by
 refine F.oj scAny λap A L s H vs Q E hr h=>?_
 obtain ⟨p,g,z,pre,it,b,v,d,rfl,D,l,Z,I,u,q⟩:=h
 have o:=hr.mono (show 1<=2 by decide)
 have G:∀(k:Int),(rf z k).lookup ("passes":Str)=none:=λk=>rP _ _ θ θ
 have nn:∀(k:Int),(rf z k).lookup ("read_number":Str)=none:=λk=>rP _ _ θ θ
 have nb:∀(k:Int),(rf z k).lookup ("read_below":Str)=none:=λk=>rP _ _ θ θ
 refine ⟨_,ah (aJ (cK (jF (pv 0) T.cl Y W o X .nil be (ac aD ag))) aH aB)
  (ah (aJ (cK (jF (pv 0) T.cl Y W o X .nil be (ac aD ag))) (aj (aw (jE (pv 0) T.cl mB GB hr bB .nil be))) aB)
  (ah (aG (i:=2) scAny.nd rfl (Or.inl rfl) (jE (pv 0) T.cl mN GN o bN .nil be))
  (ah (aJ (cK (jF (pv 0) T.cl Y W o X .nil be (ac aD ag))) aH aB)
  (aj (aw (pv 2)))))),?_⟩
 have x:z.cps.toList=pre++(it++b):=by rw [D,œ]
 have h0:=zI x
 cases I with
 | num n hn =>
  by_cases hneg:n<0
  .have en:cy n=45::ci n.natAbs:=by unfold cy;rw [if_pos hneg]
   rw [en] at D x q h0
   have j:z.cps.toList[pre.length]?=some 45:=h0
   refine ⟨_,ϱ,p,g,_,ϱ,l,G _,p,g,z,40,pre.length,(by rw [zn];rfl),l,?_⟩
   rw [ž (by rw [j];decide)]
   refine ⟨_,ϱ,aU ?_⟩
   refine ⟨_,ϱ,p,g,_,ϱ,l,G _,p,g,z,45,pre.length,(by rw [vB];rfl),l,?_⟩
   rw [Ź j]
   refine ⟨_,ϱ,cr ?_⟩
   refine ⟨_,ϱ,p,g,_,ϱ,ae,nb _,p,g,z,pre++[45],ci n.natAbs,b,ϱ,(by rw [D];simp),(by rw [ae];simp),Z,sO _ hn,u.stops,(by rw [iJ];omega),λH' O U=>?_⟩
   have J:(-((digitsVal (ci n.natAbs):Nat):Int))=n:=by rw [iJ];omega
   rw [J]
   refine q H' ?_ (((But.refl p H).upd _).trans U)
   rw [O]
   have e2:(pre++[45]).length+(ci n.natAbs).length=pre.length+(45::ci n.natAbs).length:=by simp;omega
   rw [e2]
  .have en:cy n=ci n.natAbs:=by unfold cy;rw [if_neg hneg]
   rw [en] at D x q h0
   obtain ⟨c,r,ec,hc⟩:=wI n.natAbs
   have j:z.cps.toList[pre.length]?=some c:=by rw [h0,ec];rfl
   refine ⟨_,ϱ,p,g,_,ϱ,l,G _,p,g,z,40,pre.length,(by rw [zn];rfl),l,?_⟩
   rw [ž (by rw [j];intro e;injection e with e;omega)]
   refine ⟨_,ϱ,aU ?_⟩
   refine ⟨_,ϱ,p,g,_,ϱ,l,G _,p,g,z,45,pre.length,(by rw [vB];rfl),l,?_⟩
   rw [ž (by rw [j];intro e;injection e with e;omega)]
   refine ⟨_,ϱ,aU ?_⟩
   refine ⟨_,ϱ,p,g,_,ϱ,l,nn _,p,g,z,pre,ci n.natAbs,b,ϱ,D,l,Z,sO _ hn,u.stops,λH1 y U=>?_⟩
   have h1:z.cps.toList[pre.length+(ci n.natAbs).length]?=b[0]?:=by
    have:=zI (z:=z) (pre:=pre++ci n.natAbs) (rest:=b) D
    rw [Ž] at this
    exact this
   refine ⟨_,ϱ,p,g,_,ϱ,y,G _,p,g,z,58,pre.length+(ci n.natAbs).length,(by rw [A4];rfl),y,?_⟩
   rw [ž (by
    rw [h1]
    intro e
    cases b with
    | nil=>cases e
    | cons a r' =>
     have:=u a r' rfl
     have ea:a=58:=by simpa using e
     omega)]
   refine ⟨_,ϱ,aU ⟨_,ϱ,?_⟩⟩
   have J:((digitsVal (ci n.natAbs):Nat):Int)=n:=by rw [iJ];omega
   rw [J]
   exact q H1 y U
inductive tI (vs:à V) (H:Hp) (Q:VK) (E:XK):Prop|mk z v:vs=[.str z]->Do z.cps.toList v->((∀c∈z.cps.toList,ug c=true))->z.length<=100000->(∀H',Same H H'->Q v H')->tI vs H Q E
def scRead:ao ["text","reader","thing"] ["text"] (defScope u6):=ß
def xI:Scope:=match defBody u6 with
 | _::.If (.UnaryOp _ (.Call _ [.ListComp _ _ sc _] _ _) _) _ _ _::_=>sc
 | _=>default
def B8:BlkScope ["text","reader","thing"] (defScope u6) xI "sign" ["sign"] []:=⟨θ,ϱ,θ,ϱ,θ,θ,ϱ,ϱ,λj h=>absurd h (ŝ j)⟩
def Am{Y fI fA:é}{dG dI dA:ç}(F:Fun K "read_thing" "read_thing" u6 f fd)(T:Tx K mg C)(M:Mk K C fI)
  (GG:FnOk P w K mg base CX0 1 Y dG ["sign"] tH)(bG:Binds K dG ["sign"] [])(kG:PySem.W.keepIn K (.ref Y)=true)(mG:mg "is_sign"=some (.ref Y))
  (GI:FnOk P w K mg base CX0 1 fI dI ["self","text"] (tO C))(bI:Binds K dI ["self","text"] [])
  (GA:FnOk P w K mg base CX0 3 fA dA ["self","deep"] (xw C))(bA:Binds K dA ["self","deep"] [])(mA:i9 K C "read_any" fA) :
  FnOk P w K mg base CX0 4 f fd ["text"] tI:=by
 refine F.oj scRead λab A J s H vs Q E L h=>?_
 obtain ⟨z,v,rfl,j,u,hz,q⟩:=h
 have y:=L.mono (show 1<=3 by decide)
 have D:=L.mono (show 2<=3 by decide)
 have hu:=ot
 refine ⟨_,ah (aJ (az vp (aK bX rfl T.len Ů (ac (pv 0) ag)) (sI T.cLong rfl) (aA _)) aH aB)
  (ah (aJ (io (cK (aK (sV rfl) rfl T.all PyProof.Rows.boot_all (ac (fq B8 rfl (Cg (pv 0)) (λ_ _ _ _=>cj) (λ_ _ _ _=>vh GG y rfl mG kG bG .nil be (ac (pv 0) ag))) ag)))) aH aB)
  (ah (aG (i:=1) scRead.nd rfl (Or.inl rfl) (bb M GI D rfl T.mgC bI .nil be (ac (pv 0) ag)))
  (ah (aG (i:=2) scRead.nd rfl (Or.inl rfl) (jF (pv 1) T.cl mA GA L bA .nil be (ac (sI T.cDeep rfl) ag)))
  (ah (aJ (az ol (au (pv 1) rfl) (aK bX rfl T.len Ů (ac (pv 0) ag)) (aA _)) aH aB)
  (aj (aw (pv 2))))))),?_⟩
 refine ⟨_,ϱ,z,ϱ,ω,_,_,ϱ,ϱ,_,ϱ,?_⟩
 rw [Γ (show ¬((100000:Int)<((z.length:Nat):Int)) by omega)]
 refine aU ?_
 refine ⟨_,ϱ,z,ϱ,λi Z H1=>i<=z.length/\Z=List.replicate i (V.bl true)/\H1=H,z.length,⟨ϖ _,ϱ,ϱ⟩,ω,?_⟩
 rintro i Z H1 ⟨hi,rfl,rfl⟩
 by_cases hlt:i<z.length
 .refine .inr ⟨hlt,hlt,?_⟩
  rintro x H2 ⟨rfl,c,hc,rfl⟩
  refine ⟨_,ϱ,c,ϱ,hlt,?_,ϱ⟩
  rw [u c (Ŵ hc),List.replicate_succ']
 refine .inl ⟨by show z.length<=i;omega,λl hl=>?_⟩
 have e0:List.replicate i (V.bl true)=(List.replicate i true).map V.bl:=by simp
 refine ⟨l,List.replicate i true,ϱ,SqL.of (by rw [ae,e0]),_,ϱ,?_⟩
 have e1:(List.replicate i true).all id=true:=by simp
 rw [e1]
 refine aU ?_
 have sl:Same H1 (upd H1 l (.lst (List.replicate i (V.bl true)))):=λb o e=>by rw [am (aq e hl)];exact e
 refine ⟨_,ϱ,λx g nx O ar=>⟨x,g,z,ϱ,ae,ϱ,?_⟩⟩
 refine ⟨_,ϱ,x,g,_,ϱ,ae,rP _ _ θ θ,x,g,z,[],z.cps.toList,[],v,_,ϱ,(by simp),ae,hz,j,(λc r e=>nomatch e),λH3 U X=>?_⟩
 refine ⟨_,ϱ,x,C,g,_,_,ϱ,U,T.cl,T.nP,dZ _ _,_,ϱ,z,ϱ,ω,ϱ,_,ϱ,?_⟩
 have e2:V.int ((([]:ø).length+z.cps.toList.length:Nat):Int)=V.int ((z.length:Nat):Int):=by rw [mz];simp
 rw [τ e2]
 refine aU ⟨_,ϱ,q H3 λb o e=>?_⟩
 have G:=sl b o e
 have d:b≠x:=aq G nx
 have I:b≠g:=aq G O
 refine X b o ?_ d
 rw [am d,am d,am d,am I]
 exact G
end
end K55T
namespace K55
open PySem L2 Lo St
section
variable {P:ê}{w:è}{K:ä}{mg:ā}{base:ã}{f CL CS CH CV:é}{fd:ç}{C:Kd->é}{CW:Wd->é}
def Ap(F:Fun K "made_sum" "made_sum" jh f fd)(I:WI P w K mg base CW .sum):FnOk P w K mg base CX0 4 f fd ["where","low","high"] (tM CW):=by
 refine F.oj rM λo A e s H vs Q E r h=>?_
 obtain ⟨x,y,z,rfl,i,q⟩:=h
 have d:Room (2+1) _:=r
 refine ⟨_,ah (aJ (az vp (pv 1) (pv 2) (aA _)) aH aB) (aj (aw (bb I.M I.ok d rfl I.m I.b .nil be (ac (pv 0) (ac (pv 1) (ac (pv 2) ag)))))),?_⟩
 have l:y<=z:=i.2.2.2
 refine ⟨_,ϱ,_,ϱ,_,_,ϱ,ϱ,_,ϱ,bD (λc=>absurd (Ξ c) (show ¬z<y by omega)) (λ_=>?_)⟩
 exact ⟨_,ϱ,_,ϱ,_,ϱ,λp j u g C=>⟨p,j,[x,y,z],ϱ,i,ae,λD h1 G=>⟨ϱ,q _ D (oq u g G) ⟨p,j,ϱ,h1⟩⟩⟩⟩
def yo(F:Fun K "made_step" "made_step" ig f fd)(I:∀wd,WI P w K mg base CW wd)(Y:GF P w K mg base CX0 4 "made_sum" ["where","low","high"] (tM CW)):FnOk P w K mg base CX0 5 f fd ["word","numbers"] (tL CW):=by
 refine F.oj qG λG A C s H vs Q E D h=>?_
 obtain ⟨wd,b,Z,rfl,hb,g,q⟩:=h
 have i:Room (2+1) _:=D.mono ζ
 refine ⟨_,(ah (aJ (az bK (pv 0) aD (aA _)) (aj (aw (bb (I .take).M (I .take).ok i rfl (I .take).m (I .take).b .nil be (ac (ay (r:=cH K) aI (pv 1) ai (λ_ _=>rfl)) (ac (ay (r:=cH K) aI (pv 1) ai (λ_ _=>rfl)) ag))))) aB)
  (ah (aJ (az bK (pv 0) aD (aA _)) (aj (aw (bb (I .mean).M (I .mean).ok i rfl (I .mean).m (I .mean).b .nil be (ac (ay (r:=cH K) aI (pv 1) ai (λ_ _=>rfl)) (ac (ay (r:=cH K) aI (pv 1) ai (λ_ _=>rfl)) ag))))) aB)
  (ah (aJ (az bK (pv 0) aD (aA _)) (aj (aw (pc Y D (ac (ay (r:=cH K) aI (pv 1) ai (λ_ _=>rfl)) (ac (ay (r:=cH K) aI (pv 1) ai (λ_ _=>rfl)) (ac (ay (r:=cH K) aI (pv 1) ai (λ_ _=>rfl)) ag)))))) aB)
  (ah (aJ (az bK (pv 0) aD (aA _)) (aj (aw (bb (I .give).M (I .give).ok i rfl (I .give).m (I .give).b .nil be (ac (ay (r:=cH K) aI (pv 1) ai (λ_ _=>rfl)) (ac (ay (r:=cH K) aI (pv 1) ai (λ_ _=>rfl)) ag))))) aB)
  (ah (aJ (az bK (pv 0) aD (aA _)) (aj (aw (bb (I .add).M (I .add).ok i rfl (I .add).m (I .add).b .nil be (ac (ay (r:=cH K) aI (pv 1) ai (λ_ _=>rfl)) (ac (ay (r:=cH K) aI (pv 1) ai (λ_ _=>rfl)) (ac (ay (r:=cH K) aI (pv 1) ai (λ_ _=>rfl)) ag)))))) aB)
  (ah (aJ (az bK (pv 0) aD (aA _)) (aj (aw (bb (I .plus).M (I .plus).ok i rfl (I .plus).m (I .plus).b .nil be (ac (ay (r:=cH K) aI (pv 1) ai (λ_ _=>rfl)) ag)))) aB)
  (aj (aw (bb (I .need).M (I .need).ok i rfl (I .need).m (I .need).b .nil be (ac (ay (r:=cH K) aI (pv 1) ai (λ_ _=>rfl)) ag)))))))))),?_⟩
 refine ⟨_,ϱ,ϱ,_,ϱ,bD (λc=>?_) (λJ=>?_)⟩
 .obtain rfl:wd=.take:=hZ c
  obtain ⟨x,y,rfl,_⟩:=g.c rfl
  exact ⟨_,ϱ,b,_,_,_,ϱ,ϱ,SqL.of hb,ϱ,_,ϱ,b,_,_,_,ϱ,ϱ,SqL.of hb,ϱ,λp e j d l=>⟨p,e,[x,y],ϱ,g,ae,λo h1 u=>⟨ϱ,q _ o (oq j d u) ⟨p,e,ϱ,h1⟩⟩⟩⟩
 refine ⟨_,ϱ,ϱ,_,ϱ,bD (λc=>?_) (λL=>?_)⟩
 .obtain rfl:wd=.mean:=hZ c
  obtain ⟨x,y,rfl,_⟩:=g.c rfl
  exact ⟨_,ϱ,b,_,_,_,ϱ,ϱ,SqL.of hb,ϱ,_,ϱ,b,_,_,_,ϱ,ϱ,SqL.of hb,ϱ,λp e j d l=>⟨p,e,[x,y],ϱ,g,ae,λo h1 u=>⟨ϱ,q _ o (oq j d u) ⟨p,e,ϱ,h1⟩⟩⟩⟩
 refine ⟨_,ϱ,ϱ,_,ϱ,bD (λc=>?_) (λO=>?_)⟩
 .obtain rfl:wd=.sum:=hZ c
  obtain ⟨x,y,z,rfl,_⟩:=g.s
  exact ⟨_,ϱ,b,_,_,_,ϱ,ϱ,SqL.of hb,ϱ,_,ϱ,b,_,_,_,ϱ,ϱ,SqL.of hb,ϱ,_,ϱ,b,_,_,_,ϱ,ϱ,SqL.of hb,ϱ,x,y,z,ϱ,g,q⟩
 refine ⟨_,ϱ,ϱ,_,ϱ,bD (λc=>?_) (λU=>?_)⟩
 .obtain rfl:wd=.give:=hZ c
  obtain ⟨x,y,rfl,_⟩:=g.c rfl
  exact ⟨_,ϱ,b,_,_,_,ϱ,ϱ,SqL.of hb,ϱ,_,ϱ,b,_,_,_,ϱ,ϱ,SqL.of hb,ϱ,λp e j d l=>⟨p,e,[x,y],ϱ,g,ae,λo h1 u=>⟨ϱ,q _ o (oq j d u) ⟨p,e,ϱ,h1⟩⟩⟩⟩
 refine ⟨_,ϱ,ϱ,_,ϱ,bD (λc=>?_) (λW=>?_)⟩
 .obtain rfl:wd=.add:=hZ c
  obtain ⟨x,y,z,rfl,_⟩:=g.a
  exact ⟨_,ϱ,b,_,_,_,ϱ,ϱ,SqL.of hb,ϱ,_,ϱ,b,_,_,_,ϱ,ϱ,SqL.of hb,ϱ,_,ϱ,b,_,_,_,ϱ,ϱ,SqL.of hb,ϱ,λp e j d l=>⟨p,e,[x,y,z],ϱ,g,ae,λo h1 u=>⟨ϱ,q _ o (oq j d u) ⟨p,e,ϱ,h1⟩⟩⟩⟩
 refine ⟨_,ϱ,ϱ,_,ϱ,bD (λc=>?_) (λX=>?_)⟩
 .obtain rfl:wd=.plus:=hZ c
  obtain ⟨x,rfl,_⟩:=g.p
  exact ⟨_,ϱ,b,_,_,_,ϱ,ϱ,SqL.of hb,ϱ,λp e j d l=>⟨p,e,[x],ϱ,g,ae,λo h1 u=>⟨ϱ,q _ o (oq j d u) ⟨p,e,ϱ,h1⟩⟩⟩⟩
 obtain rfl:wd=.need:=BI (dv (b:=.take) J) (dv (b:=.mean) L) (dv (b:=.sum) O) (dv (b:=.give) U) (dv (b:=.add) W) (dv (b:=.plus) X)
 obtain ⟨x,rfl,_⟩:=g.n
 exact ⟨_,ϱ,b,_,_,_,ϱ,ϱ,SqL.of hb,ϱ,λp e j d l=>⟨p,e,[x],ϱ,g,ae,λo h1 u=>⟨ϱ,q _ o (oq j d u) ⟨p,e,ϱ,h1⟩⟩⟩⟩
def Al{l:é}{x:ü}{new:String}(F:Fun K "read_number" "read_number" fV f fd)(B:TxB mg)(y:mg "NoThing"=some (.ref l))(O:PySem.W.excIn K l x new=true)(hb:x.contains (.type "BaseException")=true)
  (U:∃t,mg "MOST_FIGURES_steps"=some (.int 40 t))(X:GF P w K mg base CX0 4 "read_thing" ["text"] K55T.tI)(Y:GF P w K mg base CX0 1 "is_whole" ["thing"] K55T.qt):FnOk P w K mg base CX0 5 f fd ["word","letter"] tJ:=by
 refine F.oj sc_read_number λJ A g s H vs Q E o h=>?_
 obtain ⟨i,c,rfl,e,b,q⟩:=h
 have nd:=sc_read_number.nd
 refine ⟨_,ah (v7 (j:=2) (C:=l) rfl rfl rfl nd rfl (Or.inl rfl) (Ci (pc X o (ac (pv 0) ag))) rfl y (tF y O hb) (λ_=>aH))
  (ah (aJ (PW.pt (pP (io (cK (pc Y o (ac (pv 2) ag)))) (kq (az vp (aK bX rfl B.len Ů (ac (iu Ń PySem.F.slot_str_lstrip PySem.F.type_str_lstrip uh (pv 0) (ac aD ag)) ag)) (sI U rfl) (aA _))))) aH aB)
  (ah (aJ (PW.pt (gy (az se (pv 2) ai (aA _)) (fF (az ol (pv 1) aD (aA _))))) aH aB)
  (aj (aw (pv 2))))),?_⟩
 have D:=AX e
 have h1:(100000:Nat)<=sizeLine:=by decide
 have G:=ut e
 refine ⟨_,ϱ,iS i,.int i,ϱ,(by rw [sG];exact .num i (Nat.lt_trans e θ)),(λd r=>?_),D,λH1 u=>?_⟩
 .rw [sG] at r
  rcases CJ r with rfl | ⟨a1,a2⟩
  .decide
  .show (decide _&&decide _&&_)=true
   simp
   omega
 refine ⟨_,ϱ,_,ϱ,_,ϱ,aU ?_⟩
 refine ⟨_,ϱ,ϱ,iS i,_,ϱ,ϱ,ω,_,ϱ,Λ G ζ,_,_,ϱ,ϱ,_,ϱ,bD (λc=>absurd (Ξ c) (λz=>?_)) (λ_=>?_)⟩
 .have Z:(40:Int)<(((Txt.lstripChars (iS i) (Str.ofString "-")).length:Nat):Int):=z
  omega
 refine ⟨_,ϱ,_,_,ϱ,ϱ,_,ϱ,bD (λL=>?_) (λ_=>⟨_,ϱ,q H1 u⟩)⟩
 have I:c=86:=b (Ξ L)
 subst I
 exact ⟨_,ϱ,ϱ,_,ϱ,Bz (congrArg V.str θ) ⟨_,ϱ,q H1 u⟩⟩
def yk(F:Fun K "read_step" "read_step" dY f fd)(B:TxB mg){L:é}(mS:mg "SHAPES"=some (.ref L))(tS:TabK K L mw)(GN:GF P w K mg base CX0 5 "read_number" ["word","letter"] tJ)
  (GS:GF P w K mg base CX0 5 "made_step" ["word","numbers"] (tL CW)):FnOk P w K mg base CX0 6 f fd ["text"] (mi CW):=by
 refine F.oj sc_read_step λa1 A C s H vs Q E U h=>?_
 obtain ⟨d,b,rfl,g,q⟩:=h
 have nd:=sc_read_step.nd
 have u:=g.len
 have x:=zW g
 refine ⟨_,ah (aG (i:=1) nd rfl (Or.inr rfl) (iu Ń PySem.F.slot_str_split PySem.F.type_str_split pU (pv 0) (ac aD ag)))
  (ah (aG (i:=2) nd rfl (Or.inr rfl) (Ac (D:=mw) (gC (v:=.ref L) rfl mS rfl) (ay (r:=cH K) aI (pv 1) ai (λ_ _=>rfl)) ⟨ϱ,ϱ,ϱ,ϱ⟩ tS))
  (ah (aJ (PW.pt (pP (az qV (pv 2) c6 (aA _)) (kq (az ol (aK bc rfl B.len Ů (ac (pv 1) ag)) (aE bW (aK bX rfl B.len Ů (ac (pv 2) ag)) ai) (aA _))))) aH aB)
  (aj (aw (pc GS U (ac (ay (r:=cH K) aI (pv 1) ai (λ_ _=>rfl)) (ac (fq nj rfl (cX rfl B.range (ac (aK bX rfl B.len Ů (ac (pv 2) ag)) ag)) (λ_ _ _ _=>cj)
   (λ_ _ _ _=>pc GN U (ac (ay (r:=cH K) aI (pv 1) (aE bW (pv 0) ai) (λ_ _=>rfl)) (ac (ay yV (pv 2) (pv 0) (λ_ _=>rfl)) ag)))) ag))))))),?_⟩
 refine ⟨_,ϱ,ϱ,txt d b,32,ϱ,congrArg (λz=>[V.str z]) mW,uM g,λp hp=>?_⟩
 rw [pN]
 have O:Same H _:=af (o:=.lst ((wS d::b.map iS).map V.str)) hp
 have e:(upd H p (.lst ((wS d::b.map iS).map V.str))) p=some (.lst ((wS d::b.map iS).map V.str)):=ae
 generalize (upd H p _)=H1 at O e ⊢
 refine ⟨_,ϱ,p,_,_,_,ϱ,ϱ,SqL.of e,St.at0,wS d,shp d,ϱ,xx d,?_⟩
 refine ⟨_,ϱ,ϱ,_,ϱ,bD (λc=>absurd (Ξ c) (by intro z;cases z)) (λ_=>?_)⟩
 refine ⟨_,ϱ,p,_,ϱ,.inl (SqL.of e),_,ϱ,_,ϱ,mU d,_,_,ϱ,ϱ,ϱ,_,ϱ,Bz ?_ ?_⟩
 .rw [x]
  simp
 refine ⟨_,ϱ,p,_,_,_,ϱ,ϱ,SqL.of e,St.at0,?_⟩
 refine ⟨_,ϱ,_,ϱ,mU d,_,ϱ,ω,by rw [x];omega,?_⟩
 have e0:(((shp d).length:Nat):Int).toNat=b.length:=by rw [x];rfl
 rw [e0]
 refine jN (n:=b.length) (λi G H'=>Same H1 H'/\G=(b.take i).map V.int) ⟨Same.refl _,ϱ⟩ (Λ u.2 ζ) ?_ ?_
 .rintro i G H2 X ⟨l,rfl⟩
  have y:b[i]?=some b[i]:=ξ X
  obtain ⟨c,Y,j⟩:=B5 g y
  refine jr ⟨_,ϱ,_,ϱ,_,_,ϱ,ϱ,p,_,_,_,ϱ,ϱ,SqL.of (l _ _ e),?_,_,ϱ,_,ϱ,_,_,_,ϱ,ϱ,mU d,br Y,b[i],c,ϱ,g.all _ (List.getElem_mem X),j,λW I=>⟨l.trans I,?_⟩⟩
  .have Z:((i:Nat):Int)+1=((i+1:Nat):Int):=rfl
   rw [Z]
   refine br ?_
   rw [ű,List.getElem?_cons_succ,ķ,Ż,y]
   rfl
  .have e2:b.take (i+1)=b.take i++[b[i]]:=by
    rw [List.take_add_one,y]
    rfl
   rw [e2,ſ]
   rfl
 .rintro G H2 ⟨l,rfl⟩ p2 J
  rw [Ŭ]
  exact ⟨d,p2,b,ϱ,ae,g,λv W I st=>q v W (O.trans (l.trans ((af J).trans I))) st⟩
structure Aw where
 (l dx lk pl dr an pe:é)
def wf(S:é)(home many:Int)(W:Aw):List (Str×V):=ax "pending" (.ref W.pe) (ax "answers" (.ref W.an) (ax "drafts" (.ref W.dr) (ax "locks" (.ref W.lk) (ax "many" (.int many) (ax "home" (.int home) (ax "stand" (.ref S) []))))))
section
variable {S:é}{home many:Int}{W:Aw}
def pF:(wf S home many W).lookup ("pending":Str)=some (.ref W.pe):=bM
def k9:(wf S home many W).lookup ("answers":Str)=some (.ref W.an):=by unfold wf;rw [aO θ,bM]
def uJ:(wf S home many W).lookup ("drafts":Str)=some (.ref W.dr):=by unfold wf;rw [aO θ,aO θ,bM]
def uI:(wf S home many W).lookup ("locks":Str)=some (.ref W.lk):=by unfold wf;rw [aO θ,aO θ,aO θ,bM]
def Bi:(wf S home many W).lookup ("stand":Str)=some (.ref S):=by unfold wf;rw [aO θ,aO θ,aO θ,aO θ,aO θ,aO θ,bM]
def cW{m:Str}(h:decide (m∈(["pending","answers","drafts","locks","many","home","stand"]:ú))=false):(wf S home many W).lookup m=none:=by
 have b:m∉(["pending","answers","drafts","locks","many","home","stand"]:ú):=ē h
 simp only [List.mem_cons,List.not_mem_nil,or_false,not_or] at b
 obtain ⟨h1,d,e,f,g,i,j⟩:=b
 unfold wf
 rw [aO h1,aO d,aO e,aO f,aO g,aO i,aO j]
 rfl
end
structure TxV(K:ä)(CV:é):Prop where
 cl:Cls K CV
 st:NoAttr K CV "stand"
 ho:NoAttr K CV "home"
 mn:NoAttr K CV "many"
 lk:NoAttr K CV "locks"
 dr:NoAttr K CV "drafts"
 an:NoAttr K CV "answers"
 pe:NoAttr K CV "pending"
def eU(dk:List (Key×V))(cells:ù)(c:Int):Int:=match aY dk (.inl c) with | some (.int v)=>v | _=>cells.getD c.toNat 0
def DrI(dk:List (Key×V)):Prop:=∀(c:Int) (v:V),aY dk (.inl c)=some v->∃i,v=.int i
structure Dr where
 (y:Pa)(a:é)(k:List (Key×V))
structure Pd where
 (y:Pa)(a:é)(i hand:Int)(wd:Wd)(ns:ù)
def dD(xs:à Dr):List (List Key×V):=xs.map λe=>(pk e.y,V.ref e.a)
def dP(xs:à Pd):List (List Key×V):=xs.map λe=>(pk e.y,V.ref e.a)
def aF(xs:à Dr)(y:Pa):Option Dr:=xs.find? λe=>decide (e.y=y)
def bT(xs:à Pd)(y:Pa):Option Pd:=xs.find? λe=>decide (e.y=y)
def dw(xs:à Dr)(y:Pa):aY (dD xs) (pk y)=(aF xs y).map λe=>V.ref e.a:=md xs Dr.y (λe=>V.ref e.a) y
def gr(xs:à Pd)(y:Pa):aY (dP xs) (pk y)=(bT xs y).map λe=>V.ref e.a:=md xs Pd.y (λe=>V.ref e.a) y
def cS{xs:à Dr}{y:Pa}{e:Dr}(h:aF xs y=some e):e∈xs/\e.y=y:=⟨Ŀ h,Ξ (List.find?_some (p:=λe:Dr=>decide (e.y=y)) h)⟩
def fJ{xs:à Pd}{y:Pa}{e:Pd}(h:bT xs y=some e):e∈xs/\e.y=y:=⟨Ŀ h,Ξ (List.find?_some (p:=λe:Pd=>decide (e.y=y)) h)⟩
def dset(xs:à Dr)(y:Pa)(k:List (Key×V)):à Dr:=xs.map λe=>if e.y=y then ⟨e.y,e.a,k⟩ else e
def df(xs:à Dr):Cs:=xs.map λe=>(e.a,HO.dK e.k)
def rC(xs:à Dr):ad (df xs)=xs.map Dr.a:=by unfold ad df;rw [List.map_map];rfl
def Dc(xs:à Dr)(y:Pa)(k:List (Key×V)):(dset xs y k).map Dr.a=xs.map Dr.a:=by
 unfold dset
 rw [ķ]
 exact ğ λe _=>by show (if e.y=y then (⟨e.y,e.a,k⟩:Dr) else e).a=e.a;split<;>rfl
def zp(xs:à Dr)(y:Pa)(k:List (Key×V)):(dset xs y k).map Dr.y=xs.map Dr.y:=by
 unfold dset
 rw [ķ]
 exact ğ λe _=>by show (if e.y=y then (⟨e.y,e.a,k⟩:Dr) else e).y=e.y;split<;>rfl
def zq(xs:à Dr)(y:Pa)(k:List (Key×V)):dD (dset xs y k)=dD xs:=by
 unfold dset dD
 rw [ķ]
 exact ğ λe _=>by show (pk (if e.y=y then (⟨e.y,e.a,k⟩:Dr) else e).y,V.ref (if e.y=y then (⟨e.y,e.a,k⟩:Dr) else e).a)=_;split<;>rfl
def Ow.re{N:û}{j H H':Hp}{L f:Cs}{a:é}(g:Ow CH CL N j H L)(o:a∈ad L)(k:Kp a H H')(l:ad f=ad L)(co:∀x∈f,x.1≠a->x∈L)(r:∀x∈f,x.1=a->H' a=some x.2):Ow CH CL N j H' f:=by
 have i:∀x∈f,∃y∈L,y.1=x.1:=λx d=>ϑ.mp (show x.1∈ad L from l▸ϑ.mpr ⟨x,d,ϱ⟩)
 obtain ⟨y0,e,e0⟩:=ϑ.mp o
 refine ⟨λx d=>?_,l▸g.nd,λx d=>?_,λx d=>?_,λb u n z=>k b u (λy=>?_) (g.fr b u n z),λb u z w=>k b u (λy=>g.mu y0 e u (by rw [show y0.1=a from e0,← y];exact z) w) (g.im b u z w)⟩
 .by_cases z:x.1=a
  .rw [z];exact r x d z
  .exact k _ _ z (g.co x (co x d z))
 .obtain ⟨y,h,q⟩:=i x d;rw [← q];exact g.mu y h
 .obtain ⟨y,h,q⟩:=i x d;rw [← q];exact g.nw y h
 .rcases g.nw y0 e with m | m
  .exact n (by rw [y,← show y0.1=a from e0];exact m)
  .rw [show y0.1=a from e0,← y,z] at m;cases m
def Ow.dset{N:û}{K H H':Hp}{A B:Cs}{xs:à Dr}{y:Pa}{e:Dr}{k:List (Key×V)}(g:Ow CH CL N K H (A++(df xs++B)))(h:aF xs y=some e)(nd:(xs.map Dr.y).Nodup)(kp:Kp e.a H H')(q:H' e.a=some (.dK k)):Ow CH CL N K H' (A++(df (K55.dset xs y k)++B)):=by
 obtain ⟨l,I⟩:=cS h
 have L:(e.a,HO.dK e.k)∈A++(df xs++B):=Ψ _ (ź _ (ϑ.mpr ⟨e,l,ϱ⟩))
 have one:∀f∈xs,f.y=y->f=e:=λf hf z=>by
  obtain ⟨i,d⟩:=ť hf
  obtain ⟨j,o⟩:=ť l
  have w:(xs.map Dr.y)[i]?=some y:=by rw [Ż,d];exact congrArg some z
  have D:(xs.map Dr.y)[j]?=some y:=by rw [Ż,o];exact congrArg some I
  have F:=(ĥ (ż.mp w).1 nd).mp (w.trans D.symm)
  rw [F,o] at d
  exact (Δ d).symm
 refine Ow.re g (ϑ.mpr ⟨_,L,ϱ⟩) kp ?_ (λx G J=>?_) λx G C=>?_
 .have:ad (df (K55.dset xs y k))=ad (df xs):=by rw [rC,rC,Dc]
  unfold ad at this ⊢
  rw [ſ,ſ,ſ,ſ,this]
 .rcases Ŷ.mp G with m | m
  .exact ź _ m
  rcases Ŷ.mp m with m | m
  .obtain ⟨f,hf,rfl⟩:=ϑ.mp m
   obtain ⟨r,h0,rfl⟩:=ϑ.mp hf
   by_cases z:r.y=y
   .rw [Ź z] at J
    exact absurd (by rw [one r h0 z]) J
   .rw [ž z]
    exact Ψ _ (ź _ (ϑ.mpr ⟨r,h0,ϱ⟩))
  .exact Ψ _ (Ψ _ m)
 .have inj:∀u v:Addr×HO,u∈A++(df xs++B)->v∈A++(df xs++B)->u.1=v.1->u=v:=λu v P Q z=>Ć z (by have:=g.co u P;rw [z,g.co v Q] at this;exact (Δ this).symm)
  have b:=g.nd
  rcases Ŷ.mp G with m | m
  .exfalso
   unfold ad at b
   rw [ſ,Ŧ] at b
   exact b.2.2 x.1 (ϑ.mpr ⟨x,m,ϱ⟩) e.a (by rw [ſ];exact ź _ (ϑ.mpr ⟨_,ϑ.mpr ⟨e,l,ϱ⟩,ϱ⟩)) C
  rcases Ŷ.mp m with m | m
  .obtain ⟨f,hf,rfl⟩:=ϑ.mp m
   obtain ⟨r,h0,rfl⟩:=ϑ.mp hf
   by_cases z:r.y=y
   .rw [Ź z];exact q
   .exfalso
    rw [ž z] at C
    have O:(xs.map Dr.a).Nodup:=by
     unfold ad at b
     rw [ſ,Ŧ,ſ,Ŧ] at b
     have:=b.2.1.1
     rw [← rC]
     exact this
    obtain ⟨i,d⟩:=ť h0
    obtain ⟨j,o⟩:=ť l
    have w:(xs.map Dr.a)[i]?=some e.a:=by rw [Ż,d];exact congrArg some C
    have D:(xs.map Dr.a)[j]?=some e.a:=by rw [Ż,o];rfl
    have F:=(ĥ (ż.mp w).1 O).mp (w.trans D.symm)
    rw [F,o] at d
    exact z (by rw [← Δ d];exact I)
  .exfalso
   unfold ad at b
   rw [ſ,Ŧ,ſ,Ŧ] at b
   exact b.2.1.2.2 e.a (ϑ.mpr ⟨_,ϑ.mpr ⟨e,l,ϱ⟩,ϱ⟩) x.1 (ϑ.mpr ⟨x,m,ϱ⟩) C.symm
inductive js (CS CV:é) (vs:à V) (H:Hp) (Q:VK) (E:XK):Prop|mk W home many A cs p pa dr dk c:vs=[.ref (W:Aw).l,.ref pa,.int c]->H W.l=some (.ins CV W.dx (wf (A:Ad).l home many W))->H W.dr=some (.dT (dD dr))->((∀e,aF dr p=some e->H e.a=some (.dK dk)))->((aF dr p=none->dk=[]))->DrI dk->H A.l=some (.ins CS A.dx (sf A))->H A.cl=some (.lst ((cs:ù).map V.int))->PaA H p pa->0<=c->c<cs.length->(∀H',Same H H'->Q (.int (eU dk cs c)) H')->js CS CV vs H Q E
def yi(F:Fun K "value_at" "Works.value_at" dH f fd)(D:TxD K CS)(T:TxV K CV)(GC:GM P w K mg base CX0 1 CS "cell_at" ["self","cell"] (jx CS)):FnOk P w K mg base CX0 2 f fd ["self","p","cell"] (js CS CV):=by
 refine F.oj sc_Works_value_at λa3 A I s H vs Q E z h=>?_
 obtain ⟨W,J,L,A,j,p,pa,dr,r,c,rfl,O,U,Y,Z,di,X,C,hp,c0,c1,q⟩:=h
 have nd:=sc_Works_value_at.nd
 refine ⟨_,ah (aG (i:=3) nd rfl (Or.inl rfl) (rY (cE z) (au (pv 0) rfl) (pv 1) jG ⟨ϱ,ϱ,ϱ,ϱ⟩))
  (aj (aw (rW (ip (qS (cE z) (pv 2) (pv 3))) (dQ (cE z) (pv 3) (pv 2) (λ_ _=>rfl)) (pm GC (au (pv 0) rfl) D.cl z (ac (pv 2) ag))))),?_⟩
 refine ⟨_,ϱ,W.l,CV,W.dx,_,_,ϱ,O,T.cl,T.dr,uJ,W.dr,ϱ,.inr ⟨_,.inl U⟩,_,ϱ,λq0 g=>⟨_,DGet.t (k:=pk p) (af g _ _ U) (af g _ _ hp),?_⟩⟩
 have d:=af (o:=.dK []) g
 rw [dw]
 obtain ⟨x,hx,u⟩:∃x,((aF dr p).map λe=>V.ref e.a).getD (.ref q0)=.ref x/\(upd H q0 (.dK [])) x=some (.dK r):=by
  cases eg:aF dr p with
  | none=>exact ⟨q0,rfl,by rw [Z eg];exact ae⟩
  | some e=>exact ⟨e.a,rfl,d _ _ (Y e eg)⟩
 rw [hx]
 refine ⟨_,ϱ,_,ϱ,x,_,ϱ,DGet.k (k:=.inl c) u,_,ϱ,bD (λe=>?_) (λe=>?_)⟩
 .cases b:aY r (.inl c) with
  | none=>rw [b] at e;cases e
  | some v =>
   obtain ⟨i,rfl⟩:=di c v b
   have G:eU r j c=i:=by unfold eU;rw [b]
   rw [G] at q
   refine ⟨_,ϱ,_,ϱ,x,.int i,ϱ,?_,q _ d⟩
   have:=DGet.k (k:=.inl c) u
   rw [b] at this
   exact this
 .have b:aY r (.inl c)=none:=by
   cases b:aY r (.inl c) with
   | none=>rfl
   | some v=>exact absurd (by rw [b];rfl) e
  obtain ⟨n,rfl⟩:∃n:Nat,c=(n:Int):=⟨c.toNat,ω⟩
  have y:n<j.length:=by omega
  have G:eU r j (n:Int)=j[n]:=by
   unfold eU
   rw [b]
   show j.getD n 0=_
   rw [Ŗ,ξ y]
   rfl
  rw [G] at q
  exact ⟨_,ϱ,W.l,CV,W.dx,_,_,ϱ,d _ _ O,T.cl,T.st,Bi,A.l,A.dx,_,ϱ,d _ _ X,jz θ,_,ϱ,A,n,_,j,ϱ,d _ _ X,d _ _ C,ξ y,q _ d⟩
abbrev qN:á:=match (defBody aX).getD 0 (.Pass default) with | .Assign _ (.Call _ [_,l] _ _) _=>l | _=>.Name "" default
abbrev z5:Str:="Works.do_step.<locals>.<lambda>"
def pC:Pos:=match qN with | .Lambda _ _ _ p=>p | _=>default
def rj(p:Pos):Option é->ì
 | none=>#[]
 | some c=>mD p c
structure Bx where
 (home many:Int)(p:Pa)(A:Ad)(Pt:é)
structure Wx where
 (W:Aw)(dl:é)(vs:à V)(dr an:à Dr)(pe:à Pd)(ps:à Pr)(cz:Option é)
def wkL(CL:é)(x:Wx):Cs:=(x.W.lk,.ins CL x.dl [("pairs",.ref x.W.pl)])::(x.W.pl,.lst x.vs)::(x.W.dr,.dT (dD x.dr))::(x.W.an,.dT (dD x.an))::(x.W.pe,.dT (dP x.pe))::(df x.dr++df x.an)
def wtL(CL:é)(b:Bx)(x:Wx):Cs:=(b.Pt,.tbl (rj pC x.cz))::wkL CL x
structure Nq(C:Kd->é)(CS CH CL CV:é):Prop where
 s:CS≠CH/\CS≠CL
 v:CV≠CH/\CV≠CL
 k:∀k,C k≠CH/\C k≠CL
structure Wo(C:Kd->é)(CS CV:é)(K:ä)(H:Hp)(b:Bx)(d:Sx)(x:Wx):Prop where
 si:Si CS K H b.p b.A d
 wi:H x.W.l=some (.ins CV x.W.dx (wf b.A.l b.home b.many x.W))
 ps:Paired (PrO C K H) x.ps x.vs
 cz:∀a,x.cz=some a->H a=some (iK a z5)
 pe:∀e∈x.pe,H e.a=some (.tup [.int e.i,.int e.hand,.str (txt e.wd e.ns)])
 nd:(x.dr.map Dr.y).Nodup/\(x.an.map Dr.y).Nodup/\(x.pe.map Pd.y).Nodup
def Dq(S:é)(home many:Int)(W:Aw):wf S home many W≠[]:=λz=>by
 have:=pF (S:=S) (home:=home) (many:=many) (W:=W)
 rw [z] at this
 cases this
def Ea(f l:Int):lf f l≠[]:=λz=>by
 have:=gj f l
 rw [z] at this
 cases this
def PrO.im{H H':Hp}{y:Pr}{v:V}(n:∀k,C k≠CH/\C k≠CL)(e:ImS CH CL H H')(h:PrO C K H y v):PrO C K H' y v:=by
 have t:TSame H H':=λb w q=>e b _ q ϰ
 obtain ⟨a,u,l,f,g,i,d,j,o,r⟩:=h
 exact ⟨a,u,l,f,g.keep t,cPa.keep t i,d,j,o,e d _ r ⟨Ea _ _,n _⟩⟩
section
variable {N N':û}{H0 H H':Hp}{b:Bx}{S S':Cs}{d d':Sx}{x x':Wx}
def Wo.im(g:Wo C CS CV K H b d x)(n:Nq C CS CH CL CV)(t:ImS CH CL H H'):Wo C CS CV K H' b d x :=
 ⟨g.si.im t n.s,t _ _ g.wi ⟨Dq _ _ _ _,n.v⟩,pp g.ps λ_ _ z=>PrO.im n.k t z,λa z=>t _ _ (g.cz a z) A8,λe he=>t _ _ (g.pe e he) ϰ,g.nd⟩
structure Gd(C:Kd->é)(CS CH CL CV:é)(K:ä)(N:û)(H0 H:Hp)(b:Bx)(S:Cs)(d:Sx)(x:Wx):Prop where
 ow:Ow CH CL N H0 H (S++(stL b.p b.A d++wtL CL b x))
 wo:Wo C CS CV K H b d x
abbrev Gs(C:Kd->é)(CS CH CL CV:é)(K:ä)(H:Hp)(b:Bx)(S:Cs)(d:Sx)(x:Wx)(H':Hp)(S':Cs)(d':Sx)(x':Wx):Prop:=Gd C CS CH CL CV K (ad (S++(stL b.p b.A d++wtL CL b x))) H H' b S' d' x'
def Gd.same(g:Gd C CS CH CL CV K N H0 H b S d x)(n:Nq C CS CH CL CV)(e:Same H H'):Gd C CS CH CL CV K N H0 H' b S d x:=⟨g.ow.same e,g.wo.im n (cR e)⟩
def Gd.trans(g:Gd C CS CH CL CV K N H0 H b S d x)(g2:Gs C CS CH CL CV K H b S d x H' S' d' x'):Gd C CS CH CL CV K N H0 H' b S' d' x':=⟨g.ow.trans g2.ow,g2.wo⟩
def D7{p:Pa}{A:Ad}:∀u∈stL p A d,¬Im CH CL u.2:=by
 intro u b
 simp only [stL,List.mem_cons,List.not_mem_nil,or_false] at b
 rcases b with e | e | e | e<;>subst e<;>exact id
def D6:∀u∈wtL CL b x,¬Im CH CL u.2:=by
 intro u d
 simp only [wtL,wkL,df,List.mem_cons,List.mem_append,List.mem_map] at d
 rcases d with e | e | e | e | e | e | ⟨y,_,e⟩ | ⟨y,_,e⟩<;>subst e<;>first | exact id | exact λz=>z.2.2 rfl
def fK{A:é}{h:Ah}{d:û}{us:à V}{v:V}:∀u∈shL CH A h d us v,¬Im CH CL u.2:=by
 intro u b
 simp only [shL,List.mem_cons,List.not_mem_nil,or_false] at b
 rcases b with e | e | e<;>subst e<;>first | exact id | exact λz=>z.2.1 rfl
def Gd.self(g:Gd C CS CH CL CV K N H0 H b S d x)(hS:∀u∈S,¬Im CH CL u.2):Gs C CS CH CL CV K H b S d x H S d x:=⟨g.ow.self λu hu=>(Ŷ.mp hu).elim (hS u) λh=>(Ŷ.mp h).elim (D7 u) (D6 u),g.wo⟩
def Gd.co(g:Gd C CS CH CL CV K N H0 H b S d x){u:Addr×HO}(hu:u∈wtL CL b x):H u.1=some u.2:=g.ow.co u (Ψ _ (Ψ _ hu))
def Gd.sa(g:Gd C CS CH CL CV K N H0 H b S d x):Sa CS K H b.p b.A d:=⟨g.wo.si,λu hu=>g.ow.co u (Ψ _ (ź _ hu))⟩
def Gd.ls(g:Gd C CS CH CL CV K N H0 H b S d x):LS C CL K H x.W.lk x.W.pl x.ps:=⟨x.dl,x.vs,g.co j1,g.co j2,g.wo.ps⟩
def Gd.dr(g:Gd C CS CH CL CV K N H0 H b S d x):H x.W.dr=some (.dT (dD x.dr)):=g.co j3
def Gd.an(g:Gd C CS CH CL CV K N H0 H b S d x):H x.W.an=some (.dT (dD x.an)):=g.co j4
def Gd.pe(g:Gd C CS CH CL CV K N H0 H b S d x):H x.W.pe=some (.dT (dP x.pe)):=g.co j5
def Gd.dd{e:Dr}(g:Gd C CS CH CL CV K N H0 H b S d x)(h:e∈x.dr):H e.a=some (.dK e.k):=g.co (u:=(e.a,_)) (.tail _ (.tail _ (.tail _ (.tail _ (.tail _ (.tail _ (ź _ (ϑ.mpr ⟨e,h,ϱ⟩))))))))
def Gd.aa{e:Dr}(g:Gd C CS CH CL CV K N H0 H b S d x)(h:e∈x.an):H e.a=some (.dK e.k):=g.co (u:=(e.a,_)) (.tail _ (.tail _ (.tail _ (.tail _ (.tail _ (.tail _ (Ψ _ (ϑ.mpr ⟨e,h,ϱ⟩))))))))
def Gd.tb(g:Gd C CS CH CL CV K N H0 H b S d x):Tb H b.Pt pC z5:=by
 have e:H b.Pt=some (.tbl (rj pC x.cz)):=g.co j0
 cases ec:x.cz with
 | none=>rw [ec] at e;exact .inl e
 | some a=>rw [ec] at e;exact .inr ⟨a,e,g.wo.cz a ec⟩
def Gd.sh{h:Ah}{rs:û}{us:à V}{v:V}{S:é}(g:Gd C CS CH CL CV K N H0 H b (shL CH S h rs us v) d x):H h.l=some (.ins CH h.dx (hf S h v)):=g.ow.co _ (ź _ j0)
end
inductive uX (CS CV:é) (K:ä) (vs:à V) (H:Hp) (Q:VK) (E:XK):Prop|mk W home many A d ya y p:vs=[.ref (W:Aw).l,.ref ya]->H W.l=some (.ins CV W.dx (wf (A:Ad).l home many W))->Sa CS K H p A d->d.en=[]->PaA H y ya->((y=p->d.rd=none))->(∀H',Same H H'->Q (.bl false) H')->uX CS CV K vs H Q E
def CA(F:Fun K "is_bound" "Works.is_bound" bQ f fd)(D:TxD K CS)(T:TxV K CV)(GB:GM P w K mg base CX0 1 CS "bound" ["self"] (mv CS K)):FnOk P w K mg base CX0 2 f fd ["self","p"] (uX CS CV K):=by
 refine F.oj jB λa7 A I s H vs Q E g h=>?_
 obtain ⟨W,O,U,A,d,ya,y,p,rfl,hi,G,en,sp,ne,q⟩:=h
 refine ⟨_,aj (aw (bq (ud cPa (hun g)) (pv 1) (fq iZ rfl (bJ (pm0 GB (au (pv 0) rfl) D.cl g)) (λ_ _ _ _=>cj) (λ_ _ _ _=>ay (r:=a9 K) aC (pv 0) ai (λ_ _=>rfl))) rfl)),?_⟩
 refine ⟨_,ϱ,_,ϱ,W.l,CV,W.dx,_,_,ϱ,hi,T.cl,T.st,Bi,A.l,A.dx,_,ϱ,G.ins,jz θ,p,A,d,ϱ,G,en,λl H1 J n1 Y=>⟨l,ϱ,⟨_,SqL.of Y⟩,?_⟩⟩
 have lr:d.rd.toList.length<=1:=by cases d.rd with | none=>exact ϖ _ | some _=>exact ι _
 refine e8 (xs:=d.rd.toList.map V.ref) (λi e L=>Same H1 L/\Paired (cPa.rp K L) ((d.rd.toList.take i).map λ_=>p) e) ⟨Same.refl _,.nil⟩ (Λ (by rw [ν];exact lr) ζ) (λi e L _ z=>SqL.of (z.1 _ _ Y)) ?_ ?_
 .rintro i u e H2 Z ⟨j,C⟩
  rw [Ż] at Z
  obtain ⟨r,ex,rfl⟩:=ų.mp Z
  have er:d.rd=some r:=Option.mem_toList.mp (Ŵ ex)
  obtain ⟨pa,b,c,cv,h1,h2,_⟩:=G.rdy r er
  refine jr ⟨_,ϱ,r,_,_,_,ϱ,ϱ,SqT.of (j _ _ (J _ _ h1)),St.at1,j,?_⟩
  rw [Ţ,ex,ſ]
  exact C.app (.cons (cG (k:=p) (j _ _ (J _ _ h2))) .nil)
 .rintro e H2 ⟨j,C⟩ p2 x
  rw [ν,Ŭ] at C
  have X:=J.trans (j.trans (af (o:=.lst e) x))
  refine ⟨y,p2,e,_,cG (k:=y) (X _ _ sp),ϱ,.inl (SqL.of ae),Paired.mapP C λ_ _ z=>cPa.keep (af x).ts z,?_⟩
  have no:y∉d.rd.toList.map λ_=>p:=λm=>by
   obtain ⟨r,g,z⟩:=ϑ.mp m
   rw [ne z.symm] at g
   cases g
  rw [show ∀i:Decidable (y∈d.rd.toList.map λ_=>p),@decide _ i=false from λi=>Γ no]
  exact q _ X
inductive lp (C:Kd->é) (CL CV:é) (K:ä) (g:à Pr->à Pr) (vs:à V) (H:Hp) (Q:VK) (E:XK):Prop|mk W home many S ps:vs=[.ref (W:Aw).l]->H W.l=some (.ins CV W.dx (wf S home many W))->LS C CL K H W.lk W.pl ps->ps.length<=1000->(∀q H' us,Same H H'->H q=none->H' q=some (.lst us)->Paired (cPr.rp K H') (g ps) us->Q (.ref q) H')->lp C CL CV K g vs H Q E
def yf(F:Fun K "held" "Works.held" gI f fd)(T:TxV K CV)(L:TxL K C CL)(z:GM P w K mg base CX0 5 CL "held" ["self"] (ju C CL K gW)):FnOk P w K mg base CX0 6 f fd ["self"] (lp C CL CV K gW):=by
 refine F.oj oX λx A d s H vs Q E y h=>?_
 obtain ⟨W,e,g,S,i,rfl,j,ls,o,q⟩:=h
 refine ⟨_,aj (aw (pm0 z (au (pv 0) rfl) L.cl y)),?_⟩
 obtain ⟨r,u,b,_⟩:=id ls
 exact ⟨_,ϱ,W.l,CV,W.dx,_,_,ϱ,j,T.cl,T.lk,uI,W.lk,r,_,ϱ,b,gi θ,W.lk,W.pl,i,ϱ,ls,o,q⟩
def yd(F:Fun K "waiting" "Works.waiting" eJ f fd)(T:TxV K CV)(L:TxL K C CL)(z:GM P w K mg base CX0 5 CL "waiting" ["self"] (ju C CL K aN)):FnOk P w K mg base CX0 6 f fd ["self"] (lp C CL CV K aN):=by
 refine F.oj jZ λx A d s H vs Q E y h=>?_
 obtain ⟨W,e,g,S,i,rfl,j,ls,o,q⟩:=h
 refine ⟨_,aj (aw (pm0 z (au (pv 0) rfl) L.cl y)),?_⟩
 obtain ⟨r,u,b,_⟩:=id ls
 exact ⟨_,ϱ,W.l,CV,W.dx,_,_,ϱ,j,T.cl,T.lk,uI,W.lk,r,_,ϱ,b,gi θ,W.lk,W.pl,i,ϱ,ls,o,q⟩
inductive qu (CS CH CL CV:é) (K:ä) (vs:à V) (H:Hp) (Q:VK) (E:XK):Prop|mk l dx b d:vs=[.ref l,.ref (b:Bx).A.l,.int b.home,.int b.many]->H l=some (.ins CV dx [])->Sa CS K H b.p b.A d->d.rd=none->d.en=[]->(∀W dl H',(W:Aw).l=l->Ow CH CL [l] H H' (wkL CL ⟨W,dl,[],[],[],[],[],none⟩)->H' l=some (.ins CV W.dx (wf b.A.l b.home b.many W))->Q .non H')->qu CS CH CL CV K vs H Q E
def yh{fI:é}{dI:ç}(F:Fun K "__init__" "Works.__init__" gH f fd)(D:TxD K CS)(T:TxV K CV)(n:Nq C CS CH CL CV)(ML:L2.Mk K CL fI)(av:mg "Locks"=some (.ref CL))(aR:FnOk P w K mg base CX0 1 fI dI ["self"] (mK CL))(aS:Binds K dI ["self"] [])(GB:GM P w K mg base CX0 1 CS "bound" ["self"] (mv CS K)) :
  FnOk P w K mg base CX0 3 f fd ["self","stand","home","many"] (qu CS CH CL CV K):=by
 refine F.oj sc_Works_init λbG A ab s H vs Q E hr h=>?_
 obtain ⟨l,g,b,d,rfl,hl,sa,er,en,q⟩:=h
 have nd:=sc_Works_init.nd
 have a3:Room (1+1) _:=hr.mono ζ
 refine ⟨_,ah (aT (pv 0) (pv 1) rfl) (ah (aT (pv 0) (pv 2) rfl) (ah (aT (pv 0) (pv 3) rfl)
  (ah (aT (pv 0) (xT ML aR a3 rfl av aS .nil be) rfl)
  (ah (aT (pv 0) c8 rfl) (ah (aT (pv 0) c8 rfl) (ah (aT (pv 0) c8 rfl)
  (aj (gz ō rfl (bJ (pm0 GB (pv 1) D.cl hr)) (bU (i:=4) nd rfl (Or.inl rfl)) aH)))))))),?_⟩
 have g0:Ow CH CL [l] H H [(l,.ins CV g [])]:=.mk0 (L:=[(l,.ins CV g [])]) (λx hx=>by rw [List.mem_singleton.mp hx];exact hl) (by simp [ad]) (λx hx=>by rw [List.mem_singleton.mp hx];exact λz=>z.1 rfl)
 have g1:Ow CH CL [l] H _ [(l,.ins CV g (ax "stand" (.ref b.A.l) []))]:=g0.up 0 _ rfl
 have g2:Ow CH CL [l] H _ [(l,.ins CV g (ax "home" (.int b.home) (ax "stand" (.ref b.A.l) [])))]:=g1.up 0 _ rfl
 have g3:Ow CH CL [l] H _ [(l,.ins CV g (ax "many" (.int b.many) (ax "home" (.int b.home) (ax "stand" (.ref b.A.l) []))))]:=g2.up 0 _ rfl
 refine ⟨_,ϱ,_,ϱ,l,CV,g,_,ϱ,hl,T.cl,T.st,(by show 0<1000;decide),_,ϱ,_,ϱ,l,CV,g,_,ϱ,ae,T.cl,T.ho,(bo (n:=999) (by show 0<999;decide)),_,ϱ,_,ϱ,l,CV,g,_,ϱ,ae,T.cl,T.mn,(bo (n:=999) (bo (n:=998) (by show 0<998;decide))),?_⟩
 generalize (upd (upd (upd H l _) l _) l _)=H3 at g3 ⊢
 intro G y Z a0 as
 refine ⟨G,y,ϱ,ae,λI H4 j J O ap=>⟨ϱ,?_⟩⟩
 have s4:Same H3 H4:=wu Z a0 ap
 have U:H3 I=none:=by
  cases e:H3 I with
  | none=>rfl
  | some o =>
   have n1:I≠G:=jH J O (by intro z;cases z)
   have n2:I≠y:=λz=>by rw [z] at j;rw [am as,ae] at j;cases j
   rw [am n1,am n2,e] at j
   cases j
 have g4:=(g3.join (Ow.two Z U (jH O J (by intro z;cases z)) s4 O J)).perm Č
 have a4:H4 l=some (.ins CV g (ax "many" (.int b.many) (ax "home" (.int b.home) (ax "stand" (.ref b.A.l) [])))):=g4.co _ (.head _)
 have g5:Ow CH CL [l] H _ ((l,.ins CV g (ax "locks" (.ref G) (ax "many" (.int b.many) (ax "home" (.int b.home) (ax "stand" (.ref b.A.l) [])))))::[(G,.ins CL y [("pairs",.ref I)]),(I,.lst [])]):=g4.up 0 _ rfl
 refine ⟨_,ϱ,l,CV,g,_,ϱ,a4,T.cl,T.lk,(bo (n:=999) (bo (n:=998) (bo (n:=997) (by show 0<997;decide)))),λdr n6=>?_⟩
 obtain ⟨a6,g6⟩:=g5.fld n6 (.dT []) (ax "drafts" (.ref dr) (ax "locks" (.ref G) (ax "many" (.int b.many) (ax "home" (.int b.home) (ax "stand" (.ref b.A.l) [])))))
 refine ⟨_,ϱ,l,CV,g,_,ϱ,a6,T.cl,T.dr,(bo (n:=999) (bo (n:=998) (bo (n:=997) (bo (n:=996) (by show 0<996;decide))))),λan n7=>?_⟩
 obtain ⟨a7,g7⟩:=g6.fld n7 (.dT []) (ax "answers" (.ref an) (ax "drafts" (.ref dr) (ax "locks" (.ref G) (ax "many" (.int b.many) (ax "home" (.int b.home) (ax "stand" (.ref b.A.l) []))))))
 refine ⟨_,ϱ,l,CV,g,_,ϱ,a7,T.cl,T.an,(bo (n:=999) (bo (n:=998) (bo (n:=997) (bo (n:=996) (bo (n:=995) (by show 0<995;decide)))))),λpe n8=>?_⟩
 obtain ⟨a8,g8⟩:=g7.fld n8 (.dT []) (ax "pending" (.ref pe) (ax "answers" (.ref an) (ax "drafts" (.ref dr) (ax "locks" (.ref G) (ax "many" (.int b.many) (ax "home" (.int b.home) (ax "stand" (.ref b.A.l) [])))))))
 refine ⟨_,ϱ,l,CV,g,_,ϱ,a8,T.cl,T.pe,(bo (n:=999) (bo (n:=998) (bo (n:=997) (bo (n:=996) (bo (n:=995) (bo (n:=994) (by show 0<994;decide))))))),?_⟩
 have i8:=g8.co _ (.head _)
 have g9:Ow CH CL [l] H _ (wkL CL ⟨⟨l,g,G,I,dr,an,pe⟩,y,[],[],[],[],[],none⟩):=g8.sub (.cons _ (.refl _))
 generalize (upd (upd _ pe _) l _)=H9 at i8 g9 ⊢
 have W:Sa CS K H9 b.p b.A d:=by
  have nl:∀{c o},H c=some o->(∀g,o≠.ins CV g [])->H9 c=some o:=λ{c o} e ne=>g9.fr c o (λz=>by rw [ϵ.mp z,hl] at e;exact ne _ (Δ e).symm) e
  refine ⟨⟨nl sa.ins (λ_ z=>by injection z with _ _ z;exact Bm _ z),λr e=>by rw [er] at e;cases e⟩,λu hu=>nl (sa.co u hu) λg z=>?_⟩
  simp only [stL,List.mem_cons,List.not_mem_nil,or_false] at hu
  rcases hu with e | e | e | e<;>subst e<;>cases z
 refine ⟨_,ϱ,b.A.l,b.A.dx,_,ϱ,W.ins,jz θ,b.p,b.A,d,ϱ,W,en,λlb X Y nb hb=>⟨lb,ϱ,⟨_,SqL.of hb⟩,?_⟩⟩
 rw [er] at hb
 exact jP (xs:=[]) (λi σ H'=>H'=X) rfl (λi σ H' _ z=>by rw [z];exact SqL.of hb) (λi x σ H' e=>by cases e) fun σ H' z=>by rw [z];exact q ⟨l,g,G,I,dr,an,pe⟩ y X rfl (g9.same Y) (Y _ _ i8)
abbrev Ee:Arguments:=match qN with | .Lambda a _ _ _=>a | _=>defArgs aX
abbrev Ed:á:=match qN with | .Lambda _ b _ _=>b | _=>.Name "" default
abbrev lScope:Scope:=match qN with | .Lambda _ _ s _=>s | _=>defScope aX
def AK{b d y:Str}{f c2 a:é}(h:[(b,f),(d,c2)].lookup y=some a):(y=b/\a=f)\/(y=d/\a=c2):=by
 rw [List.lookup_cons] at h
 cases e:y==b with
 | true =>
  rw [e] at h
  exact .inl ⟨by simpa using e,(Option.some.inj h).symm⟩
 | false =>
  rw [e,List.lookup_cons] at h
  cases e2:y==d with
  | true =>
   rw [e2] at h
   exact .inr ⟨by simpa using e2,(Option.some.inj h).symm⟩
  | false =>
   rw [e2] at h
   cases h
def AQ{F c f c2:é}{W:Aw}{home many:Int}{S:Ad}{cs:ù}{p:Pa}{g:é}{dr:à Dr}{dk:List (Key×V)}{H:Hp}(o:c2≠f)(hB:Bd [] [(c2,.ref g),(f,.ref W.l)] base)(hf:H F=some (jX F z5 Ee Ed lScope [("self",f),("p",c2)] c))(hc:H c=some (iK c z5))
  (T:TxV K CV)(GV:GM P w K mg base CX0 2 CV "value_at" ["self","p","cell"] (js CS CV))(J:H W.l=some (.ins CV W.dx (wf S.l home many W)))(hd:H W.dr=some (.dT (dD dr)))(hs:∀e,aF dr p=some e->H e.a=some (.dK dk))(hn:aF dr p=none->dk=[])(di:DrI dk)(st:H S.l=some (.ins CS S.dx (sf S)))(G:H S.cl=some (.lst (cs.map V.int)))(sp:PaA H p g) :
  CloT P w K mg base 4 F (mJ (eU dk cs) cs.length) H:=by
 refine ⟨⟨_,_,_,_,_,_,hf⟩,λH1 A C s v u Q b I e0 r h=>?_⟩
 obtain ⟨i,L,O,U,q⟩:=h
 cases L
 refine sB (k:=3) (N:=["cell","p","self"]) (x:="cell") (fvs:=[.ref g,.ref W.l]) I e0 hB ⟨ϱ,ϱ,ϱ,θ,ϱ,ϱ,θ,λy X=>?_,λy z a h1 d=>?_⟩ rfl (λy a h=>?_) (λj y v h1 d=>?_) (b _ _ hf) (b _ _ hc) r (λpm ct=>.of_eq rfl) ⟨_,pm GV (pv 2) T.cl (I.deeper _) (ac (pv 1) (ac (pv 0) ag)),?_⟩
 .have e:y="p"\/y="self":=(by decide +kernel:∀p∈lScope.names,p.2=NameKind.free->p.1=("p":Str)\/p.1=("self":Str)) _ (ů X) rfl
  rcases e with e | e
  .subst e
   exact ⟨c2,ϱ⟩
  .subst e
   exact ⟨f,ϱ⟩
 .rcases AK h1 with ⟨rfl,rfl⟩ | ⟨rfl,rfl⟩
  .rcases AK d with ⟨rfl,e⟩ | ⟨_,e⟩
   .rfl
   .exact absurd e.symm o
  .rcases AK d with ⟨_,e⟩ | ⟨rfl,e⟩
   .exact absurd e o
   .rfl
 .rcases AK h with ⟨_,rfl⟩ | ⟨_,rfl⟩
  .exact ⟨_,Θ _ Ω⟩
  .exact ⟨_,Ω⟩
 .cases j with
  | zero =>
   cases h1
   cases d
   refine ⟨ϱ,c2,ϱ,λY D=>?_⟩
   rcases ϕ.mp D with e | e
   .cases e
    rfl
   .cases ϵ.mp e
    exact absurd rfl o
  | succ j =>
   cases j with
   | zero =>
    cases h1
    cases d
    refine ⟨ϱ,f,ϱ,λY D=>?_⟩
    rcases ϕ.mp D with e | e
    .cases e
     exact absurd rfl o
    .cases ϵ.mp e
     rfl
   | succ j=>cases d
 .exact ⟨_,ϱ,W.l,W.dx,_,ϱ,b _ _ J,cW θ,_,ϱ,_,ϱ,W,home,many,S,cs,p,g,dr,dk,i,ϱ,b _ _ J,b _ _ hd,λx Z=>b _ _ (hs x Z),hn,di,b _ _ st,b _ _ G,b _ _ sp,O,U,q⟩
inductive xr (C:Kd->é) (CS CH CL CV:é) (K:ä) (vs:à V) (H:Hp) (Q:VK) (E:XK):Prop|mk b h rs us v d x y ya i e hv:vs=[.ref (x:Wx).W.l,.ref (h:Ah).l,.ref ya,.int i]->Gs C CS CH CL CV K H (b:Bx) (shL CH b.A.l h rs us v) d x H (shL CH b.A.l h rs us v) d x->PaA H y ya->aF x.an y=some e->aY e.k (.inl i)=some (.int hv)->us.length<=900->(∀u t H',Gs C CS CH CL CV K H b (shL CH b.A.l h rs us v) d x H' (shL CH b.A.l h rs (us++[u]) v) d x->WsAt H' (y.1,"did",ya,t) u->H' t=some (.tup [.int i,.int hv])->Q .non H')->xr C CS CH CL CV K vs H Q E
def CD(F:Fun K "send_did" "Works.send_did" dJ f fd)(DH:TxH K CH)(T:TxV K CV)(n:Nq C CS CH CL CV)(GS:GM P w K mg base CX0 1 CH "send" ["self","to","word","p","more"] (mo CH CL)):FnOk P w K mg base CX0 2 f fd ["self","sheet","p","i"] (xr C CS CH CL CV K):=by
 refine F.oj jA λa3 A G s H vs Q E I h=>?_
 obtain ⟨b,h,Y,Z,v,d,x,y,j,i,e,O,rfl,g,U,X,z,hw,q⟩:=h
 refine ⟨_,aj (aQ (pm GS (pv 1) DH.cl I (ac (ay (r:=a9 K) aC (pv 2) ai (λ_ _=>rfl)) (ac aD (ac (pv 2) (ac (aL (ac (pv 3) (ac (dQ (cE I) (dQ (cE I) (au (pv 0) rfl) (pv 2) (λ_ _=>rfl)) (pv 3) (λ_ _=>rfl)) ag))) ag)))))),?_⟩
 have g1:DGet H x.W.an (.ref j) (some (.ref e.a)):=by
  have:=DGet.t (k:=pk y) g.an U
  rw [dw,X] at this
  exact this
 have g2:DGet H e.a (.int i) (some (.int O)):=by
  have:=DGet.k (k:=.inl i) (g.aa (cS X).1)
  rw [z] at this
  exact this
 refine ⟨_,ϱ,h.l,h.dx,_,ϱ,g.sh,iI θ,_,ϱ,j,_,_,_,ϱ,ϱ,SqT.of U,St.at0,_,ϱ,_,ϱ,_,ϱ,x.W.l,CV,x.W.dx,_,_,ϱ,g.wo.wi,T.cl,T.an,k9,_,ϱ,x.W.an,_,ϱ,g1,_,ϱ,e.a,_,ϱ,g2,χ,λt ht=>?_⟩
 have s1:=af (o:=.tup [.int i,.int O]) ht
 have D:=g.same n s1
 exact ⟨b.A.l,h,Y,Z,v,(y.1,"did",j,t),stL b.p b.A d++wtL CL b x,ϱ,(D.self fK).ow,hw,λu H' J L=>q u t H' (D.trans ⟨J,D.wo.im n J.im⟩) L (ImS.ts J.im _ _ ae)⟩
def qf(xs:à Dr)(y z:Pa)(k:List (Key×V)):aF (dset xs y k) z=(aF xs z).map λe=>if e.y=y then ⟨e.y,e.a,k⟩ else e:=by
 unfold aF dset
 rw [List.find?_map]
 have e:((λe:Dr=>decide (e.y=z))∘λe:Dr=>if e.y=y then (⟨e.y,e.a,k⟩:Dr) else e)=λe=>decide (e.y=z):=by
  funext e
  show decide ((if e.y=y then (⟨e.y,e.a,k⟩:Dr) else e).y=z)=_
  split<;>rfl
 rw [e]
def oO{xs:à Dr}{e:Dr}(h:aF xs e.y=none)(z:Pa):aF (xs++[e]) z=if z=e.y then some e else aF xs z:=by
 unfold aF at h ⊢
 rw [List.find?_append]
 by_cases q:z=e.y
 .rw [if_pos q,q,h,List.find?_cons_of_pos (by simp)]
  rfl
 .rw [if_neg q,List.find?_cons_of_neg (by simp;exact λy=>q y.symm)]
  simp
structure Up(xs:à Dr)(y:Pa)(k:List (Key×V))(xs':à Dr):Prop where
 here:∃a,aF xs' y=some ⟨y,a,k⟩
 els:∀z,z≠y->aF xs' z=aF xs z
 len:xs'.length<=xs.length+1
def tw{xs:à Dr}{y:Pa}{e:Dr}(h:aF xs y=some e)(k:List (Key×V)):Up xs y k (dset xs y k):=by
 obtain ⟨_,b⟩:=cS h
 refine ⟨⟨e.a,?_⟩,λz d=>?_,by unfold dset;rw [List.length_map];exact Nat.le_succ _⟩
 .rw [qf,h]
  show some (if e.y=y then (⟨e.y,e.a,k⟩:Dr) else e)=_
  rw [Ź b,b]
 .rw [qf]
  cases q:aF xs z with
  | none=>rfl
  | some f =>
   show some (if f.y=y then (⟨f.y,f.a,k⟩:Dr) else f)=_
   rw [ž (by rw [(cS q).2];exact d)]
def wX{xs:à Dr}{y:Pa}(h:aF xs y=none)(a:é)(k:List (Key×V)):Up xs y k (xs++[⟨y,a,k⟩]) :=
 ⟨⟨a,by rw [oO (e:=⟨y,a,k⟩) h,Ź rfl]⟩,λz nz=>by rw [oO (e:=⟨y,a,k⟩) h,ž nz],by rw [Ž];exact ι _⟩
def Up.then{xs xs1 xs2:à Dr}{y:Pa}{k k2:List (Key×V)}(u:Up xs y k xs1)(v:Up xs1 y k2 xs2)(l:xs2.length<=xs.length+1):Up xs y k2 xs2:=⟨v.here,λz nz=>(v.els z nz).trans (u.els z nz),l⟩
def yO{xs:à Dr}{y:Pa}(h:aF xs y=none)(n:(xs.map Dr.y).Nodup)(a:é)(k:List (Key×V)):((xs++[(⟨y,a,k⟩:Dr)]).map Dr.y).Nodup:=by
 rw [ſ,Ŧ]
 refine ⟨n,by simp,λu b v d z=>?_⟩
 obtain ⟨f,hf,rfl⟩:=ϑ.mp b
 have:=ũ.mp h f hf
 exact this (decide_eq_true (by rw [z];simpa using d))
section
variable {N:û}{H0 H H':Hp}{b:Bx}{d:Sx}{x:Wx}{h:Ah}{rs:û}{us:à V}{v:V}{y:Pa}{e:Dr}{a:é}{k:List (Key×V)}
abbrev Wx.dra(x:Wx)(dr an:à Dr):Wx:=⟨x.W,x.dl,x.vs,dr,an,x.pe,x.ps,x.cz⟩
def Wo.dra{dr an:à Dr}(g:Wo C CS CV K H b d x)(n1:(dr.map Dr.y).Nodup)(n2:(an.map Dr.y).Nodup):Wo C CS CV K H b d (x.dra dr an):=⟨g.si,g.wi,g.ps,g.cz,g.pe,n1,n2,g.nd.2.2⟩
def Wo.wsi{d':Sx}(g:Wo C CS CV K H b d x)(e:Si CS K H b.p b.A d'):Wo C CS CV K H b d' x:=⟨e,g.wi,g.ps,g.cz,g.pe,g.nd⟩
def Gd.dst(g:Gd C CS CH CL CV K N H0 H b (shL CH b.A.l h rs us v) d x)(n:Nq C CS CH CL CV)(f:aF x.dr y=some e):Gd C CS CH CL CV K N H0 (upd H e.a (.dK k)) b (shL CH b.A.l h rs us v) d (x.dra (dset x.dr y k) x.an):=by
 have o:=Ow.dset (A:=shL CH b.A.l h rs us v++(stL b.p b.A d++[(b.Pt,.tbl (rj pC x.cz)),(x.W.lk,.ins CL x.dl [("pairs",.ref x.W.pl)]),(x.W.pl,.lst x.vs),(x.W.dr,.dT (dD x.dr)),(x.W.an,.dT (dD x.an)),(x.W.pe,.dT (dP x.pe))])) (B:=df x.an) g.ow f g.wo.nd.1 bn (ae (H:=H) (a:=e.a) (o:=.dK k))
 rw [← zq x.dr y k] at o
 exact ⟨o,(g.wo.dra (by rw [zp];exact g.wo.nd.1) g.wo.nd.2.1).im n (cJ bn (g.dd (cS f).1) id)⟩
def Gd.ast(g:Gd C CS CH CL CV K N H0 H b (shL CH b.A.l h rs us v) d x)(n:Nq C CS CH CL CV)(i:aF x.an y=some e):Gd C CS CH CL CV K N H0 (upd H e.a (.dK k)) b (shL CH b.A.l h rs us v) d (x.dra x.dr (dset x.an y k)):=by
 have f:∀(A X Y:Cs),(A++(Y++X)).Perm (A++(X++Y)):=λA X Y=>ċ A Č
 have o:=Ow.dset (A:=shL CH b.A.l h rs us v++(stL b.p b.A d++[(b.Pt,.tbl (rj pC x.cz)),(x.W.lk,.ins CL x.dl [("pairs",.ref x.W.pl)]),(x.W.pl,.lst x.vs),(x.W.dr,.dT (dD x.dr)),(x.W.an,.dT (dD x.an)),(x.W.pe,.dT (dP x.pe))])) (xs:=x.an) (B:=df x.dr) (g.ow.perm (f _ _ _)) i g.wo.nd.2.1 bn (ae (H:=H) (a:=e.a) (o:=.dK k))
 rw [← zq x.an y k] at o
 have j:=o.perm (f _ _ _)
 exact ⟨j,(g.wo.dra g.wo.nd.1 (by rw [zp];exact g.wo.nd.2.1)).im n (cJ bn (g.aa (cS i).1) id)⟩
def Gd.dnew(g:Gd C CS CH CL CV K N H0 H b (shL CH b.A.l h rs us v) d x)(n:Nq C CS CH CL CV)(j:aF x.dr y=none)(e:H a=none):Gd C CS CH CL CV K N H0 (upd (upd H a (.dK [])) x.W.dr (.dT (dD x.dr++[(pk y,.ref a)]))) b (shL CH b.A.l h rs us v) d (x.dra (x.dr++[⟨y,a,[]⟩]) x.an):=by
 have f:dD (x.dr++[⟨y,a,[]⟩])=dD x.dr++[(pk y,.ref a)]:=by unfold dD;rw [List.map_append];rfl
 have o:=(g.ow.new e (.dK [])).up 10 (.dT (dD x.dr++[(pk y,.ref a)])) rfl
 rw [← f] at o ⊢
 refine ⟨o.perm ?_,(g.wo.dra (yO j g.wo.nd.1 a []) g.wo.nd.2.1).im n ((cR (af e)).trans (cJ bn (af e _ _ g.dr) id))⟩
 have i:df (x.dr++[⟨y,a,[]⟩])=df x.dr++[(a,.dK [])]:=by unfold df;rw [List.map_append];rfl
 show (shL CH b.A.l h rs us v++(stL b.p b.A d++((b.Pt,.tbl (rj pC x.cz))::(x.W.lk,.ins CL x.dl [("pairs",.ref x.W.pl)])::(x.W.pl,.lst x.vs)::(x.W.dr,.dT (dD (x.dr++[⟨y,a,[]⟩])))::(x.W.an,.dT (dD x.an))::(x.W.pe,.dT (dP x.pe))::(df (x.dr++[⟨y,a,[]⟩])++df x.an)))).Perm (shL CH b.A.l h rs us v++(stL b.p b.A d++((b.Pt,.tbl (rj pC x.cz))::(x.W.lk,.ins CL x.dl [("pairs",.ref x.W.pl)])::(x.W.pl,.lst x.vs)::(x.W.dr,.dT (dD (x.dr++[⟨y,a,[]⟩])))::(x.W.an,.dT (dD x.an))::(x.W.pe,.dT (dP x.pe))::((df x.dr++df x.an)++[(a,.dK [])]))))
 rw [i,œ,œ]
 exact ċ _ (ċ _ (.cons _ (.cons _ (.cons _ (.cons _ (.cons _ (.cons _ (ċ _ Č))))))))
def Gd.anew(g:Gd C CS CH CL CV K N H0 H b (shL CH b.A.l h rs us v) d x)(n:Nq C CS CH CL CV)(q:aF x.an y=none)(e:H a=none):Gd C CS CH CL CV K N H0 (upd (upd H a (.dK [])) x.W.an (.dT (dD x.an++[(pk y,.ref a)]))) b (shL CH b.A.l h rs us v) d (x.dra x.dr (x.an++[⟨y,a,[]⟩])):=by
 have i:dD (x.an++[⟨y,a,[]⟩])=dD x.an++[(pk y,.ref a)]:=by unfold dD;rw [List.map_append];rfl
 have o:=(g.ow.new e (.dK [])).up 11 (.dT (dD x.an++[(pk y,.ref a)])) rfl
 rw [← i] at o ⊢
 refine ⟨?_,(g.wo.dra g.wo.nd.1 (yO q g.wo.nd.2.1 a [])).im n ((cR (af e)).trans (cJ bn (af e _ _ g.an) id))⟩
 have j:df (x.an++[⟨y,a,[]⟩])=df x.an++[(a,.dK [])]:=by unfold df;rw [List.map_append];rfl
 have f:Ow CH CL N H0 _ (shL CH b.A.l h rs us v++(stL b.p b.A d++((b.Pt,.tbl (rj pC x.cz))::(x.W.lk,.ins CL x.dl [("pairs",.ref x.W.pl)])::(x.W.pl,.lst x.vs)::(x.W.dr,.dT (dD x.dr))::(x.W.an,.dT (dD (x.an++[⟨y,a,[]⟩])))::(x.W.pe,.dT (dP x.pe))::((df x.dr++df x.an)++[(a,.dK [])])))):=o
 rw [œ (df x.dr),← j] at f
 exact f
end
def Di{X:Cx}{b c:é}{u v:V}{σ:L2.St}(i j:Nat)(x y:Str)(h1:X.N[i]?=some x/\σ[i]?=some (some u)/\X.env.kindOf x=some .cell/\X.env.cells.lookup x=some b/\X.fn x=true)(h2:X.N[j]?=some y/\σ[j]?=some (some v)/\X.env.kindOf y=some .cell/\X.env.cells.lookup y=some c/\X.fn y=true):rD X [(b,u),(c,v)] σ:=λp hm=>by
 rcases ϕ.mp hm with e | e
 .cases e
  exact ⟨i,x,h1⟩
 .cases ϵ.mp e
  exact ⟨j,y,h2⟩
def Own(x:Wx)(y:Pa)(dk ak:List (Key×V)):Prop:=(aF x.dr y=none/\aF x.an y=none/\dk=[]/\ak=[])\/∃a1 a2,aF x.dr y=some ⟨y,a1,dk⟩/\aF x.an y=some ⟨y,a2,ak⟩
def RwD(K:ä)(H:Hp)(b:Bx)(d:Sx)(y:Pa)(old:Bool)(rs:û)(v:V)(rs':û)(v':V)(d':Sx):Prop:=(old=true/\rs'=rs/\v'=v/\d'=d)\/(old=false/\∃r,rs'=rs++[r]/\RxAt K H b.p r (.work y)/\NwAt K H (cu ltE d.en) v'/\d'=d.kp r (.work y))
def RwD.keep{H H':Hp}{b:Bx}{d:Sx}{y:Pa}{old:Bool}{g:û}{v:V}{f:û}{i:V}{d':Sx}(e:ImS CH CL H H')(h:RwD K H b d y old g v f i d'):RwD K H' b d y old g v f i d':=by
 rcases h with h | ⟨h1,r,h2,h3,h4,h5⟩
 .exact .inl h
 .exact .inr ⟨h1,r,h2,h3.keep e,h4.keep e.ts,h5⟩
inductive uY (C:Kd->é) (CS CH CL CV:é) (K:ä) (Pt:é) (vs:à V) (H:Hp) (Q:VK) (E:XK):Prop|mk b h d rs us v y ya wt i hand wd ns x dk ak:vs=[.ref (x:Wx).W.l,.ref (h:Ah).l,.ref ya,.ref wt]->(b:Bx).Pt=Pt->Gs C CS CH CL CV K H b (shL CH b.A.l h rs us v) d x H (shL CH b.A.l h rs us v) d x->PaA H y ya->H wt=some (.tup [.int i,.int hand,.str (txt wd ns)])->Ar wd ns->inC d.cells.length wd ns->d.cells.length<=900->d.wk.length<=60->d.en.length<=60->Own x y dk ak->DrI dk->dk.length<=100->ak.length<=100->x.dr.length<=100->x.an.length<=100->rs.length<=100->us.length<=100->(∀dr' an' c u t d' rs' v' H',Gs C CS CH CL CV K H b (shL CH b.A.l h rs us v) d x H' (shL CH b.A.l h rs' (us++[u]) v') d' ⟨x.W,x.dl,x.vs,dr',an',x.pe,x.ps,some c⟩->Up x.dr y (aV dk (aV [] (chK (dn (eU dk d.cells) wd ns hand).2))) dr'->Up x.an y (bZ ak (.inl i) (.int (dn (eU dk d.cells) wd ns hand).1)) an'->WsAt H' (y.1,"did",ya,t) u->H' t=some (.tup [.int i,.int (dn (eU dk d.cells) wd ns hand).1])->RwD K H' b d y (aF x.an y).isSome rs v rs' v' d'->Q .non H')->uY C CS CH CL CV K Pt vs H Q E
def zr{val:Int->Int}{e:Wd}{f:ù}{h:Int}(d:Ar e f):(dn val e f h).2.length<=1:=by
 cases e with
 | take=>obtain ⟨a,b,rfl,_⟩:=d.c rfl;exact ϖ _
 | mean=>obtain ⟨a,b,rfl,_⟩:=d.c rfl;exact ϖ _
 | give=>obtain ⟨a,b,rfl,_⟩:=d.c rfl;exact ι _
 | sum=>obtain ⟨a,b,c,rfl,_⟩:=d.s;exact ϖ _
 | add=>obtain ⟨a,b,c,rfl,_⟩:=d.a;exact ι _
 | plus=>obtain ⟨a,rfl,_⟩:=d.p;exact ϖ _
 | need=>obtain ⟨a,rfl,_⟩:=d.n;exact ϖ _
def wn{cc Pt:é}{fS:Wd->é}{dS:Wd->ç}(F:Fun K "do_step" "Works.do_step" aX f fd)(c2:mg "dict"=none)(TW:TxW K CW)(T:TxV K CV)(DH:TxH K CH)(n:Nq C CS CH CL CV)(e3:BB mg base)(e4:fd.code=.ref cc)(e5:PySem.W.codeHdIn K cc Pt=true)
  (GR:GF P w K mg base CX0 6 "read_step" ["text"] (mi CW))(HV:∀Bh:ã,K.In Bh->GM P w K mg Bh CX0 2 CV "value_at" ["self","p","cell"] (js CS CV))
  (HS:∀(I:Wd) (val:Int->Int) (n:Nat) (Bh:ã),n<=1000->K.In Bh->FnOk P w K mg Bh CX0 5 (fS I) (dS I) ["self","hand","value_of"] (fT P w K mg CW val n I Bh))(mS:∀I,i9 K (CW I) "step_done" (fS I))(bS:∀I,Binds K (dS I) ["self","hand","value_of"] [])
  (cZ:GM P w K mg base CX0 3 CH "row" ["self","row"] (mQ CS CH CL K))(GD:GM P w K mg base CX0 2 CV "send_did" ["self","sheet","p","i"] (xr C CS CH CL CV K)):FnOk P w K mg base CX0 7 f fd ["self","sheet","p","waited"] (uY C CS CH CL CV K Pt):=by
 refine F.okC sc_Works_do_step (λvs H Q E h=>?_) (λA0 dg s H vs Q E hr h=>?_)
 .obtain ⟨b,h,d,rs,us,v,y,ya,wt,i,O,I,ns,x,dk,ak,rfl,_⟩:=h
  rfl
 obtain ⟨b,h,d,rs,us,v,y,ya,wt,i,O,I,ns,⟨W,dl,vs,dr,an,pe,ps,cz⟩,dk,ak,rfl,rfl,g0,hy,bw,ar,ic,hn,d4,len,aZ,di,ej,ek,d5,d6,el,em,q⟩:=h
 have nd:=sc_Works_do_step.nd
 have da:Room 5 _:=hr.mono ζ
 have ne:s.heap.objs.size+2≠s.heap.objs.size+1:=by omega
 have hz:(1000:Nat)<=sizeLine:=by decide
 simp only [] at d5 d6 q
 generalize er:dn (eU dk d.cells) I ns O=r at q
 refine ⟨_,ah (aG (i:=4) nd rfl (Or.inl rfl) (xS (cs:=[(s.heap.objs.size+2,.ref ya),(s.heap.objs.size+1,.ref W.l)]) (sp:=λBh=>fT P w K mg CW (eU dk d.cells) d.cells.length I Bh) (pc GR hr (ac (ay (r:=a9 K) aC (pv 3) ai (λ_ _=>rfl)) ag)) (TW.cl I) (mS I)
   (λBh bN=>HS I (eU dk d.cells) d.cells.length Bh ω bN) da (bS I) be (ac (ay (r:=a9 K) aC (pv 3) ai (λ_ _=>rfl)) (ac (vf (P:=b.Pt) (cl:=[("self",s.heap.objs.size+1),("p",s.heap.objs.size+2)]) e4 e5 e3 rfl rfl rfl) ag))))
  (iq (u:=λD σ H1=>∃t Y c,σ=[some (.ref W.l),some (.ref h.l),some (.ref ya),some (.ref wt),some (.ref t)]/\Gs C CS CH CL CV K H b (shL CH b.A.l h rs us v) d ⟨W,dl,vs,dr,an,pe,ps,cz⟩ H1 (shL CH b.A.l h rs us v) d ⟨W,dl,vs,dr,an,pe,ps,some c⟩/\H1 t=some (.tup [.int r.1,.ref Y])/\chN H1 r.2 Y/\H1 wt=some (.tup [.int i,.int O,.str (txt I ns)])/\PaA H1 y ya/\∀σ' H',Q .non H'->D.nx σ' H')
   (ah (aQ (Ae (vg (cE hr) (au (pv 0) rfl) (pv 2) jG ⟨ϱ,ϱ,ϱ,ϱ⟩) (aP (uD rfl) rfl c2 PyProof.Rows.boot_dict (ac (ay (r:=a9 K) aC (pv 4) ai (λ_ _=>rfl)) ag)) ⟨ϱ,ϱ,ϱ,ϱ⟩))
  (iq (u:=λD σ H1=>∃t Y c L,σ=[some (.ref W.l),some (.ref h.l),some (.ref ya),some (.ref wt),some (.ref t)]/\Gs C CS CH CL CV K H b (shL CH b.A.l h rs us v) d ⟨W,dl,vs,dr,an,pe,ps,cz⟩ H1 (shL CH b.A.l h rs us v) d ⟨W,dl,vs,L,an,pe,ps,some c⟩/\Up dr y (aV dk (aV [] (chK r.2))) L/\H1 t=some (.tup [.int r.1,.ref Y])/\H1 wt=some (.tup [.int i,.int O,.str (txt I ns)])/\PaA H1 y ya/\∀σ' H',Q .non H'->D.nx σ' H')
   (ah (aJ (ip (iP (cE hr) (pv 2) (au (pv 0) rfl))) (ah (gB (cE hr) (au (pv 0) rfl) (pv 2) jG rfl) (aj (aQ (pm cZ (pv 1) DH.cl hr (ac (aL (ac aD (ac (pv 2) ag))) ag))))) aB)
  (iq (u:=λD σ H1=>∃t Y c L bi d' b2 v',σ=[some (.ref W.l),some (.ref h.l),some (.ref ya),some (.ref wt),some (.ref t)]/\Gs C CS CH CL CV K H b (shL CH b.A.l h rs us v) d ⟨W,dl,vs,dr,an,pe,ps,cz⟩ H1 (shL CH b.A.l h b2 us v') d' ⟨W,dl,vs,L,bi,pe,ps,some c⟩/\Up dr y (aV dk (aV [] (chK r.2))) L/\Up an y ak bi/\RwD K H1 b d y (aF an y).isSome rs v b2 v' d'/\H1 t=some (.tup [.int r.1,.ref Y])/\H1 wt=some (.tup [.int i,.int O,.str (txt I ns)])/\PaA H1 y ya/\∀σ' H',Q .non H'->D.nx σ' H')
   (ah (gB (cE hr) (dQ (cE hr) (au (pv 0) rfl) (pv 2) (λ_ _=>rfl)) (ay (r:=a9 K) aC (pv 3) ai (λ_ _=>rfl)) (ay (r:=a9 K) aC (pv 4) ai (λ_ _=>rfl)) rfl)
   (aj (aQ (pm GD (pv 0) T.cl hr (ac (pv 1) (ac (pv 2) (ac (ay (r:=a9 K) aC (pv 3) ai (λ_ _=>rfl)) ag))))))) ?s4)) ?s3)) ?s2),?_⟩
 case s4 =>
  rintro D σ H1 ⟨t,Y,c,L,bi,d',b2,v',rfl,g,u1,u2,dV,ht,Z,G,nx⟩
  obtain ⟨aa,ea⟩:=u2.here
  have g1:DGet H1 W.an (.ref ya) (some (.ref aa)):=by
   have:=DGet.t (k:=pk y) g.an G
   rw [dw,ea] at this
   exact this
  have ha:H1 aa=some (.dK ak):=g.aa (cS ea).1
  refine ⟨_,ϱ,t,_,_,_,ϱ,ϱ,SqT.of ht,St.at0,_,ϱ,W.l,CV,W.dx,_,_,ϱ,g.wo.wi,T.cl,T.an,k9,_,ϱ,W.an,_,ϱ,g1,_,ϱ,wt,_,_,_,ϱ,ϱ,SqT.of Z,St.at0,aa,_,ϱ,DPut.k (k:=.inl i) ha ω,?_⟩
  have g2:=g.ast n (k:=bZ ak (.inl i) (.int r.1)) ea
  have v2:=tw ea (bZ ak (.inl i) (.int r.1))
  have J:ImS CH CL H1 (upd H1 aa (.dK (bZ ak (.inl i) (.int r.1)))):=cJ bn ha id
  have l2:(dset bi y (bZ ak (.inl i) (.int r.1))).length<=an.length+1:=by unfold dset;rw [List.length_map];exact u2.len
  obtain ⟨eo,d7⟩:=v2.here
  have av:aY (bZ ak (.inl i) (.int r.1)) (.inl i)=some (.int r.1):=by rw [rG,Ź rfl]
  exact ⟨_,ϱ,W.l,W.dx,_,ϱ,g2.wo.wi,cW θ,_,ϱ,_,ϱ,_,ϱ,wt,_,_,_,ϱ,ϱ,SqT.of (J.ts _ _ Z),St.at0,b,h,b2,us,v',d',_,y,ya,i,_,r.1,ϱ,g2.self fK,J.ts _ _ G,d7,av,ω,λu t2 H2 g3 dp ds=>nx _ H2 (q L _ c u t2 d' b2 v' H2 (g2.trans g3) u1 (u2.then v2 l2) dp ds ((dV.keep J).keep g3.ow.im))⟩
 case s3 =>
  rintro D σ H1 ⟨t,Y,c,L,rfl,g,u1,ht,Z,G,nx⟩
  have g1:=DGet.t (k:=pk y) g.an G
  rw [dw] at g1
  refine ⟨_,ϱ,_,ϱ,W.l,CV,W.dx,_,_,ϱ,g.wo.wi,T.cl,T.an,k9,W.an,_,ϱ,g1,_,ϱ,?_⟩
  clear g1
  rcases aZ with ⟨j,X,rfl,rfl⟩ | ⟨a1,a2,j,X⟩
  .have X:aF an y=none:=X
   rw [X]
   refine cr λaa a8=>⟨_,ϱ,W.l,CV,W.dx,_,_,ϱ,af a8 _ _ g.wo.wi,T.cl,T.an,k9,_,ϱ,W.an,_,ϱ,DPut.t (k:=pk y) (af a8 _ _ g.an) (af a8 _ _ G) (by show (dD an).length<_;unfold dD;rw [List.length_map];omega),?_⟩
   rw [il _ (show aY (dD an) (pk y)=none by rw [dw,X];rfl)]
   have J:ImS CH CL H1 (upd (upd H1 aa (.dK [])) W.an (.dT (dD an++[(pk y,.ref aa)]))):=(cR (af a8)).trans (cJ bn (af a8 _ _ g.an) id)
   have g2:=g.anew n X a8
   generalize (upd (upd H1 aa (.dK [])) W.an (.dT (dD an++[(pk y,.ref aa)])))=H2 at g2 J ⊢
   refine ⟨_,ϱ,h.l,h.dx,_,ϱ,g2.sh,iI θ,_,ϱ,χ,λrr dt=>?_⟩
   have s3:=af (o:=.tup [.str "work",.ref ya]) dt
   have g3:=g2.same n s3
   have c5:RxAt K (upd H2 rr (.tup [.str "work",.ref ya])) b.p rr (.work y):=⟨ya,ae,s3 _ _ (J.ts _ _ G)⟩
   refine ⟨b.p,b.A,h,d,rs,us,v,rr,.work y,_,ϱ,(g3.self fK).ow,g3.wo.si,c5,⟨(λc hc=>by cases hc),(λ_ z=>by cases z),(λ_ _ z=>by cases z),len,d4⟩,ω,λv' H4 o4 dz nw=>?_⟩
   have bB:=(J.ts).trans (s3.ts.trans (ImS.ts o4.im))
   exact ⟨t,Y,c,L,_,_,_,v',ϱ,g3.trans ⟨o4,(g3.wo.im n o4.im).wsi dz⟩,u1,wX X aa [],.inr ⟨ϱ,rr,ϱ,c5.keep o4.im,nw,ϱ⟩,bB _ _ ht,bB _ _ Z,bB _ _ G,nx⟩
  .have X:aF an y=some ⟨y,a2,ak⟩:=X
   rw [X]
   exact aU ⟨t,Y,c,L,an,d,rs,v,ϱ,g,u1,⟨⟨a2,X⟩,λ_ _=>rfl,Ł _⟩,.inl ⟨ϱ,ϱ,ϱ,ϱ⟩,ht,Z,G,nx⟩
 case s2 =>
  rintro D σ H1 ⟨t,Y,c,rfl,g,ht,⟨c1,⟨o1,b1,cF⟩,pch⟩,Z,G,nx⟩
  refine ⟨_,ϱ,W.l,CV,W.dx,_,_,ϱ,g.wo.wi,T.cl,T.dr,uJ,W.dr,ϱ,.inr ⟨_,.inl g.dr⟩,_,ϱ,λq0 cv=>?_⟩
  have s1:=af (o:=.dK []) cv
  have l1:r.2.length<=1:=by rw [← er];exact zr ar
  have lc:(chK r.2).length<=1:=by unfold chK;rw [List.length_map];exact l1
  have lm:(aV [] (chK r.2)).length<=1:=by have:=dR (chK r.2) [];simp at this;omega
  have ca:∀{H4:Hp},TSame H1 H4->Paired (prD H4) (chK r.2) c1:=λt4=>Paired.mapP pch λ_ _ ⟨b,e,hb⟩=>⟨b,e,t4 _ _ hb⟩
  refine ⟨_,pk y,ya,s1 _ _ g.dr,ϱ,s1 _ _ G,(by show (dD dr).length<_;unfold dD;rw [List.length_map];omega),λv' ev=>?_,λev=>?_⟩
  .rw [dw] at ev
   rcases aZ with ⟨j,X,rfl,rfl⟩ | ⟨a1,a2,j,X⟩
   .rw [show aF dr y=none from j] at ev
    cases ev
   .have j:aF dr y=some ⟨y,a1,dk⟩:=j
    rw [j] at ev
    cases ev
    have g4:=g.same n s1
    have U:(upd H1 q0 (.dK [])) a1=some (.dK dk):=g4.dd (cS j).1
    refine ⟨a1,ϱ,.inl ⟨_,.inl U⟩,_,ϱ,t,_,_,_,ϱ,ϱ,SqT.of (s1 _ _ ht),St.at1,Y,c1,chK r.2,ϱ,⟨o1,s1 _ _ b1,cF⟩,ca s1.ts,ω,λp2 a3=>⟨p2,dk,aV [] (chK r.2),ϱ,aq U a3,af a3 _ _ U,ae,ω,?_⟩⟩
    have s5:=af (o:=.dK (aV [] (chK r.2))) a3
    have t6:=s1.ts.trans (s5.ts.trans (fQ (o':=.dK (aV dk (aV [] (chK r.2)))) (s5 _ _ U)))
    exact ⟨t,Y,c,_,ϱ,(g4.same n s5).dst n j,tw j _,t6 _ _ ht,t6 _ _ Z,t6 _ _ G,nx⟩
  .rw [dw] at ev
   rcases aZ with ⟨j,X,rfl,rfl⟩ | ⟨a1,a2,j,X⟩
   .have j:aF dr y=none:=j
    have b6:ImS CH CL H1 (upd (upd H1 q0 (.dK [])) W.dr (.dT (dD dr++[(pk y,.ref q0)]))):=(cR s1).trans (cJ bn (s1 _ _ g.dr) id)
    have g4:=g.dnew n j cv
    have bI:aF (dr++[⟨y,q0,[]⟩]) y=some ⟨y,q0,[]⟩:=by rw [oO (e:=⟨y,q0,[]⟩) j,Ź rfl]
    have U:(upd (upd H1 q0 (.dK [])) W.dr (.dT (dD dr++[(pk y,.ref q0)]))) q0=some (.dK []):=g4.dd (cS bI).1
    show (_:Prop)
    refine ⟨q0,ϱ,.inl ⟨_,.inl U⟩,_,ϱ,t,_,_,_,ϱ,ϱ,SqT.of (b6.ts _ _ ht),St.at1,Y,c1,chK r.2,ϱ,⟨o1,b6 _ _ b1 True.intro,cF⟩,ca b6.ts,ω,λp2 a3=>⟨p2,[],aV [] (chK r.2),ϱ,aq U a3,af a3 _ _ U,ae,by simp;omega,?_⟩⟩
    have s5:=af (o:=.dK (aV [] (chK r.2))) a3
    have t6:=b6.ts.trans (s5.ts.trans (fQ (o':=.dK (aV [] (aV [] (chK r.2)))) (s5 _ _ U)))
    exact ⟨t,Y,c,_,ϱ,(g4.same n s5).dst n bI,(wX j q0 []).then (tw bI _) (by unfold dset;rw [List.length_map,List.length_append];exact Nat.le_refl _),t6 _ _ ht,t6 _ _ Z,t6 _ _ G,nx⟩
   .rw [show aF dr y=some _ from j] at ev
    cases ev
 have hf:(pE I ns).lookup ("step_done":Str)=none:=BF θ θ θ θ θ I ns
 refine ⟨Di 2 0 "p" "self" ⟨ϱ,ϱ,ϱ,ϱ,ϱ⟩ ⟨ϱ,ϱ,ϱ,ϱ,ϱ⟩,_,ϱ,wt,_,_,_,ϱ,ϱ,SqT.of bw,St.at2,I,ns,ϱ,ar,λv1 H1 s1 dB=>?_⟩
 obtain ⟨a1,c4,rfl,b5⟩:=id dB
 have g1:=g0.same n s1
 refine ⟨a1,c4,_,ϱ,b5,hf,_,ϱ,wt,_,_,_,ϱ,ϱ,SqT.of (s1 _ _ bw),St.at1,g1.tb,λfv c H2 k2 dG eH eI dI bt Bh bN pb=>?_⟩
 have cd:H1 b.Pt=some (.tbl (rj pC cz)):=g1.co j0
 have J:ImS CH CL H1 H2:=cJ k2 cd id
 have w2:=g1.wo.im n J
 have g2:Gs C CS CH CL CV K H b (shL CH b.A.l h rs us v) d ⟨W,dl,vs,dr,an,pe,ps,cz⟩ H2 (shL CH b.A.l h rs us v) d ⟨W,dl,vs,dr,an,pe,ps,some c⟩:=⟨g1.ow.kp 7 rfl k2 dG,w2.si,w2.wi,w2.ps,(λz e=>by cases e;exact bt),w2.pe,w2.nd⟩
 have cm:StO CW H2 I ns (.ref a1):=⟨a1,c4,ϱ,k2 _ _ (λz=>by rw [z,cd] at b5;cases b5) b5⟩
 have hs:∀e,aF dr y=some e->H2 e.a=some (.dK dk):=λe ee=>by
  rcases aZ with ⟨j,_⟩ | ⟨a1,a2,j,X⟩
  .rw [show aF dr y=none from j] at ee;cases ee
  .rw [show aF dr y=some _ from j] at ee;cases ee;exact g2.dd (cS (show aF dr y=some _ from j)).1
 have dc:aF dr y=none->dk=[]:=λee=>by
  rcases aZ with ⟨_,_,e,_⟩ | ⟨a1,a2,j,X⟩
  .exact e
  .rw [show aF dr y=some _ from j] at ee;cases ee
 have cp:PaA H2 y ya:=J.ts _ _ (s1 _ _ hy)
 have ct:CloT P w K mg Bh 4 fv (mJ (eU dk d.cells) d.cells.length) H2:=AQ ne pb dI bt T (HV Bh bN) g2.wo.wi g2.dr hs dc di g2.wo.si.ins g2.sa.cl cp
 refine ⟨.ref a1,ns,O,fv,ϱ,ar,ic,cm,ct,λt Y H3 s3 ht b1=>?_⟩
 rw [er] at ht b1
 exact ⟨t,Y,c,ϱ,g2.same n s3,ht,b1,s3 _ _ (J.ts _ _ (s1 _ _ bw)),s3 _ _ cp,λ_ H' z=>z⟩
def vy{n:Nat}{e:Wd}{f:ù}(d:Ar e f)(g:inC n e f):∃k,sy e f=some k:=by
 cases e with
 | take=>obtain ⟨a,b,rfl,_⟩:=d.c rfl;exact ⟨_,rfl⟩
 | mean=>obtain ⟨a,b,rfl,_⟩:=d.c rfl;exact ⟨_,rfl⟩
 | give=>obtain ⟨a,b,rfl,_⟩:=d.c rfl;exact ⟨_,rfl⟩
 | sum=>obtain ⟨a,b,c,rfl,_⟩:=d.s;exact ⟨_,rfl⟩
 | add=>obtain ⟨a,b,c,rfl,_⟩:=d.a;exact ⟨_,rfl⟩
 | plus=>exact g.elim
 | need=>exact g.elim
inductive mH (C:Kd->é) (CS CH CL CV:é) (K:ä) (Pt:é) (vs:à V) (H:Hp) (Q:VK) (E:XK):Prop|mk b h d rs us v y ya i hand wd ns x dk ak:vs=[.ref (x:Wx).W.l,.ref (h:Ah).l,.ref ya,.int i,.int hand,.str (txt wd ns)]->(b:Bx).Pt=Pt->Gs C CS CH CL CV K H b (shL CH b.A.l h rs us v) d x H (shL CH b.A.l h rs us v) d x->PaA H y ya->Ar wd ns->inC d.cells.length wd ns->d.cells.length<=900->d.wk.length<=60->d.en=[]->((y=b.p->d.rd=none))->Own x y dk ak->DrI dk->dk.length<=100->ak.length<=100->x.dr.length<=100->x.an.length<=100->x.pe.length<=100->rs.length<=100->us.length<=100->x.ps.length<=900->aY ak (.inl i)=none->bT x.pe y=none->fj x.ps y=none->(∀lk,sy wd ns=some lk->(i6 x.ps y lk=true->∀dr' an' c vs' u t d' rs' v' H',Gs C CS CH CL CV K H b (shL CH b.A.l h rs us v) d x H' (shL CH b.A.l h rs' (us++[u]) v') d' ⟨x.W,x.dl,vs',dr',an',x.pe,bh x.ps y lk,some c⟩->Up x.dr y (aV dk (aV [] (chK (dn (eU dk d.cells) wd ns hand).2))) dr'->Up x.an y (bZ ak (.inl i) (.int (dn (eU dk d.cells) wd ns hand).1)) an'->WsAt H' (y.1,"did",ya,t) u->H' t=some (.tup [.int i,.int (dn (eU dk d.cells) wd ns hand).1])->RwD K H' b d y (aF x.an y).isSome rs v rs' v' d'->Q .non H')/\(i6 x.ps y lk=false->∀wt vs' H',Gs C CS CH CL CV K H b (shL CH b.A.l h rs us v) d x H' (shL CH b.A.l h rs us v) d ⟨x.W,x.dl,vs',x.dr,x.an,x.pe++[⟨y,wt,i,hand,wd,ns⟩],bh x.ps y lk,x.cz⟩->Q .non H'))->mH C CS CH CL CV K Pt vs H Q E
def Aj{Pt:é}(F:Fun K "work" "Works.work" gG f fd)(TW:TxW K CW)(T:TxV K CV)(L:TxL K C CL)(n:Nq C CS CH CL CV)
  (GB:GM P w K mg base CX0 2 CV "is_bound" ["self","p"] (uX CS CV K))(GK:GM P w K mg base CX0 5 CL "ask" ["self","p","lock"] (xu C CL K))(GO:GF P w K mg base CX0 3 "lock_of" ["told"] (mL C K))
  (GR:GF P w K mg base CX0 6 "read_step" ["text"] (mi CW))(GL:∀wd,GM P w K mg base CX0 3 (CW wd) "lock" ["self"] (eY CW K wd))(GS:GM P w K mg base CX0 7 CV "do_step" ["self","sheet","p","waited"] (uY C CS CH CL CV K Pt)):FnOk P w K mg base CX0 8 f fd ["self","sheet","p","i","hand","text"] (mH C CS CH CL CV K Pt):=by
 refine F.oj oV λd6 A0 c1 s H vs Q E j h=>?_
 obtain ⟨b,h,d,rs,us,v,y,ya,i,g,wd,q,⟨W,dl,vs,dr,an,pe,Z,cz⟩,dk,ak,rfl,bg,g0,hy,ar,ic,hn,bl,en,bm,a3,di,bp,bt,a4,a5,bw,bA,bB,a6,ev,r,a7,q2⟩:=h
 simp only [] at q2 a4 a5 bw a6 r a7
 have hz:(1000:Nat)<=sizeLine:=by decide
 refine ⟨_,ah (aJ (cK (pm GB (pv 0) T.cl j (ac (pv 2) ag))) (aj vd) aB)
  (aj (aJ (ip (qS (cE j) (pv 3) (rY (cE j) (au (pv 0) rfl) (pv 2) jG ⟨ϱ,ϱ,ϱ,ϱ⟩))) aH
   (aj (aJ (ip (iP (cE j) (pv 2) (au (pv 0) rfl))) (aj (aJ (cK (pm GK (au (pv 0) rfl) L.cl j (ac (pv 2) (ac (pc GO j (ac (pm0 (GL wd) (pc GR j (ac (pv 5) ag)) (TW.cl wd) j) ag)) ag))))
    (aj (aQ (pm GS (pv 0) T.cl j (ac (pv 1) (ac (pv 2) (ac (aL (ac (pv 3) (ac (pv 4) (ac (pv 5) ag)))) ag))))))
    (aj (gB (cE j) (au (pv 0) rfl) (pv 2) (aL (ac (pv 3) (ac (pv 4) (ac (pv 5) ag)))) rfl)))) aB)))),?_⟩
 refine ⟨_,ϱ,W.l,W.dx,_,ϱ,g0.wo.wi,cW θ,_,ϱ,W,b.home,b.many,b.A,d,_,y,b.p,ϱ,g0.wo.wi,g0.sa,en,hy,bm,λH1 s1=>⟨_,ϱ,?_⟩⟩
 obtain ⟨X,a8⟩:=vy ar ic
 obtain ⟨q3,q4⟩:=q2 X a8
 refine aU ?_
 have g1:=g0.same n s1
 refine ⟨_,ϱ,_,ϱ,W.l,CV,W.dx,_,_,ϱ,g1.wo.wi,T.cl,T.an,k9,W.an,ϱ,.inr ⟨_,.inl g1.an⟩,_,ϱ,λq0 O=>⟨_,DGet.t (k:=pk y) (af O _ _ g1.an) (af O _ _ (s1 _ _ hy)),?_⟩⟩
 have s2:=af (o:=.dK []) O
 have Y:=g1.same n s2
 have ab:=s2 _ _ (s1 _ _ hy)
 rw [dw]
 obtain ⟨a0,bC,bG⟩:∃a0,((aF an y).map λe=>V.ref e.a).getD (.ref q0)=.ref a0/\(upd H1 q0 (.dK [])) a0=some (.dK ak):=by
  rcases a3 with ⟨_,e2,_,rfl⟩ | ⟨a1,a2,_,e2⟩
  .rw [show aF an y=none from e2];exact ⟨q0,ϱ,ae⟩
  .rw [show aF an y=some _ from e2];exact ⟨a2,ϱ,Y.aa (cS (show aF an y=some _ from e2)).1⟩
 rw [bC]
 refine ⟨a0,_,ϱ,DGet.k (k:=.inl i) bG,_,ϱ,?_⟩
 rw [ev]
 have dg:=DGet.t (k:=pk y) Y.pe ab
 rw [gr,r] at dg
 refine aU ⟨_,ϱ,_,ϱ,W.l,CV,W.dx,_,_,ϱ,Y.wo.wi,T.cl,T.pe,pF,W.pe,_,ϱ,dg,_,ϱ,cr ?_⟩
 refine ⟨_,ϱ,W.l,CV,W.dx,_,_,ϱ,Y.wo.wi,T.cl,T.lk,uI,W.lk,dl,_,ϱ,Y.co j1,gi θ,_,ϱ,_,ϱ,wd,q,ϱ,ar,λsv H3 s3 b0=>?_⟩
 obtain ⟨sa,bI,rfl,bN⟩:=id b0
 have fl:=BF (m:="lock") θ θ θ θ θ wd q
 refine ⟨sa,bI,_,ϱ,bN,fl,_,q,ϱ,ar,b0,λu H4 s4 lo=>?_⟩
 rw [a8] at lo
 obtain ⟨la,rfl,bP⟩:=lo
 refine ⟨_,X,ϱ,uF bP,λu2 H5 s5 c3=>?_⟩
 have ap:=s3.trans (s4.trans s5)
 have g5:=Y.same n ap
 have as:=ap _ _ ab
 refine ⟨W.lk,W.pl,Z,_,y,u2,X,ϱ,g5.ls,Š a6 ζ,cG (k:=y) as,c3,a7,λH6 c4 k6=>?_⟩
 obtain ⟨d3,x,_,e6,bS⟩:=c4
 have av:ImS CH CL H5 H6:=cJ k6 (g5.co j2) id
 have w6:=g5.wo.im n av
 have g6:Gs C CS CH CL CV K H b (shL CH b.A.l h rs us v) d ⟨W,dl,vs,dr,an,pe,Z,cz⟩ H6 (shL CH b.A.l h rs us v) d ⟨W,dl,x,dr,an,pe,bh Z y X,cz⟩:=⟨g5.ow.kp 9 rfl k6 e6,w6.si,w6.wi,bS,w6.cz,w6.pe,w6.nd⟩
 have aS:=av.ts _ _ as
 refine ⟨_,ϱ,?_⟩
 cases ea:i6 Z y X with
 | true =>
  refine cr ⟨_,ϱ,W.l,W.dx,_,ϱ,g6.wo.wi,cW θ,_,ϱ,_,ϱ,_,ϱ,_,ϱ,_,ϱ,χ,λG U=>?_⟩
  have s7:=af (o:=.tup [.int i,.int g,.str (txt wd q)]) U
  have I:=g6.same n s7
  exact ⟨b,h,d,rs,us,v,y,ya,G,i,g,wd,q,⟨W,dl,x,dr,an,pe,bh Z y X,cz⟩,dk,ak,ϱ,bg,I.self fK,s7 _ _ aS,ae,ar,ic,hn,bl,by rw [en];exact ϖ _,a3,di,bp,bt,a4,a5,bA,bB,λc5 ca c u t d' cb v' H8 g8 u1 u3 cc cd cf=>q3 ea c5 ca c x u t d' cb v' H8 (I.trans g8) u1 u3 cc cd cf⟩
 | false =>
  refine aU ⟨_,ϱ,_,ϱ,_,ϱ,χ,λG U=>?_⟩
  have s7:=af (o:=.tup [.int i,.int g,.str (txt wd q)]) U
  have I:=g6.same n s7
  refine ⟨_,ϱ,W.l,CV,W.dx,_,_,ϱ,I.wo.wi,T.cl,T.pe,pF,_,ϱ,W.pe,_,ϱ,DPut.t (k:=pk y) I.pe (s7 _ _ aS) (by show (dP pe).length<_;unfold dP;rw [List.length_map];omega),?_⟩
  rw [il _ (show aY (dP pe) (pk y)=none by rw [gr,r];rfl)]
  have ed:dP (pe++[⟨y,G,i,g,wd,q⟩])=dP pe++[(pk y,.ref G)]:=by unfold dP;rw [List.map_append];rfl
  have J:ImS CH CL (upd H6 G (.tup [.int i,.int g,.str (txt wd q)])) (upd (upd H6 G (.tup [.int i,.int g,.str (txt wd q)])) W.pe (.dT (dP pe++[(pk y,.ref G)]))):=cJ bn I.pe id
  have o8:=I.ow.up 12 (.dT (dP pe++[(pk y,.ref G)])) rfl
  have D:=I.wo.im n J
  rw [← ed] at o8 ⊢ D J
  refine q4 ea G x _ ⟨o8,D.si,D.wi,D.ps,D.cz,λe he=>?_,D.nd.1,D.nd.2.1,?_⟩
  .rcases Ŷ.mp he with m | m
   .exact D.pe e m
   .rw [ϵ.mp m]
    exact J _ _ ae ϰ
  .rw [ſ,Ŧ]
   refine ⟨D.nd.2.2,by simp,λu hu v hv z=>?_⟩
   obtain ⟨f,hf,rfl⟩:=ϑ.mp hu
   exact List.find?_eq_none.mp r f hf (decide_eq_true (by rw [z];simpa using hv))
end
end K55
namespace L2
open PySem PySem.Spec PyProof.Rows PySem.W
section
variable {prog:ê}{w:è}{A:æ}{E:Ă}{s:ë}{κ:Type} [DecidableEq κ] {knd:HeapKind prog w κ}{d a:é}
def Ey(knd:HeapKind prog w κ)(h:ã)(d:é)(xs:à (κ×Addr×å)):Prop:=∃o es ep,h.get? d=some o/\o.ExactDict/\o.data=.dict es ep/\es.toList=xs.map (entryOfKey knd)
theorem uz{α β:Type}(f:α->β):∀(xs:à α) (j:Nat),(xs.map f).eraseIdx j=(xs.eraseIdx j).map f
 | [],_=>rfl
 | _::_,0=>rfl
 | x::xs,j+1=>congrArg (f x::·) (uz f xs j)
def lg{k:κ}{xs:à (κ×Addr×å)}{Q:Option DictEntry->ë->Prop}(y:knd.room A)(e:knd.is s.heap k a)(G:s.heap.DictOfH knd d xs)(H:xs.length<=sizeLine)(x:(∀(j:Nat) (p:Addr×å),xs[j]?≠some (k,p))->Q none {s with toks:=s.toks+knd.draws k})
  (h:∀(j:Nat) (b:é) (v:å),xs[j]?=some (k,b,v)->∀h',Ey knd h' d (xs.eraseIdx j)->Heap.SameBut d s.heap h'->Q (some (entryOfKey knd (k,b,v))) {s with heap:=h',toks:=s.toks+knd.draws k}):wpAny (model prog w) A (Builtin.Dict.takeOut d (.ref a)) Q E s:=by
 obtain ⟨o,es,z,i,C,f,l,q,D⟩:=G
 unfold Builtin.Dict.takeOut
 refine Ŝ (ε (knd.pyHash y e ?_))
 have g:es.size=xs.length:=size_of_entries l
 refine ε (wpAny_dictFind_heap (s:={s with toks:=s.toks+knd.draws k}) y e i f l q D (λF=>π (x F)) (λj p u=>?_))
 refine ε (Ř (s:={s with toks:=s.toks+knd.draws k}) i f ?_)
 rw [entry_at l j,u]
 have r:j<es.size:=by rw [g];exact (ż.mp u).1
 refine wpAny_bind (wpAny_updateDictKeys (hz:=by rw [g];exact H) (hf:=by simp [Array.eraseIdxIfInBounds];split<;>simp<;>omega) (s:={s with toks:=s.toks+knd.draws k}) i f (wpAny_pure (h j p.1 p.2 u _ ⟨_,_,z+1,Heap.get?_update_self _ i (Obj.isFreed_of_dict (Obj.data_mapDictKeys f _)),C.mapDictKeys _,Obj.data_mapDictKeys f _,?_⟩ (Heap.SameBut.update ..))))
 rw [Array.eraseIdxIfInBounds,dif_pos r,Array.toList_eraseIdx,l,uz]
def ul(knd:HeapKind prog w κ)(d a:é)(hs:(d==sysModules)=false)(more:ü)(hm:more=[]\/∃x,more=[x]) :
  MeetsIn prog w (Builtin.«dict.pop» ⟨.ref d :: .ref a :: more, []⟩) (fun A R s => knd.room A.in1 ∧ ∃ k xs, knd.is s.heap k a ∧ s.heap.DictOfH knd d xs ∧ xs.length ≤ sizeLine ∧ ((∀ (j : Nat) (p : é × å), xs[j]? ≠ some (k, p)) → ∃ x, more = [x] ∧ ∀ tk, R (.ok (.ret x)) { s with toks := tk }) ∧
   ∀(j:Nat) (b:é) (v:å),xs[j]?=some (k,b,v)->∀h',Ey knd h' d (xs.eraseIdx j)->Heap.SameBut d s.heap h'->R (.ok (.ret v)) {s with heap:=h',toks:=s.toks+knd.draws k}) :=
 .of_wp λA R s ⟨hu,k,xs,hkey,hd,lz,no,h⟩=>by
  have hd2:=hd
  obtain ⟨o,es,ep,ho,hc,hdd,he,his,hn⟩:=hd2
  have hne:¬((d==sysModules)=true):=by rw [hs];decide
  unfold Builtin.«dict.pop»
  refine ε ?_
  unfold Builtin.Dict.keyAndDefault
  refine ε (ļ hd.typeIs ?_)
  rcases hm with rfl | ⟨x,rfl⟩
  .show wpAny _ _ (pure (d,Value.ref a,none)) _ _ s
   refine π ?_
   show wpAny _ _ (dictEntries d >>= λes=>(pure es.isEmpty >>= λ_=>_)) _ _ s
   refine ε (Ř ho hdd (ε (π ?_)))
   cases xs with
   | nil=>obtain ⟨x,e,_⟩:=no (λj p e=>by cases e);cases e
   | cons x0 r =>
    have e1:es=⟨entryOfKey knd x0::r.map (entryOfKey knd)⟩:=ĭ.mp he
    subst e1
    show wpAny _ _ (Builtin.Dict.takeOut d (.ref a) >>= λ_=>_) _ _ s
    exact ε (lg hu hkey hd lz (λn=>by obtain ⟨x,e,_⟩:=no n;cases e) λj b v hj h' dr sb=>ε (wpAny_letGo (π ⟨_,rfl,h j b v hj h' dr sb⟩)))
  .show wpAny _ _ (pure (d,Value.ref a,some x)) _ _ s
   refine π ?_
   show wpAny _ _ (dictEntries d >>= λes=>(pure es.isEmpty >>= λ_=>_)) _ _ s
   refine ε (Ř ho hdd (ε (π ?_)))
   cases xs with
   | nil =>
    have e1:es=#[]:=ĭ.mp he
    subst e1
    obtain ⟨x',e,q⟩:=no (λj p e=>by cases e)
    cases e
    show wpAny _ _ (rule "dict.pop.empty" >>= λ_=>(pure none >>= λ_=>_)) _ _ s
    refine ε (Ą (ε (π ?_)))
    show wpAny _ _ (Builtin.Dict.missedRemoval d (.ref a) >>= λ_=>_) _ _ s
    refine ε ?_
    unfold Builtin.Dict.missedRemoval
    rw [ž hne]
    exact π (ε (Ą (π ⟨_,ϱ,q s.toks⟩)))
   | cons x0 r =>
    have e1:es=⟨entryOfKey knd x0::r.map (entryOfKey knd)⟩:=ĭ.mp he
    subst e1
    show wpAny _ _ (Builtin.Dict.takeOut d (.ref a) >>= λ_=>_) _ _ s
    refine ε (lg hu hkey hd lz (λn=>?_) λj b v hj h' dr sb=>ε (wpAny_letGo (π ⟨_,ϱ,h j b v hj h' dr sb⟩)))
    obtain ⟨x',e,q⟩:=no n
    cases e
    show wpAny _ _ (Builtin.Dict.missedRemoval d (.ref a) >>= λ_=>_) _ _ _
    refine ε ?_
    unfold Builtin.Dict.missedRemoval
    rw [ž hne]
    exact π (ε (Ą (π ⟨_,ϱ,q _⟩)))
end
theorem vA:∀{kvs:List (List Key×V)} {j:Nat} {k:List Key} {v:V},(kvs.map (·.1)).Nodup->kvs[j]?=some (k,v)->kvs.eraseIdx j=cP kvs k
 | [],_,_,_,_,h=>by cases h
 | x::r,0,k,v,n,h=>by
  cases h
  rw [ű,đ] at n
  show r=cP ((k,v)::r) k
  unfold cP
  rw [List.filter_cons_of_neg (by simp)]
  refine (List.filter_eq_self.mpr λy hy=>?_).symm
  have ne:y.1≠k:=λz=>n.1 (ϑ.mpr ⟨y,hy,z⟩)
  simp [ne]
 | x::r,j+1,k,v,n,h=>by
  rw [ű,đ] at n
  have h':r[j]?=some (k,v):=h
  have ne:x.1≠k:=λz=>n.1 (ϑ.mpr ⟨_,Ŵ h',z.symm⟩)
  show x::r.eraseIdx j=cP (x::r) k
  rw [vA n.2 h']
  unfold cP
  rw [List.filter_cons_of_pos (by simp [ne])]
theorem rS{α β:Type}{R:α->β->Prop}:∀{xs:à α} {ys:à β} (j:Nat),Paired R xs ys->Paired R (xs.eraseIdx j) (ys.eraseIdx j)
 | _,_,_,.nil=>.nil
 | _,_,0,.cons _ t=>t
 | _,_,j+1,.cons a t=>.cons a (rS j t)
def BU(td ty:TE):TE:=fun σ H Q=>td σ H λx H1=>∃a,x=.ref a/\IsD H1 a/\ty σ H1 λy H2=>∃k b kvs v,y=.ref b/\H2 b=some (.tup (List.map kV k))/\H2 a=some (.dT kvs)/\aY kvs k=some v/\Q v (upd H2 a (.dT (cP kvs k)))
def BS(td ty tx:TE):TE:=fun σ H Q=>td σ H λx H1=>∃a,x=.ref a/\IsD H1 a/\ty σ H1 λy H2=>tx σ H2 λz H3=>∃k b kvs,y=.ref b/\H3 b=some (.tup (List.map kV k))/\H3 a=some (.dT kvs)/\(∀v,aY kvs k=some v->Q v (upd H3 a (.dT (cP kvs k))))/\(aY kvs k=none->Q z H3)
section
variable {X:Cx}{pins:ă}{σ:St}{H:Hp}{s:ë}{a b:é}{k:List Key}{kvs:List (List Key×V)}{v:V}{o e f:á}{apos cpos:Pos}{td ty tx:TE}{Q:Ă}
def vC(hu:X.A.units+1<cLine)(I:Inv X pins σ H s)(L:H a=some (.dT kvs))(eb:H b=some (.tup (List.map kV k)))(more:ü)(hm:more=[]\/∃x,more=[x])(O:aY kvs k=none->∃x,more=[x]/\∀tk,Q x {s with toks:=tk})(h:∀v w' s',aY kvs k=some v->Inv X pins σ (upd H a (.dT (cP kvs k))) s'->RelV v w'->Q w' s') :
  wpAny (model X.prog X.w) X.A (call (.builtin "dict.pop") (.ref a::.ref b::more)) Q X.xe s:=by
 obtain ⟨P,U,G,d,dd⟩:=vD I.hok L
 have len:=Ĥ d
 have D:(kvs.map (·.1)).Nodup:=by
  obtain ⟨_,_,_,_,_,_,_,_,D⟩:=id dd
  have e:kvs.map (·.1)=G.map (·.1):=List.ext_getElem? λj=>by
   rw [Ż,Ż]
   cases g:kvs[j]? with
   | none=>rw [List.getElem?_eq_none (by rw [← len];exact Ī.mp g)];rfl
   | some f =>
    obtain ⟨y,o,l,_⟩:=Paired.get1 d g
    rw [o]
    exact congrArg some l
  rw [e];exact D
 have val:∀(j:Nat) (v:V),kvs[j]?=some (k,v)->aY kvs k=some v:=λj v g=>by
  unfold aY
  cases r:kvs.find? λf=>decide (f.1=k) with
  | none=>exact absurd (τ rfl) (ũ.mp r _ (Ŵ g))
  | some f =>
   obtain ⟨i,u⟩:=ť (Ŀ r)
   have K:f.1=k:=Ξ (List.find?_some (p:=λf:à Key×V=>decide (f.1=k)) r)
   have l:(kvs.map (·.1))[i]?=some k:=by rw [Ż,u];exact congrArg some K
   have W:(kvs.map (·.1))[j]?=some k:=by rw [Ż,g];rfl
   have ij:=(ĥ (ż.mp l).1 D).mp (l.trans W.symm)
   rw [ij,g] at u
   cases u
   rfl
 have ha:argsOk "dict.pop" ⟨.ref a::.ref b::more,[]⟩:=by
  rcases hm with q | ⟨x,q⟩
  .subst q;exact PySem.F.args_dict_pop_2 _ _
  .subst q;exact PySem.F.args_dict_pop_3 _ _ _
 refine call_meetsIn PySem.F.slot_dict_pop dd.typeIs PySem.F.entry_dict_pop ha (ul (tupleKind (aM X.prog X.w)) a b U more hm) ⟨Ō hu,k,G,gQ I.hok eb,dd,by rw [← len];exact P,λno=>O ?_,λj b2 v2 Y h' ⟨q,es,ep,Z,h2,h3,h4⟩ sb=>?_⟩
 .cases ev:aY kvs k with
  | none=>rfl
  | some v =>
   obtain ⟨f,r,_⟩:=ų.mp ev
   obtain ⟨i,u⟩:=ť (Ŀ r)
   have K:f.1=k:=Ξ (List.find?_some (p:=λf:à Key×V=>decide (f.1=k)) r)
   obtain ⟨y,o,l,_⟩:=Paired.get1 d u
   exact absurd (by rw [o,← K,l]) (no i y.2)
 .have C:j<kvs.length:=by rw [len];exact (ż.mp Y).1
  obtain ⟨y,o,l,W,e3⟩:=Paired.get1 d (ξ C)
  rw [Y] at o
  cases o
  have g:kvs[j]?=some (k,kvs[j].2):=by rw [ξ C];exact congrArg some (Ć l rfl)
  refine h kvs[j].2 v2 _ (val j _ g) (jR I (by rw [L];exact ϰ) sb ⟨q,Z⟩ ⟨?_,U,G.eraseIdx j,?_,q,es,ep,Z,h2,h3,h4,?_⟩) e3
  .exact Λ (Ų _ _) P
  .rw [← vA D g]
   exact Paired.mapP (rS j d) λ_ _ z=>⟨z.1,by rw [am (λy=>by have:=z.2.1;rw [y,L] at this;cases this)];exact z.2.1,z.2.2⟩
  .obtain ⟨_,_,_,_,_,_,_,_,J⟩:=id dd
   rw [← uz]
   exact J.sublist (List.eraseIdx_sublist ..)
def rX(O:X.A.units+1<cLine)(P:PE X o td)(U:PE X e ty)(m:M1 X o "pop" apos e cpos):PE X (.Call (.Attribute o "pop" apos) [e] [] cpos) (BU td ty):=by
 intro pins s σ H Q I h
 refine Ħ m.base m.few m.line š PySem.F.slot_dict_pop PySem.F.type_dict_pop (thn (P pins s σ H _ I h) λu q ⟨x,H1,g,r,a,ex,d,q1⟩=>?_)
 subst ex
 obtain rfl:u=Value.ref a:=r
 obtain ⟨j,l,_⟩:=jk g d
 refine ⟨j,l,?_⟩
 rw [m.trees]
 refine Ū rfl (Ŋ (Ť (thn (U pins q σ H1 _ g q1) λw W ⟨y,Y,C,D,k,b,kvs,v,G,J,K,i,q2⟩=>Ņ ?_)))
 subst G
 obtain rfl:w=Value.ref b:=D
 exact vC O C K J [] (.inl rfl) (λz=>by rw [i] at z;cases z) λZ w' s3 z L f=>by rw [i] at z;cases z;exact ⟨v,_,L,f,q2⟩
def nU(hu:X.A.units+1<cLine)(ho:PE X o td)(he:PE X e ty)(hf:PE X f tx)(m:M2 X o "pop" apos e f cpos):PE X (.Call (.Attribute o "pop" apos) [e,f] [] cpos) (BS td ty tx):=by
 intro pins s σ H Q I h
 refine Ħ m.base m.few m.line š PySem.F.slot_dict_pop PySem.F.type_dict_pop (thn (ho pins s σ H _ I h) λu C ⟨x,H1,l,D,a,ex,d,q1⟩=>?_)
 subst ex
 obtain rfl:u=Value.ref a:=D
 obtain ⟨r,w,_⟩:=jk l d
 refine ⟨r,w,?_⟩
 rw [m.trees]
 refine Ū rfl (Ŋ (Ť (thn (he pins C σ H1 _ l q1) λG J ⟨y,K,L,O,q2⟩ =>
  Ť (thn (hf pins J σ K _ L q2) λg P ⟨z,U,q,W,k,b,kvs,Y,Z,ea,q3,q4⟩=>Ņ ?_))))
 subst Y
 obtain rfl:G=Value.ref b:=O
 exact vC hu q ea Z [g] (.inr ⟨g,ϱ⟩) (λi=>⟨g,ϱ,λtk=>⟨z,U,q.kept (h':=P.heap) (t':=tk) (λ_ _ z=>z),W,q4 i⟩⟩) λv w' s4 i I4 j=>⟨v,_,I4,j,q3 v i⟩
end
end L2
namespace K55
open PySem L2 Lo St
section
variable {P:ê}{w:è}{K:ä}{mg:ā}{base:ã}{f CL CS CH CV:é}{fd:ç}{C:Kd->é}{CW:Wd->é}
def t8{p z:Pa}(e:pk p=pk z):p=z:=by
 simp only [pk,List.cons.injEq,Sum.inl.injEq,and_true] at e
 exact Ć e.1 e.2
def dlt(xs:à Dr)(y:Pa):à Dr:=xs.filter λe=>decide (e.y≠y)
def plt(xs:à Pd)(y:Pa):à Pd:=xs.filter λe=>decide (e.y≠y)
def oJ{α:Type}(k:α->Pa)(f:α->V)(xs:à α)(y:Pa):cP (xs.map λe=>(pk (k e),f e)) (pk y)=(xs.filter λe=>decide (k e≠y)).map λe=>(pk (k e),f e):=by
 unfold cP
 rw [List.filter_map]
 congr 1
 refine List.filter_congr λe _=>?_
 show decide (pk (k e)≠pk y)=decide (k e≠y)
 by_cases z:k e=y
 .simp [z]
 .simp [z,show pk (k e)≠pk y from λq=>z (t8 q)]
def sM{α:Type}(k:α->Pa)(xs:à α)(y z:Pa):((xs.filter λe=>decide (k e≠y)).find? λe=>decide (k e=z))=if z=y then none else xs.find? λe=>decide (k e=z):=by
 rw [List.find?_filter]
 by_cases q:z=y
 .rw [Ź q,ũ]
  intro e _ h
  simp at h
  exact h.1 (h.2.trans q)
 .rw [ž q]
  congr 1
  funext e
  by_cases w:k e=z
  .simp [w,q]
  .simp [w]
def uy{α:Type}{k:α->Pa}{xs:à α}{y:Pa}(h:(xs.find? λe=>decide (k e=y))=none):(xs.filter λe=>decide (k e≠y))=xs:=List.filter_eq_self.mpr λe he=>τ λz=>ũ.mp h e he (τ z)
def oN(xs:à Dr)(y z:Pa):aF (dlt xs y) z=if z=y then none else aF xs z:=sM Dr.y xs y z
def rV(xs:à Pd)(y z:Pa):bT (plt xs y) z=if z=y then none else bT xs z:=sM Pd.y xs y z
section
variable {N:û}{H0 H:Hp}{b:Bx}{d:Sx}{x:Wx}{h:Ah}{rs:û}{us:à V}{v:V}{y:Pa}
abbrev Wx.pen(x:Wx)(pe:à Pd):Wx:=⟨x.W,x.dl,x.vs,x.dr,x.an,pe,x.ps,x.cz⟩
def Gd.popD(g:Gd C CS CH CL CV K N H0 H b (shL CH b.A.l h rs us v) d x)(n:Nq C CS CH CL CV)(y:Pa){Q:Hp->Prop}(q:∀H',ImS CH CL H H'->Gd C CS CH CL CV K N H0 H' b (shL CH b.A.l h rs us v) d (x.dra (dlt x.dr y) x.an)->Q H') :
  (∀v,aY (dD x.dr) (pk y)=some v->Q (upd H x.W.dr (.dT (cP (dD x.dr) (pk y)))))/\(aY (dD x.dr) (pk y)=none->Q H):=by
 refine ⟨λ_ _=>?_,λz=>q H (cR (Same.refl H)) ?_⟩
 .have o:=g.ow.up 10 (.dT (cP (dD x.dr) (pk y))) rfl
  have im:ImS CH CL H (upd H x.W.dr (.dT (cP (dD x.dr) (pk y)))):=cJ bn g.dr id
  unfold dD at o im ⊢
  rw [oJ Dr.y (λe=>V.ref e.a)] at o im ⊢
  exact q _ im ⟨o.sub (.append_left (.append_left (.cons₂ _ (.cons₂ _ (.cons₂ _ (.cons₂ _ (.cons₂ _ (.cons₂ _ (.append_right (.map _ ĝ) _))))))) _) _),(g.wo.dra (g.wo.nd.1.sublist (.map _ ĝ)) g.wo.nd.2.1).im n im⟩
 .rw [dw,Option.map_eq_none_iff] at z
  rw [show dlt x.dr y=x.dr from uy z]
  exact g
def Gd.popA(g:Gd C CS CH CL CV K N H0 H b (shL CH b.A.l h rs us v) d x)(n:Nq C CS CH CL CV)(y:Pa){Q:Hp->Prop}(q:∀H',ImS CH CL H H'->Gd C CS CH CL CV K N H0 H' b (shL CH b.A.l h rs us v) d (x.dra x.dr (dlt x.an y))->Q H') :
  (∀v,aY (dD x.an) (pk y)=some v->Q (upd H x.W.an (.dT (cP (dD x.an) (pk y)))))/\(aY (dD x.an) (pk y)=none->Q H):=by
 refine ⟨λ_ _=>?_,λz=>q H (cR (Same.refl H)) ?_⟩
 .have o:=g.ow.up 11 (.dT (cP (dD x.an) (pk y))) rfl
  have im:ImS CH CL H (upd H x.W.an (.dT (cP (dD x.an) (pk y)))):=cJ bn g.an id
  have f:cP (dD x.an) (pk y)=dD (dlt x.an y):=oJ Dr.y (λe=>V.ref e.a) x.an y
  rw [f] at o im ⊢
  exact q _ im ⟨o.sub (.append_left (.append_left (.cons₂ _ (.cons₂ _ (.cons₂ _ (.cons₂ _ (.cons₂ _ (.cons₂ _ (.append_left (.map _ ĝ) _))))))) _) _),(g.wo.dra g.wo.nd.1 (g.wo.nd.2.1.sublist (.map _ ĝ))).im n im⟩
 .rw [dw,Option.map_eq_none_iff] at z
  rw [show dlt x.an y=x.an from uy z]
  exact g
def Gd.popP(g:Gd C CS CH CL CV K N H0 H b (shL CH b.A.l h rs us v) d x)(n:Nq C CS CH CL CV)(y:Pa){Q:Hp->Prop}(q:∀H',ImS CH CL H H'->Gd C CS CH CL CV K N H0 H' b (shL CH b.A.l h rs us v) d (x.pen (plt x.pe y))->Q H') :
  (∀v,aY (dP x.pe) (pk y)=some v->Q (upd H x.W.pe (.dT (cP (dP x.pe) (pk y)))))/\(aY (dP x.pe) (pk y)=none->Q H):=by
 refine ⟨λ_ _=>?_,λz=>q H (cR (Same.refl H)) ?_⟩
 .have o:=g.ow.up 12 (.dT (cP (dP x.pe) (pk y))) rfl
  have im:ImS CH CL H (upd H x.W.pe (.dT (cP (dP x.pe) (pk y)))):=cJ bn g.pe id
  have f:cP (dP x.pe) (pk y)=dP (plt x.pe y):=oJ Pd.y (λe=>V.ref e.a) x.pe y
  rw [f] at o im ⊢
  have w:=g.wo.im n im
  exact q _ im ⟨o,w.si,w.wi,w.ps,w.cz,λe i=>w.pe e (Ş.mp i).1,w.nd.1,w.nd.2.1,w.nd.2.2.sublist (.map _ ĝ)⟩
 .rw [gr,Option.map_eq_none_iff] at z
  rw [show plt x.pe y=x.pe from uy z]
  exact g
end
def AI(K:ä):Bool:=K.all λp=>match p.2.data with
 | .seq its _=>match its.toList with
  | .int _ _::_=>false
  | _=>true
 | _=>true
def Bu{H:Hp}{z:Pa}{v:V}(i:AI K=true)(h:cPa.rp K H z v):∃a,v=.ref a/\PaA H z a:=by
 obtain ⟨a,u1,d,rfl,b,f,g⟩:=h
 cases (show u1=.int z.1 from f)
 cases (show d=.int z.2 from g)
 rcases b with b | ⟨o,its,n,lk,hc,hd,hz,vs⟩
 .exact ⟨a,ϱ,b⟩
 .have:=ě.mp i (a,o) (PySem.W.mem_of_lookupK lk)
  simp only [hd] at this
  cases e:its.toList with
  | nil=>rw [e] at vs;cases vs
  | cons y r =>
   rw [e] at vs this
   cases vs with
   | cons q _ =>
    obtain ⟨t,rfl⟩:=q
    cases this
def ck(cs:ù)(c:Int):Int:=cs.getD c.toNat 0
def LtD(H:Hp)(cs:ù)(e:Pd)(u:V):Prop:=∃za t,WsAt H (e.y.1,"did",za,t) u/\PaA H e.y za/\H t=some (.tup [.int e.i,.int (dn (ck cs) e.wd e.ns e.hand).1])
def LtD.keep{H H':Hp}{cs:ù}{e:Pd}{u:V}(t:TSame H H')(h:LtD H cs e u):LtD H' cs e u:=let ⟨za,q,h1,h2,h3⟩:=h;⟨za,q,h1.keep t,t _ _ h2,t _ _ h3⟩
structure Ft(K:ä)(H:Hp)(b:Bx)(x x':Wx)(y:Pa)(fr:à Pd)(d d':Sx)(rws:û)(lts:à V)(v':V):Prop where
 lt:Paired (LtD H d.cells) fr lts
 rw:Paired (λe r=>RxAt K H b.p r (.work e.y)) (fr.filter λe=>(aF x.an e.y).isNone) rws
 nw:NwAt K H (cu ltE d.en) v'
 ce:d'.cells=d.cells/\d'.en=d.en/\d'.rd=d.rd/\d'.rc=d.rc
 wk:d'.wk.length<=d.wk.length+fr.length
 pe:∀z,bT x'.pe z=if z=y\/z∈fr.map Pd.y then none else bT x.pe z
 ow:∀z,z≠y->z∉fr.map Pd.y->aF x'.dr z=aF x.dr z/\aF x'.an z=aF x.an z
 ln:x'.dr.length<=x.dr.length+fr.length/\x'.an.length<=x.an.length+fr.length/\x'.pe.length<=x.pe.length
 ps:x'.ps=bu x.ps y
 eW:x'.W.l=x.W.l
def PdOk(x:Wx)(n:Nat)(e:Pd):Prop:=bT x.pe e.y=some e/\Ar e.wd e.ns/\inC n e.wd e.ns/\∃ak,Own x e.y [] ak/\ak.length<=100
inductive qC (C:Kd->é) (CS CH CL CV:é) (K:ä) (Pt:é) (vs:à V) (H:Hp) (Q:VK) (E:XK):Prop|mk b h d rs us v y ya x fr:vs=[.ref (x:Wx).W.l,.ref (h:Ah).l,.ref ya]->(b:Bx).Pt=Pt->Gs C CS CH CL CV K H b (shL CH b.A.l h rs us v) d x H (shL CH b.A.l h rs us v) d x->PaA H y ya->x.ps.length<=900->d.cells.length<=900->d.wk.length<=40->d.en.length<=60->x.dr.length<=50->x.an.length<=50->rs.length<=50->us.length<=50->fr.length<=20->fr.map Pd.y=jO x.ps y->(fr.map Pd.y).Nodup->((∀e∈fr,e.y≠y/\PdOk x d.cells.length e))->NwAt K H (cu ltE d.en) v->(∀x' rws lts v' d' H',Gs C CS CH CL CV K H b (shL CH b.A.l h rs us v) d x H' (shL CH b.A.l h (rs++rws) (us++lts) v') d' x'->Ft K H' b x x' y fr d d' rws lts v'->Q .non H')->qC C CS CH CL CV K Pt vs H Q E
def yB{Pt:é}(F:Fun K "ended" "Works.ended" fY f fd)(T:TxV K CV)(L:TxL K C CL)(n:Nq C CS CH CL CV)(np:AI K=true)(d6:GM P w K mg base CX0 5 CL "free" ["self","p"] (qB C CL K))(GS:GM P w K mg base CX0 7 CV "do_step" ["self","sheet","p","waited"] (uY C CS CH CL CV K Pt)):FnOk P w K mg base CX0 8 f fd ["self","sheet","p"] (qC C CS CH CL CV K Pt):=by
 refine F.oj sc_Works_ended λep A0 ch s H vs Q E hr h=>?_
 obtain ⟨b,h,d,rs,us,v,y,ya,x,X,rfl,bI,g0,hy,bN,bP,dy,len,dz,dA,dB,dC,dG,bS,c0,c1,nw,q⟩:=h
 have nd:=sc_Works_ended.nd
 refine ⟨_,ah (aQ (nU (cE hr) (au (pv 0) rfl) (pv 2) c6 ⟨ϱ,ϱ,ϱ,ϱ⟩)) (ah (aQ (nU (cE hr) (au (pv 0) rfl) (pv 2) c6 ⟨ϱ,ϱ,ϱ,ϱ⟩)) (ah (aQ (nU (cE hr) (au (pv 0) rfl) (pv 2) c6 ⟨ϱ,ϱ,ϱ,ϱ⟩))
  (iq (u:=λD σ H1=>σ=[some (.ref x.W.l),some (.ref h.l),some (.ref ya),none]/\∃x1,Gs C CS CH CL CV K H b (shL CH b.A.l h rs us v) d x H1 (shL CH b.A.l h rs us v) d x1/\x1=⟨x.W,x.dl,x.vs,dlt x.dr y,dlt x.an y,plt x.pe y,x.ps,x.cz⟩/\∀σ' H',Q .non H'->D.nx σ' H')
   (aj (gz ō rfl (bJ (pm d6 (au (pv 0) rfl) L.cl hr (ac (pv 2) ag))) (bU (i:=3) nd rfl (Or.inl rfl)) (aj (aQ (pm GS (pv 0) T.cl hr (ac (pv 1) (ac (pv 3) (ac (rX (cE hr) (au (pv 0) rfl) (pv 3) ⟨ϱ,ϱ,ϱ,ϱ⟩) ag)))))))) ?s))),?_⟩
 case s =>
  rintro D σ H1 ⟨rfl,x1,g1,d5,nx⟩
  have cc:=g1.ow.ts _ _ hy
  subst d5
  refine ⟨_,ϱ,x.W.l,CV,x.W.dx,_,_,ϱ,g1.wo.wi,T.cl,T.lk,uI,x.W.lk,x.dl,_,ϱ,g1.co j1,gi θ,_,ϱ,x.W.lk,x.W.pl,x.ps,_,y,ϱ,g1.ls,Λ bN ζ,cG (k:=y) cc,λq2 p' H2 cm cp cs k2 ct cv bd pu=>⟨q2,ϱ,⟨_,SqL.of bd⟩,?_⟩⟩
  obtain ⟨Y,U,e1,e2,c3⟩:=cp
  have cd:H1 x.W.lk=some (.ins CL x.dl [("pairs",.ref x.W.pl)]):=g1.co j1
  have k3:Kp x.W.lk (upd H1 p' (.lst U)) H2:=λc o nc e=>by
   by_cases z:c=p'
   .subst z
    rw [ae] at e
    cases e
    exact e2
   .rw [am z] at e
    exact k2 c o nc e
  have aR:ImS CH CL H1 H2:=cJ k2 cd (λz=>z.2.2 rfl)
  have w2:=g1.wo.im n aR
  have o2:=((g1.ow.new cs (.lst U)).kp 8 rfl k3 e1).repl (A:=shL CH b.A.l h rs us v++(stL b.p b.A d++[(b.Pt,.tbl (rj pC x.cz)),(x.W.lk,.ins CL Y [("pairs",.ref p')])])) (B:=(x.W.dr,.dT (dD (dlt x.dr y)))::(x.W.an,.dT (dD (dlt x.an y)))::(x.W.pe,.dT (dP (plt x.pe y)))::(df (dlt x.dr y)++df (dlt x.an y))) (x:=(x.W.pl,.lst x.vs)) (y:=(p',.lst U))
  have g2:Gs C CS CH CL CV K H b (shL CH b.A.l h rs us v) d x H2 (shL CH b.A.l h rs us v) d ⟨⟨x.W.l,x.W.dx,x.W.lk,p',x.W.dr,x.W.an,x.W.pe⟩,Y,U,dlt x.dr y,dlt x.an y,plt x.pe y,bu x.ps y,x.cz⟩:=⟨o2,w2.si,w2.wi,c3,w2.cz,w2.pe,w2.nd⟩
  have gS:=g2.self fK
  have nq:q2∉ad (shL CH b.A.l h rs us v++(stL b.p b.A d++wtL CL b ⟨⟨x.W.l,x.W.dx,x.W.lk,p',x.W.dr,x.W.an,x.W.pe⟩,Y,U,dlt x.dr y,dlt x.an y,plt x.pe y,bu x.ps y,x.cz⟩)):=λm=>by
   have f:=g1.ow.free ct
   simp only [ad,wtL,wkL,List.map_append,List.map_cons,List.mem_append,List.mem_cons] at m f
   rcases m with m | m | m | m | m | m | m | m | m | m
   .exact f (.inl m)
   .exact f (.inr (.inl m))
   .exact f (.inr (.inr (.inl m)))
   .exact f (.inr (.inr (.inr (.inl m))))
   .exact cv m
   .exact f (.inr (.inr (.inr (.inr (.inr (.inl m))))))
   .exact f (.inr (.inr (.inr (.inr (.inr (.inr (.inl m)))))))
   .exact f (.inr (.inr (.inr (.inr (.inr (.inr (.inr (.inl m))))))))
   .exact f (.inr (.inr (.inr (.inr (.inr (.inr (.inr (.inr (.inl m)))))))))
   .exact f (.inr (.inr (.inr (.inr (.inr (.inr (.inr (.inr (.inr m)))))))))
  rw [show jO _ _=X.map Pd.y from bS.symm] at pu
  have lu:=pu.len
  rw [ν] at lu
  refine jP (xs:=cm) (λi σ H'=>∃y3 G J O v' d',σ=[some (.ref x.W.l),some (.ref h.l),some (.ref ya),y3]/\Gs C CS CH CL CV K H2 b (shL CH b.A.l h rs us v) d ⟨⟨x.W.l,x.W.dx,x.W.lk,p',x.W.dr,x.W.an,x.W.pe⟩,Y,U,dlt x.dr y,dlt x.an y,plt x.pe y,bu x.ps y,x.cz⟩ H' (shL CH b.A.l h (rs++J) (us++O) v') d' G/\Ft K H' b x G y (X.take i) d d' J O v') ?_ (λi σ H' _ z=>?_) ?_ ?_
  .refine ⟨none,⟨⟨x.W.l,x.W.dx,x.W.lk,p',x.W.dr,x.W.an,x.W.pe⟩,Y,U,dlt x.dr y,dlt x.an y,plt x.pe y,bu x.ps y,x.cz⟩,[],[],v,d,ϱ,by rw [ţ,ţ];exact gS,.nil,.nil,nw.keep g2.ow.ts,⟨ϱ,ϱ,ϱ,ϱ⟩,ι _,λz=>?_,λz nz _=>?_,⟨Ų _ _,Ų _ _,Ų _ _⟩,ϱ,ϱ⟩
   .show bT (plt x.pe y) z=_
    rw [rV]
    simp
   .show aF (dlt x.dr y) z=_/\aF (dlt x.an y) z=_
    rw [oN,oN,ž nz,ž nz]
    exact ⟨ϱ,ϱ⟩
  .obtain ⟨_,_,_,_,_,_,_,g,_⟩:=z
   exact SqL.of (g.ow.fr q2 _ nq bd)
  .rintro i u σ H3 hu ⟨y3,G,J,O,v',d',rfl,g,I⟩
   obtain ⟨z,ez,rz⟩:=pu.get hu
   rw [Ż] at ez
   obtain ⟨e,ee,rfl⟩:=ų.mp ez
   obtain ⟨za,rfl,av⟩:=Bu np (cPa.keep g.ow.ts rz)
   obtain ⟨b2,c4,ar,ic,ak,c5,ca⟩:=c1 e (Ŵ ee)
   have ec:i<X.length:=(ż.mp ee).1
   have b4:e.y∉(X.take i).map Pd.y:=λm=>by
    rw [List.map_take] at m
    obtain ⟨j,hj⟩:=ť m
    have cf:j<i:=by have:=(ż.mp hj).1;rw [ĺ] at this;omega
    rw [List.getElem?_take_of_lt cf] at hj
    have e2:(X.map Pd.y)[i]?=some e.y:=by rw [Ż,ee];rfl
    have:=(ĥ (ż.mp hj).1 c0).mp (hj.trans e2.symm)
    omega
   have a4:bT G.pe e.y=some e:=by rw [I.pe,ž (λq=>q.elim b2 b4)];exact c4
   obtain ⟨ed,ea⟩:=I.ow e.y b2 b4
   have b5:Own (G.pen (plt G.pe e.y)) e.y [] ak:=by
    show (aF G.dr e.y=none/\aF G.an e.y=none/\_)\/∃a1 a2,aF G.dr e.y=_/\aF G.an e.y=_
    rw [ed,ea]
    exact c5
   have ef:(X.take i).length<=i:=by rw [ĺ];exact Nat.min_le_left _ _
   have eg:=I.lt.len
   have eh:J.length<=(X.take i).length:=by rw [← I.rw.len];exact Ų _ _
   have ei:=I.wk
   have ej:=I.ln.1
   have ek:=I.ln.2.1
   refine ⟨_,ϱ,G.W.l,G.W.dx,_,(by rw [I.eW]),g.wo.wi,cW θ,_,ϱ,_,ϱ,_,ϱ,G.W.l,CV,G.W.dx,_,_,(by rw [I.eW]),g.wo.wi,T.cl,T.pe,pF,G.W.pe,ϱ,.inr ⟨_,.inl g.pe⟩,_,ϱ,pk e.y,za,_,.ref e.a,ϱ,av,g.pe,(by rw [gr,a4];rfl),?_⟩
   refine (Gd.popP g n e.y (Q:=_) λH4 b0 g4=>?_).1 (.ref e.a) (by rw [gr,a4];rfl)
   refine ⟨b,h,d',rs++J,us++O,v',e.y,za,e.a,e.i,e.hand,e.wd,e.ns,G.pen (plt G.pe e.y),[],ak,(by rw [I.eW];rfl),bI,g4.self fK,b0.ts _ _ av,b0.ts _ _ (g.wo.pe e (fJ a4).1),ar,by rw [I.ce.1];exact ic,by rw [I.ce.1];exact bP,ω,by rw [I.ce.2.1];exact len,b5,(λ_ _ z=>by cases z),(by show 0<=100;decide),ca,(by show G.dr.length<=100;omega),(by show G.an.length<=100;omega),by rw [Ž];omega,by rw [Ž];omega,λbg bi c u t d2 er v2 H5 g5 u1 u2 hw ht cZ=>?_⟩
   have et:X.take (i+1)=X.take i++[e]:=by rw [Ţ,ee];rfl
   have b6:=b0.trans g5.ow.im
   have aS:=b6.ts
   rw [I.ce.1] at ht
   have fin:∀(Z:û) (v3:V) (d3:Sx),Gs C CS CH CL CV K H2 b (shL CH b.A.l h rs us v) d ⟨⟨x.W.l,x.W.dx,x.W.lk,p',x.W.dr,x.W.an,x.W.pe⟩,Y,U,dlt x.dr y,dlt x.an y,plt x.pe y,bu x.ps y,x.cz⟩ H5 (shL CH b.A.l h (rs++Z) (us++O++[u]) v3) d3 ⟨G.W,G.dl,G.vs,bg,bi,plt G.pe e.y,G.ps,some c⟩->Paired (λe r=>RxAt K H5 b.p r (.work e.y)) ((X.take i++[e]).filter λe=>(aF x.an e.y).isNone) Z->NwAt K H5 (cu ltE d.en) v3->(d3.cells=d.cells/\d3.en=d.en/\d3.rd=d.rd/\d3.rc=d.rc)->d3.wk.length<=d'.wk.length+1 ->
     ∃y3 G J O v' d',[some (V.ref x.W.l),some (.ref h.l),some (.ref ya),some (.ref za)]=[some (.ref x.W.l),some (.ref h.l),some (.ref ya),y3]/\Gs C CS CH CL CV K H2 b (shL CH b.A.l h rs us v) d ⟨⟨x.W.l,x.W.dx,x.W.lk,p',x.W.dr,x.W.an,x.W.pe⟩,Y,U,dlt x.dr y,dlt x.an y,plt x.pe y,bu x.ps y,x.cz⟩ H5 (shL CH b.A.l h (rs++J) (us++O) v') d' G/\Ft K H5 b x G y (X.take (i+1)) d d' J O v':=λZ v3 d3 gg pr d0 ce ew=>by
    rw [œ] at gg
    refine ⟨_,_,Z,O++[u],v3,d3,ϱ,gg,?_⟩
    rw [et]
    refine ⟨(Paired.mapP I.lt λ_ _ q=>q.keep aS).app (.cons ⟨za,t,hw,aS _ _ av,ht⟩ .nil),pr,d0,ce,?_,λz=>?_,λz nz nm=>?_,?_,I.ps,I.eW⟩
    .rw [Ž];show d3.wk.length<=d.wk.length+((X.take i).length+1);omega
    .show bT (plt G.pe e.y) z=_
     rw [rV,I.pe,ſ]
     by_cases q1:z=e.y
     .rw [Ź q1,Ź (.inr (by rw [q1];exact Ψ _ (.head _)))]
     .rw [ž q1]
      by_cases q2:z=y\/z∈(X.take i).map Pd.y
      .rw [Ź q2,Ź (q2.imp id λm=>ź _ m)]
      .rw [ž q2,ž λm=>m.elim (λm=>q2 (.inl m)) λm=>(Ŷ.mp m).elim (λm=>q2 (.inr m)) λm=>q1 (ϵ.mp m)]
    .rw [ſ] at nm
     have n1:z≠e.y:=λq=>nm (by rw [q];exact Ψ _ (.head _))
     obtain ⟨f1,f2⟩:=I.ow z nz λm=>nm (ź _ m)
     exact ⟨(u1.els z n1).trans f1,(u2.els z n1).trans f2⟩
    .have l1:=u1.len
     have l2:=u2.len
     have l3:=I.ln.2.2
     rw [Ž]
     refine ⟨?_,?_,Λ (Ų _ _) l3⟩
     .show bg.length<=x.dr.length+((X.take i).length+1)
      have:(G.pen (plt G.pe e.y)).dr.length=G.dr.length:=rfl
      omega
     .show bi.length<=x.an.length+((X.take i).length+1)
      have:(G.pen (plt G.pe e.y)).an.length=G.an.length:=rfl
      omega
   have ba:=Paired.mapP I.rw λ_ _ q=>q.keep b6
   rcases cZ with ⟨eo,rfl,rfl,rfl⟩ | ⟨eo,r,rfl,rx,nw2,rfl⟩
   .refine fin J _ _ (g4.trans g5) ?_ (I.nw.keep aS) I.ce (Ł _)
    have:(aF x.an e.y).isNone=false:=by rw [← ea];cases q:aF G.an e.y with | none=>rw [show aF (G.pen (plt G.pe e.y)).an e.y=none from q] at eo;cases eo | some _=>rfl
    rw [Ű,Ę (by rw [this];decide),Ĳ,ţ]
    exact ba
   .rw [œ] at g5
    refine fin (J++[r]) _ _ (g4.trans g5) ?_ (by rw [← I.ce.2.1];exact nw2) I.ce ?_
    .have:(aF x.an e.y).isNone=true:=by rw [← ea];cases q:aF G.an e.y with | none=>rfl | some _=>rw [show aF (G.pen (plt G.pe e.y)).an e.y=some _ from q] at eo;cases eo
     rw [Ű,List.filter_cons_of_pos (by rw [this]),Ĳ]
     exact ba.app (.cons rx .nil)
    .show (rB d'.wk e.y).length<=_
     unfold rB
     split
     .exact Ł _
     .rw [Ž];exact ι _
  .rintro σ H' ⟨y3,G,J,O,v',d',rfl,g,I⟩
   rw [← lu,Ŭ] at I
   exact nx _ _ (q G J O v' d' H' (g2.trans g) I)
 refine ⟨_,ϱ,x.W.l,CV,x.W.dx,_,_,ϱ,g0.wo.wi,T.cl,T.dr,uJ,x.W.dr,ϱ,.inr ⟨_,.inl g0.dr⟩,_,ϱ,pk y,ya,_,ϱ,hy,g0.dr,Gd.popD g0 n y λH1 bm g1=>?_⟩
 refine ⟨_,ϱ,x.W.l,CV,x.W.dx,_,_,ϱ,g1.wo.wi,T.cl,T.an,k9,x.W.an,ϱ,.inr ⟨_,.inl g1.an⟩,_,ϱ,pk y,ya,_,ϱ,bm.ts _ _ hy,g1.an,Gd.popA g1 n y λH2 aR g2=>?_⟩
 exact ⟨_,ϱ,x.W.l,CV,x.W.dx,_,_,ϱ,g2.wo.wi,T.cl,T.pe,pF,x.W.pe,ϱ,.inr ⟨_,.inl g2.pe⟩,_,ϱ,pk y,ya,_,ϱ,aR.ts _ _ (bm.ts _ _ hy),g2.pe,Gd.popP g2 n y λH3 eA g3=>⟨ϱ,_,g3,ϱ,λ_ _ z=>z⟩⟩
def tW{H:Hp}{a b:é}{n:Nat}{us vs:à V}(ha:H a=some (.lst us))(hb:H b=some (.lst vs))(h:Paired (λx y=>EqIs K n H x y true) us vs):tf K (n+1) H (.ref a) (.ref b) true:=by
 intro P w A s u v hA d o r1 r2
 cases r1
 cases r2
 obtain ⟨_,f,n1,r,I⟩:=(show ObjOk P w H s.heap a (.lst us) from d a _ ha)
 obtain ⟨_,g,n2,C,J⟩:=(show ObjOk P w H s.heap b (.lst vs) from d b _ hb)
 have l1:=r.length
 have l2:=C.length
 have l3:=h.len
 have q1:s.heap.IsList a f.toArray:=⟨_,I,ϱ,_,ϱ⟩
 have q2:s.heap.IsList b g.toArray:=⟨_,J,ϱ,_,ϱ⟩
 have z:=PySem.SeqAt.RcAt.lists (A:=A) (s:=s) (e:=λ_=>true) q1 q2 (by simp;omega) ω (λj h1 Z=>by
  have i:j<f.length:=by simpa using h1
  have l:j<g.length:=by simpa using Z
  have G:us[j]?=some us[j]:=ξ ω
  obtain ⟨y,L,O⟩:=h.get1 G
  obtain ⟨u,D,Q⟩:=r.get G
  obtain ⟨v,F,U⟩:=C.get L
  have q:=O P w A.in1 s u v (by show A.units+1+n<cLine;omega) d o Q U
  have W:f.toArray[j]=u:=by
   rw [ξ i] at D
   simpa using Option.some.inj D
  have X:g.toArray[j]=v:=by
   rw [ξ l] at F
   simpa using Option.some.inj F
  rw [W,X]
  exact q)
 have Y:((List.range f.toArray.size).all λ_=>true)=true:=by simp
 rw [Y] at z
 exact z
inductive mO (vs:à V) (H:Hp) (Q:VK) (E:XK):Prop|mk c:vs=[.int c]->(∀r,inV r->Q (.int r) H)->mO vs H Q E
def As(F:Fun K "_law_number" "_law_number" fW f fd):FnOk P w K mg base CX0 1 f fd ["_law_cell"] mO:=by
 refine F.oj mY λd A b s H vs Q E e h=>?_
 obtain ⟨c,rfl,q⟩:=h
 refine ⟨_,ah (aJ (az bK (aE b9 (pv 0) ai) ai (aA _)) (aj (aw (aE bW (aE oh (aE b9 (aE bV (pv 0) ai) (aE oh (aE om ai (aE yb ai ai)) ai)) (aE yb ai ai)) ai))) aB)
  (aj (aw (aE oh (aE b9 (aE bV (pv 0) ai) ai) ai))),?_⟩
 refine ⟨_,ϱ,_,_,ϱ,ϱ,(by show (0:Int)<3;decide),ϱ,_,ϱ,bD (λ_=>?_) (λ_=>?_)⟩
 .refine ⟨_,ϱ,_,_,ϱ,ϱ,⟨ζ,ζ⟩,_,_,ϱ,ϱ,⟨ζ,ζ,ζ⟩,_,_,ϱ,ϱ,.inl ⟨ζ,ζ⟩,_,_,ϱ,ϱ,_,_,ϱ,ϱ,(by show (0:Int)<2*10 ^ 40-1;decide +kernel),_,_,ϱ,ϱ,⟨ζ,ζ,ζ⟩,_,_,ϱ,ϱ,_,_,ϱ,ϱ,q _ ?_⟩
  show (c/3%(2*10 ^ 40-1)-10 ^ 40+1:Int).natAbs<10 ^ 40
  have h0:0<=c/3%(2*10 ^ 40-1:Int):=ı _ θ
  have h1:c/3%(2*10 ^ 40-1:Int)<2*10 ^ 40-1:=ŋ _ θ
  generalize c/3%(2*10 ^ 40-1:Int)=m at h0 h1 ⊢
  omega
 .refine ⟨_,ϱ,_,_,ϱ,ϱ,⟨ζ,ζ⟩,_,_,ϱ,ϱ,(by show (0:Int)<25;decide),_,_,ϱ,ϱ,q _ ?_⟩
  show (c/3%25-9:Int).natAbs<10 ^ 40
  omega
def Dk(a b:Str):(a++b).length=a.length+b.length:=by
 show (a.cps++b.cps).size=_
 rw [Array.size_append]
 rfl
def acs(a b:Str):(a++b).cps.toList=a.cps.toList++b.cps.toList:=by
 show (a.cps++b.cps).toList=_
 rw [Array.toList_append]
def mf{a b:Str}(h:a.cps.toList=b.cps.toList):a=b:=by
 obtain ⟨a⟩:=a
 obtain ⟨b⟩:=b
 have:a=b:=ĭ.mp h
 rw [this]
def DP:(Str.ofString " ").cps.toList=[32]:=by decide +kernel
def wZ(b:Wd)(d:ù):(txt b d).cps.toList=Km.dq 32 ((wS b::d.map iS).map λy=>y.cps.toList):=by
 unfold txt
 rw [mW]
 exact Km.eF 32 _
def BM(d:Wd)(b:Int):wS d++Str.ofString " 0 "++iS b=txt d [0,b]:=by
 refine mf ?_
 rw [wZ]
 have e:(Str.ofString " 0 ").cps.toList=[32]++(iS 0).cps.toList++[32]:=by decide +kernel
 simp only [acs,e,List.map_cons,List.map_nil,Km.dq]
 simp
def Dw(d:Wd)(a b c:Int):txt d [a,b]++Str.ofString " "++iS c=txt d [a,b,c]:=by
 refine mf ?_
 simp only [acs,wZ,DP,List.map_cons,List.map_nil,Km.dq]
 simp
def Ds(i:Int)(h0:0<=i)(b:i<5):∃w,w≠.plus/\w≠.need/\atI ([.str "take",.str "mean",.str "sum",.str "give",.str "add"]:à V) i=some (.str (wS w)):=by
 have:i=0\/i=1\/i=2\/i=3\/i=4:=by omega
 rcases this with rfl | rfl | rfl | rfl | rfl
 .exact ⟨.take,ζ,ζ,ϱ⟩
 .exact ⟨.mean,ζ,ζ,ϱ⟩
 .exact ⟨.sum,ζ,ζ,ϱ⟩
 .exact ⟨.give,ζ,ζ,ϱ⟩
 .exact ⟨.add,ζ,ζ,ϱ⟩
inductive mj (vs:à V) (H:Hp) (Q:VK) (E:XK):Prop|mk c m:vs=[.int c,.int (m:Nat)]->1<=m->m<=8->(∀wd ns H',Same H H'->Ar wd ns->inC m wd ns->Q (.str (txt wd ns)) H')->mj vs H Q E
def yq(F:Fun K "_law_step" "_law_step" ii f fd)(B:TxB mg)(GN:GF P w K mg base CX0 1 "_law_number" ["_law_cell"] mO):FnOk P w K mg base CX0 2 f fd ["_law_cell","_law_many"] mj:=by
 refine F.oj sc__law_step λa6 A I s H vs Q E g h=>?_
 obtain ⟨c,m,rfl,m1,m8,q⟩:=h
 have nd:=sc__law_step.nd
 obtain ⟨d,w1,w2,Y⟩:=Ds (c%5) (ı _ ζ) (ŋ _ ζ)
 have L:(0:Int)<(m:Int):=by omega
 refine ⟨_,ah (aG (i:=2) nd rfl (Or.inl rfl) (aE b9 (aE bV (pv 0) ai) (pv 1)))
  (ah (aG (i:=3) nd rfl (Or.inl rfl) (ay (r:=cH K) aI (c7 (ac aD (ac aD (ac aD (ac aD (ac aD ag)))))) (aE b9 (pv 0) ai) (λ_ _=>rfl)))
  (ah (aG (i:=4) nd rfl (Or.inl rfl) (aE cw (aE cw (pv 3) aD) (aP dj rfl B.str ī (ac (pv 2) ag))))
  (ah (aJ (az bK (pv 3) aD (aA _)) (aj (aw (aE cw (aE cw (pv 4) aD) (aP dj rfl B.str ī (ac (aE bW (pv 2) (aE b9 (aE bV (pv 0) ai) (aE oh (pv 1) (pv 2)))) ag))))) aB)
  (ah (aJ (az bK (pv 3) aD (aA _)) (aj (aw (aE cw (aE cw (pv 4) aD) (aP dj rfl B.str ī (ac (pc GN g (ac (aE bV (pv 0) ai) ag)) ag))))) aB)
  (aj (aw (pv 4))))))),?_⟩
 refine ⟨_,ϱ,_,_,ϱ,ϱ,⟨ζ,ζ⟩,_,ϱ,_,_,ϱ,ϱ,L,?_⟩
 have O:0<=c/5%(m:Int):=ı _ ω
 have y:c/5%(m:Int)<m:=ŋ _ L
 obtain ⟨a,j⟩:∃a,c/5%(m:Int)=a:=⟨_,ϱ⟩
 rw [j] at O y
 have C:inN 0:=⟨ζ,ζ⟩
 have e:inN a:=⟨O,ω⟩
 refine ⟨χ,λl hl=>?_⟩
 have u:Same H _:=af (o:=.lst [.str "take",.str "mean",.str "sum",.str "give",.str "add"]) hl
 refine ⟨_,ϱ,_,_,ϱ,ϱ,(by show (0:Int)<5;decide),l,_,_,_,ϱ,ϱ,SqL.of ae,Y,?_⟩
 generalize (upd H l _)=H1 at u ⊢
 have hz:(1000:Nat)<=sizeLine:=by decide
 have l1:=wU d
 have l3:=f9 e.v
 have ls:(Str.ofString " ").length=1:=by decide +kernel
 have l2:(Str.ofString " 0 ").length=3:=by decide +kernel
 have lt:(txt d [0,a]).length<=100:=by rw [← BM];simp only [Dk];omega
 refine ⟨_,ϱ,_,_,ϱ,ϱ,?_,_,ϱ,a,congrArg (λz=>[V.int z]) j,su e.v,_,_,ϱ,ϱ,?_,?_⟩
 .show (wS d).length+(Str.ofString " 0 ").length<=sizeLine
  omega
 .show (wS d++Str.ofString " 0 ").length+(iS a).length<=sizeLine
  simp only [Dk];omega
 have Z:=BM d a
 have fin:∀(x:Int),inV x->(txt d [0,a]++Str.ofString " ").length+(iS x).length<=sizeLine:=λx hx=>by
  have:=f9 hx
  simp only [Dk]
  omega
 erw [Z]
 refine ⟨_,ϱ,ϱ,_,ϱ,bD (λk=>?_) (λW=>⟨_,ϱ,ϱ,_,ϱ,bD (λk=>?_) (λX=>?_)⟩)⟩
 .obtain rfl:d=.sum:=hZ k
  have U:(0:Int)<(m:Int)-a:=by omega
  refine ⟨_,ϱ,_,_,ϱ,ϱ,(by show (txt .sum [0,a]).length+(Str.ofString " ").length<=sizeLine;omega),_,ϱ,_,ϱ,_,_,ϱ,ϱ,⟨ζ,ζ⟩,_,ϱ,_,ϱ,_,a,ϱ,congrArg V.int j,_,_,ϱ,ϱ,U,a,_,congrArg V.int j,ϱ,?_⟩
  have b0:0<=c/40%((m:Int)-a):=ı _ ω
  have b1:c/40%((m:Int)-a)<m-a:=ŋ _ U
  obtain ⟨b,J⟩:∃b,c/40%((m:Int)-a)=b:=⟨_,ϱ⟩
  rw [J] at b0 b1
  have D:inN (a+b):=⟨ω,ω⟩
  refine ⟨a+b,congrArg (λz=>[V.int (a+z)]) J,su D.v,_,_,ϱ,ϱ,fin _ D.v,?_⟩
  have G:=Dw .sum 0 a (a+b)
  erw [G]
  exact q .sum [0,a,a+b] H1 u ⟨C,e,D,ω⟩ ⟨ω,ω⟩
 .obtain rfl:d=.add:=hZ k
  refine ⟨_,ϱ,_,_,ϱ,ϱ,(by show (txt .add [0,a]).length+(Str.ofString " ").length<=sizeLine;omega),_,ϱ,_,_,ϱ,ϱ,⟨ζ,ζ⟩,_,ϱ,λr g=>⟨_,ϱ,su g,_,_,ϱ,ϱ,fin _ g,?_⟩⟩
  have G:=Dw .add 0 a r
  erw [G]
  exact q .add [0,a,r] H1 u ⟨C,e,g⟩ y
 .refine ⟨_,ϱ,q d [0,a] H1 u ?_ ?_⟩
  .have n3:=dv (b:=.sum) W
   have n4:=dv (b:=.add) X
   cases d<;>first | contradiction | exact ⟨C,e⟩
  .have n3:=dv (b:=.sum) W
   have n4:=dv (b:=.add) X
   cases d<;>first | contradiction | exact y
def qY{i:Int}(h:inV i):PySem.intText? (iS i)=some i:=by
 have b:(iS i).length<=4300:=Λ (f9 h) ζ
 have e:=sG i
 unfold Km.cy at e
 split at e
 .rename_i hn
  have:=PySem.intText_neg e (Km.gm _) (Km.jQ _) b
  rw [Km.iJ] at this
  rw [this]
  congr 1
  omega
 .have:=PySem.intText_digits (x:=iS i) (by rw [e];exact Km.gm _) (by rw [e];exact Km.jQ _) b
  rw [e,Km.iJ] at this
  rw [this]
  congr 1
  omega
def D5{n:Nat}{f:Wd}{g:ù}(e:Ar f g)(d:inC n f g):∃x a r,g=x::a::r/\inN a/\a<n:=by
 cases f with
 | take=>obtain ⟨a,b,rfl,_,h,_⟩:=e.c rfl;exact ⟨_,_,_,rfl,h,d⟩
 | mean=>obtain ⟨a,b,rfl,_,h,_⟩:=e.c rfl;exact ⟨_,_,_,rfl,h,d⟩
 | give=>obtain ⟨a,b,rfl,_,h,_⟩:=e.c rfl;exact ⟨_,_,_,rfl,h,d⟩
 | sum=>obtain ⟨a,b,c,rfl,_,h,_⟩:=e.s;exact ⟨_,_,_,rfl,h,d.1⟩
 | add=>obtain ⟨a,b,c,rfl,_,h,_⟩:=e.a;exact ⟨_,_,_,rfl,h,d⟩
 | plus=>exact d.elim
 | need=>exact d.elim
theorem uP(cs:ù)(a:Nat):∀k:Nat,a+k<=cs.length->((cs.drop a).take k).sum=rK (ck cs) (a:Int) k
 | 0,_=>by rw [List.take_zero];rfl
 | k+1,h=>by
  have e:(cs.drop a)[k]?=some (ck cs ((a:Int)+(k:Int))):=by
   unfold ck
   rw [List.getElem?_drop,show ((a:Int)+(k:Int)).toNat=a+k by omega,Ŗ,ξ (show a+k<cs.length by omega)]
   rfl
  rw [Ţ,e,List.sum_append,uP cs a k ω]
  show _=rK (ck cs) a k+ck cs ((a:Int)+(k:Int))
  simp
def cell_at{cs:ù}{a:Int}(h0:0<=a)(h1:a<cs.length):atI (cs.map V.int) a=some (.int (ck cs a)):=by
 obtain ⟨n,rfl⟩:∃n:Nat,a=(n:Int):=⟨a.toNat,ω⟩
 have b:n<cs.length:=by omega
 refine br ?_
 unfold ck
 rw [Ż,ř,Ŗ,ξ b]
 rfl
inductive ml (K:ä) (vs:à V) (H:Hp) (Q:VK) (E:XK):Prop|mk ca cs hand wd ns:vs=[.ref ca,.int hand,.str (txt wd ns)]->H ca=some (.lst ((cs:ù).map V.int))->Ar wd ns->inC cs.length wd ns->(∀H',Same H H'->Q (.int (dn (ck cs) wd ns hand).1) H')->ml K vs H Q E
def yu(F:Fun K "_law_hand" "_law_hand" ik f fd)(B:TxB mg)(I:mg "sum"=none):FnOk P w K mg base CX0 1 f fd ["_law_cells","_law_hand_here","_law_text"] (ml K):=by
 refine F.oj sc__law_hand λa4 A W s H vs Q E hr h=>?_
 obtain ⟨O,u,l,y,J,rfl,U,C,L,q⟩:=h
 have nd:=sc__law_hand.nd
 refine ⟨_,ah (aG (i:=3) nd rfl (Or.inl rfl) (iu Ń PySem.F.slot_str_split PySem.F.type_str_split pU (pv 2) (ac aD ag)))
  (ah (aJ (az bK (ay (r:=cH K) aI (pv 3) ai (λ_ _=>rfl)) aD (aA _)) (aj (aw (aK (jd rfl) rfl I PyProof.Rows.boot_sum (ac (nQ uZ (pv 0) (iO (aP dU rfl B.int ő (ac (ay (r:=cH K) aI (pv 3) ai (λ_ _=>rfl)) ag))) (iO (aE bW (aP dU rfl B.int ő (ac (ay (r:=cH K) aI (pv 3) ai (λ_ _=>rfl)) ag)) ai))) ag)))) aB)
  (ah (aJ (PW.pt (pP (az bK (ay (r:=cH K) aI (pv 3) ai (λ_ _=>rfl)) aD (aA _)) (kq (az bK (ay (r:=cH K) aI (pv 3) ai (λ_ _=>rfl)) aD (aA _))))) (aj (aw (ay (r:=cH K) aI (pv 0) (aP dU rfl B.int ő (ac (ay (r:=cH K) aI (pv 3) ai (λ_ _=>rfl)) ag)) (λ_ _=>rfl)))) aB)
  (aj (aw (pv 1))))),?_⟩
 refine ⟨_,ϱ,ϱ,txt y J,32,ϱ,congrArg (λz=>[V.str z]) mW,uM C,λt ht=>?_⟩
 rw [pN]
 have G:Same H _:=af (o:=.lst ((wS y::J.map iS).map V.str)) ht
 have d:(upd H t (.lst ((wS y::J.map iS).map V.str))) t=some (.lst ((wS y::J.map iS).map V.str)):=ae
 have g:=G _ _ U
 generalize (upd H t _)=H1 at G d g ⊢
 obtain ⟨x,a,r,rfl,D,X⟩:=D5 C L
 have Z:=D.1
 refine ⟨_,ϱ,t,_,_,_,ϱ,ϱ,SqL.of d,St.at0,ϱ,_,ϱ,bD (λk=>?_) (λk1=>⟨_,ϱ,t,_,_,_,ϱ,ϱ,SqL.of d,St.at0,ϱ,_,ϱ,bD (λk=>?_) (λk2=>⟨_,ϱ,t,_,_,_,ϱ,ϱ,SqL.of d,St.at0,ϱ,_,ϱ,bD (λk=>?_) (λk3=>?_)⟩)⟩)⟩
 .obtain rfl:y=.sum:=hZ k
  obtain ⟨_,_,v,e,_,_,Y,av⟩:=C.s
  cases e
  refine ⟨_,ϱ,_,ϱ,t,_,_,_,ϱ,ϱ,SqL.of d,St.at2,iS a,a,ϱ,qY D.v,Λ (f9 D.v) ζ,_,ϱ,_,ϱ,t,_,_,_,ϱ,ϱ,SqL.of d,br (j:=3) rfl,iS v,v,ϱ,qY Y.v,Λ (f9 Y.v) ζ,_,_,ϱ,ϱ,_,ϱ,O,_,ϱ,SqL.of g,λp2 n2=>?_⟩
  have s3:=af (o:=.lst (kM (u.map V.int) (some a) (some (v+1)))) n2
  obtain ⟨i,rfl⟩:∃i:Nat,a=(i:Int):=⟨a.toNat,ω⟩
  obtain ⟨j,rfl⟩:∃j:Nat,v=(j:Int):=⟨v.toNat,ω⟩
  have ij:i<=j:=by omega
  have jn:j<u.length:=by have:=L.2;omega
  have ec:kM (u.map V.int) (some (i:Int)) (some ((j:Int)+1))=((u.drop i).take (j+1-i)).map V.int:=by
   unfold kM
   rw [show ((j:Int)+1)=((j+1:Nat):Int) by omega,HT.u7,HT.u7,ν,Nat.min_eq_left ω,Nat.min_eq_left ω,List.map_take,List.map_drop]
  refine ⟨p2,(u.drop i).take (j+1-i),ϱ,by rw [← ec];exact SqL.of ae,?_⟩
  rw [uP u i (j+1-i) ω]
  have:=q _ (G.trans s3)
  rw [show (dn (ck u) .sum [x,(i:Int),(j:Int)] l).1=rK (ck u) (i:Int) (j+1-i) by show rK (ck u) (i:Int) ((j:Int)+1-(i:Int)).toNat=_;rw [show ((j:Int)+1-(i:Int)).toNat=j+1-i by omega]] at this
  exact this
 .obtain rfl:y=.take:=hZ k
  obtain ⟨_,_,e,_⟩:=C.c rfl
  cases e
  exact cr ⟨_,ϱ,_,ϱ,t,_,_,_,ϱ,ϱ,SqL.of d,St.at2,iS a,a,ϱ,qY D.v,Λ (f9 D.v) ζ,O,_,_,_,ϱ,ϱ,SqL.of g,cell_at Z X,q H1 G⟩
 .obtain rfl:y=.mean:=hZ k
  obtain ⟨_,_,e,_⟩:=C.c rfl
  cases e
  exact ⟨_,ϱ,_,ϱ,t,_,_,_,ϱ,ϱ,SqL.of d,St.at2,iS a,a,ϱ,qY D.v,Λ (f9 D.v) ζ,O,_,_,_,ϱ,ϱ,SqL.of g,cell_at Z X,q H1 G⟩
 .have m1:=dv (b:=.sum) k1
  have m2:=dv (b:=.take) k2
  have m3:=dv (b:=.mean) k3
  have e:(dn (ck u) y (x::a::r) l).1=l:=by
   cases y with
   | take=>exact absurd rfl m2
   | mean=>exact absurd rfl m3
   | sum=>exact absurd rfl m1
   | give=>obtain ⟨_,_,e,_⟩:=C.c rfl;cases e;rfl
   | add=>obtain ⟨_,_,_,e,_⟩:=C.a;cases e;rfl
   | plus=>exact L.elim
   | need=>exact L.elim
  rw [e] at q
  exact ⟨_,ϱ,q H1 G⟩
end
end K55
namespace L2
open PySem PySem.Spec PyProof.Rows PySem.W Lo
def zS(td:TE):TE:=fun σ H Q=>td σ H λx H1=>∃a kvs,x=.ref a/\H1 a=some (.dK kvs)/\∀v,H1 v=none->Q (.ref v) (upd H1 v (Vw v a))
def wb{X:Cx}{o:á}{b d:Pos}{C:TE}(L:PE X o C)(f:attributeBase o "items" X.env (eval o X.env)=eval o X.env:=by rfl)(g:(b.endLine==d.line)=true:=by rfl) :
  PE X (.Call (.Attribute o "items" b) [] [] d) (zS C):=by
 intro j s σ H Q I h
 refine wpAny_Call_method0_late f g (thn (L j s σ H _ I h) λu i ⟨x,H1,w,J,a,y,ex,e,q⟩=>?_)
 subst ex
 obtain rfl:u=Value.ref a:=J
 obtain ⟨l,D,G⟩:=jk w (.inl ⟨y,.inl e⟩)
 refine ⟨"dict","dict.items",š,ę,PySem.F.type_dict_items,l,D,Ū rfl (PySem.evalArgs_none ?_)⟩
 refine ň ę l PySem.F.entry_dict_items ?_ (PySem.F.args_dict_items_1 _)
 unfold Builtin.«dict.items» Builtin.Dict.noArgs
 refine ε (ε (ļ l (π ?_)))
 show wpAny _ _ (Builtin.Dict.showsAll a >>= λ_=>_) _ _ i
 unfold Builtin.Dict.showsAll
 rw [ž (by rw [G];exact Ÿ)]
 refine ε (π (ε (wpAny_newObj_type (π ⟨_,ϱ,?_⟩))))
 refine ⟨.ref i.heap.objs.size,_,w.laid (a:=i.heap.objs.size) (o:=Vw i.heap.objs.size a) (t':=i.toks) (λ_ _ z=>ρ _ z) (ι _) ⟨⟨_,ψ _ rfl,ϱ,ϱ⟩,⟨_,ψ _ rfl⟩,λg1 O ⟨K,p,r⟩ k=>⟨K,k _ p,r⟩⟩,ϱ,q _ (w.hok.fresh (ι _))⟩
end L2
namespace K55
open PySem L2 Lo St
section
variable {P:ê}{w:è}{K:ä}{mg:ā}{base:ã}{f CL CS CH CV:é}{fd:ç}{C:Kd->é}{CW:Wd->é}
theorem B3{lt:Pa->Pa->Bool}{es:à Pa}:∀c∈cu lt es,c∈es:=λc hc=>by
 cases es with
 | nil=>cases hc
 | cons x r =>
  obtain ⟨_,hs⟩:=uR lt (x::r) (Nat.succ_pos _)
  unfold cu at hc
  obtain ⟨i,hi,rfl⟩:=ϑ.mp hc
  have h:=hs i hi
  rw [Ŗ,ξ h]
  exact List.getElem_mem h
inductive qy (C:Kd->é) (CS CH CL CV:é) (K:ä) (vs:à V) (H:Hp) (Q:VK) (E:XK):Prop|mk b h d x pa ht xs e f es:vs=[.ref (x:Wx).W.l,.ref (h:Ah).l,.ref pa,.ref ht]->Gs C CS CH CL CV K H (b:Bx) (shL CH b.A.l h [] [] .non) d x H (shL CH b.A.l h [] [] .non) d x->PaA H b.p pa->H ht=some (.tup xs)->x.ps.length<=900->d.wk.length<=60->d.rd=none->d.en=[]->aF x.dr b.p=some e->e.k=nKs es->es.length<64->aF x.an b.p=some f->bT x.pe b.p=none->(∀r u v' H',Gs C CS CH CL CV K H b (shL CH b.A.l h [] [] .non) d x H' (shL CH b.A.l h [r] [u] v') (d.kp r (.rdy (cu ltP es))) (x.dra x.dr (dlt x.an b.p))->Q .non H')->qy C CS CH CL CV K vs H Q E
def yl(F:Fun K "ready" "Works.ready" cM f fd)(B:TxB mg)(T:TxV K CV)(DH:TxH K CH)(n:Nq C CS CH CL CV)(GB:GM P w K mg base CX0 2 CV "is_bound" ["self","p"] (uX CS CV K))(GH:GM P w K mg base CX0 6 CV "held" ["self"] (lp C CL CV K gW))(aR:GM P w K mg base CX0 3 CH "row" ["self","row"] (mQ CS CH CL K))(GS:GM P w K mg base CX0 1 CH "send" ["self","to","word","p","more"] (mo CH CL)) :
  FnOk P w K mg base CX0 7 f fd ["self","sheet","p","houses"] (qy C CS CH CL CV K):=by
 refine F.oj sc_Works_ready λcz A0 bm s H vs Q E I h=>?_
 obtain ⟨b,h,d,x,G,ht,xs,e,f,es,rfl,g0,a5,b2,b3,b4,er,en,a6,b5,b6,a7,ba,q4⟩:=h
 have nd:=sc_Works_ready.nd
 refine ⟨_,ah (aJ (io (cK (pm GB (pv 0) T.cl I (ac (pv 2) ag))))
   (ah (aJ (PW.pt (pP (ip (iP (cE I) (pv 2) (au (pv 0) rfl))) (kq (ip (qS (cE I) (pv 2) (au (pv 0) rfl)))))) (aj vd) aB)
   (ah (aG (i:=4) nd rfl (Or.inl rfl) (aP cQ rfl B.tuple ĳ (ac (fq km rfl (bJ (pm0 GH (pv 0) T.cl I)) (λ_ _ _ _=>iN (az (vq K cPa (hun I)) (ay (r:=a9 K) aC (pv 0) ai (λ_ _=>rfl)) (pv 1) (aA _))) (λ_ _ _ _=>ay (r:=a9 K) aC (pv 0) ai (λ_ _=>rfl))) ag)))
   (ah (aQ (pm aR (pv 1) DH.cl I (ac (aL (ac aD (ac (pv 2) (ac (aP cQ rfl B.tuple ĳ (ac (pv 3) ag)) (ac (pv 4)
    (ac (aP cQ rfl B.tuple ĳ (ac (aK (jT (R:=λH=>sPa K H) B2 (λe h=>h.keep e) (λok q r=>Cc ok q r) rfl (hun (c:=3) I)) rfl B.sorted PyProof.Rows.boot_sorted (ac (wb (dQ (cE I) (au (pv 0) rfl) (pv 2) (λ_ _=>rfl))) ag)) ag)) ag)))))) ag)))
   (aj (aQ (rX (cE I) (au (pv 0) rfl) (pv 2) ⟨ϱ,ϱ,ϱ,ϱ⟩)))))) aB)
  (iq (u:=λD σ H1=>∃x4 X Z d' x',σ=[some (.ref x.W.l),some (.ref h.l),some (.ref G),some (.ref ht),x4]/\Gs C CS CH CL CV K H b (shL CH b.A.l h [] [] .non) d x H1 (shL CH b.A.l h X [] Z) d' x'/\PaA H1 b.p G/\∀u U,Gs C CS CH CL CV K H b (shL CH b.A.l h [] [] .non) d x U (shL CH b.A.l h X [u] Z) d' x'->∀σ',D.nx σ' U)
   (aj (aQ (pm GS (pv 1) DH.cl I (ac (ay (r:=a9 K) aC (pv 2) ai (λ_ _=>rfl)) (ac aD (ac (pv 2) (ac (aL ag) ag))))))) ?s1),?_⟩
 case s1 =>
  rintro D σ H1 ⟨x4,X,Z,d',x',rfl,g,j,nx⟩
  refine ⟨_,ϱ,h.l,h.dx,_,ϱ,g.sh,iI θ,_,ϱ,G,_,_,_,ϱ,ϱ,SqT.of j,St.at0,_,ϱ,χ,λt bp=>?_⟩
  have s2:=af (o:=.tup []) bp
  have g2:=g.same n s2
  exact ⟨b.A.l,h,X,[],Z,(b.p.1,"yes",G,t),stL b.p b.A d'++wtL CL b x',ϱ,(g2.self fK).ow,(by show 0<=900;decide),λu U o' hw=>nx u U (g2.trans ⟨o',g2.wo.im n o'.im⟩) _⟩
 refine ⟨_,ϱ,x.W.l,x.W.dx,_,ϱ,g0.wo.wi,cW θ,_,ϱ,x.W,b.home,b.many,b.A,d,_,b.p,b.p,ϱ,g0.wo.wi,g0.sa,en,a5,λ_=>er,λH1 s1=>⟨_,ϱ,cr ?_⟩⟩
 have g1:=g0.same n s1
 have j:=s1 _ _ a5
 have dg:=DGet.t (k:=pk b.p) g1.an j
 rw [dw,a7] at dg
 have dp:=DGet.t (k:=pk b.p) g1.pe j
 rw [gr,ba] at dp
 refine ⟨_,ϱ,_,ϱ,x.W.l,CV,x.W.dx,_,_,ϱ,g1.wo.wi,T.cl,T.an,k9,x.W.an,_,ϱ,dg,_,ϱ,aU ⟨_,ϱ,_,ϱ,x.W.l,CV,x.W.dx,_,_,ϱ,g1.wo.wi,T.cl,T.pe,pF,x.W.pe,_,ϱ,dp,_,ϱ,aU ?_⟩⟩
 refine ⟨_,ϱ,x.W.l,x.W.dx,_,ϱ,g1.wo.wi,cW θ,x.W,b.home,b.many,b.A.l,_,ϱ,g1.wo.wi,g1.ls,Λ b3 ζ,λq0 H2 ak s2 _ ap pu=>⟨q0,ϱ,⟨_,SqL.of ap⟩,?_⟩⟩
 have lu:=pu.len
 have lh:=qd x.ps
 have bg:=s2 _ _ j
 refine e8 (xs:=ak) (λi J U=>Same H2 U) (Same.refl _) (Λ (by omega:ak.length<=900) ζ) (λi J U _ z=>SqL.of (z _ _ ap)) ?_ ?_
 .rintro i u J H3 hu s3
  obtain ⟨k,ek,rk⟩:=pu.get hu
  obtain ⟨a,u1,u2,rfl,ha,r1,r2⟩:=cPr.keep s3.ts rk
  exact ⟨_,ϱ,a,_,_,_,ϱ,ϱ,ha.sq,St.at0,_,ϱ,k.1,b.p,r1,cG (k:=b.p) (s3 _ _ bg),_,ϱ,bD (λ_=>⟨_,ϱ,a,_,_,_,ϱ,ϱ,ha.sq,St.at1,s3⟩) (λ_=>s3)⟩
 .rintro J H3 s3 p3 bS
  have s4:=af (o:=.lst J) bS
  refine ⟨p3,J,ϱ,.inl ⟨SqL.of ae,λt bt=>?_⟩⟩
  have s5:=af (o:=.tup J) bt
  have a0:=s2.trans (s3.trans (s4.trans s5))
  have g5:=g1.same n a0
  have a1:=a0 _ _ j
  have bi:DGet (upd (upd H3 p3 (.lst J)) t (.tup J)) x.W.dr (.ref G) (some (.ref e.a)):=by
   have:=DGet.t (k:=pk b.p) g5.dr a1
   rw [dw,a6] at this
   exact this
  have ab:(upd (upd H3 p3 (.lst J)) t (.tup J)) e.a=some (.dK (nKs es)):=by rw [← b5];exact g5.dd (cS a6).1
  refine ⟨_,ϱ,h.l,h.dx,_,ϱ,g5.sh,iI θ,_,ϱ,_,ϱ,ht,xs,ϱ,.inr ⟨SqT.of (a0 _ _ (s1 _ _ b2)),?_⟩⟩
  refine ⟨_,ϱ,_,ϱ,x.W.l,CV,x.W.dx,_,_,ϱ,g5.wo.wi,T.cl,T.dr,uJ,_,ϱ,x.W.dr,_,ϱ,bi,e.a,_,ϱ,ab,λvw bw=>?_⟩
  have s6:=af (o:=Vw vw e.a) bw
  refine ⟨vw,e.a,es,ϱ,ae,Er (s6 _ _ ab),b6,λH7 l7 y7 s7 bA p7=>?_⟩
  have s8:=af (o:=.lst y7) bA
  refine ⟨l7,y7,ϱ,.inl ⟨SqL.of ae,λl9 bB=>⟨χ,λr bC=>?_⟩⟩⟩
  have s9:=af (o:=.tup y7) bB
  have a2:=af (o:=.tup [.str "ready",.ref G,.ref ht,.ref t,.ref l9]) bC
  have y:=s6.trans (s7.trans (s8.trans (s9.trans a2)))
  have L:=g5.same n y
  have bl:RxAt K (upd (upd (upd H7 l7 (.lst y7)) l9 (.tup y7)) r (.tup [.str "ready",.ref G,.ref ht,.ref t,.ref l9])) b.p r (.rdy (cu ltP es)):=⟨G,_,_,.ref l9,ae,y _ _ a1,l9,y7,ϱ,.inl (a2 _ _ ae),Paired.mapP p7 λ_ _ z=>z.keep (s9.trans a2).ts⟩
  refine ⟨b.p,b.A,h,d,[],[],.non,r,.rdy (cu ltP es),wtL CL b x,ϱ,(L.self fK).ow,L.wo.si,bl,⟨(λc hc=>by cases hc),(λ_ _=>er),(λ_ _ z=>by cases z),(by rw [en];exact ϖ _),b4⟩,(by show 0<=900;decide),λZ bG a3 as nw=>?_⟩
  have O:=L.trans (S':=shL CH b.A.l h [r] [] Z) ⟨a3,(L.wo.im n a3.im).wsi as⟩
  have Y:PaA bG b.p G:=ImS.ts a3.im _ _ (y _ _ a1)
  have ev:aY (dD x.an) (pk b.p)=some (.ref f.a):=by rw [dw,a7];rfl
  refine ⟨_,ϱ,x.W.l,CV,x.W.dx,_,_,ϱ,O.wo.wi,T.cl,T.an,k9,x.W.an,ϱ,.inr ⟨_,.inl O.an⟩,_,ϱ,pk b.p,G,_,.ref f.a,ϱ,Y,O.an,ev,?_⟩
  refine (Gd.popA O n b.p (Q:=_) λd3 av bI=>?_).1 _ ev
  exact ⟨_,_,Z,_,_,ϱ,bI,av.ts _ _ Y,λu U g' _=>q4 r u Z U g'⟩
def iB:∀u∈([]:Cs),¬Im CH CL u.2:=λ_ h=>nomatch h
section
variable {N:û}{H0 H H':Hp}{b:Bx}{S:Cs}{d:Sx}{x:Wx}{h:Ah}{a:é}{o:HO}
def Gd.sheet(g:Gd C CS CH CL CV K N H0 H b [] d x)(n:Nq C CS CH CL CV)(o:Ow CH CL [] H H' (shL CH b.A.l h [] [] .non)):Gd C CS CH CL CV K N H0 H' b (shL CH b.A.l h [] [] .non) d x:=⟨g.ow.join o,g.wo.im n o.im⟩
def Gd.drop(g:Gd C CS CH CL CV K N H0 H b S d x):Gd C CS CH CL CV K N H0 H b [] d x:=⟨g.ow.tail,g.wo⟩
def Co{L:Cs}(g:Ow CH CL N H0 H L)(k:Kp a H H')(e:H a=some o)(i:¬Im CH CL o)(n:a∉ad L)(h:a∈N\/H0 a=none):Ow CH CL N H0 H' L :=
 ⟨λx hx=>k _ _ (λz=>n (z▸ϑ.mpr ⟨x,hx,ϱ⟩)) (g.co x hx),g.nd,g.mu,g.nw,λb u nb z=>k b u (λy=>by
  rcases h with m | m
  .exact nb (y▸m)
  .rw [y,m] at z;cases z) (g.fr b u nb z),λb u z w=>k b u (λy=>by
  have:=g.im b u z w
  rw [y,e] at this
  cases this
  exact i w) (g.im b u z w)⟩
def Gd.ext(g:Gd C CS CH CL CV K N H0 H b S d x)(n:Nq C CS CH CL CV)(k:Kp a H H')(e:H a=some o)(i:¬Im CH CL o)(na:a∉ad (S++(stL b.p b.A d++wtL CL b x)))(h:a∈N\/H0 a=none):Gd C CS CH CL CV K N H0 H' b S d x:=⟨Co g.ow k e i na h,g.wo.im n (cJ k e i)⟩
def Gd.out(g:Gd C CS CH CL CV K N H0 H b S d x)(e:H0 a=some o)(n:a∉N):H a=some o/\a∉ad (S++(stL b.p b.A d++wtL CL b x)) :=
 ⟨g.ow.fr a o n e,λhm=>by
  obtain ⟨y,hy,z⟩:=ϑ.mp hm
  rcases g.ow.nw y hy with m | m
  .exact n (z▸m)
  .rw [show y.1=a from z,e] at m;cases m⟩
def Gd.more(g:Gd C CS CH CL CV K N H0 H b S d x):Gd C CS CH CL CV K (a::N) H0 H b S d x :=
 ⟨⟨g.ow.co,g.ow.nd,g.ow.mu,λu hu=>(g.ow.nw u hu).imp (λz=>Θ _ z) id,λc u nc e=>g.ow.fr c u (λz=>nc (Θ _ z)) e,g.ow.im⟩,g.wo⟩
end
def Dg(n:Nat)(dk:List (Key×V)):Prop:=∀kv∈dk,∃c v,kv=((.inl c:Key),V.int v)/\0<=c/\c<n
theorem Dg.es{n:Nat}:∀{dk:List (Key×V)},Dg n dk->∃es,dk=nKs es/\∀c∈es,0<=c.1/\c.1<n
 | [],_=>⟨[],rfl,λ_ h=>nomatch h⟩
 | kv::r,h=>by
  obtain ⟨c,v,rfl,h1⟩:=h kv (.head _)
  obtain ⟨es,rfl,h2⟩:=Dg.es (dk:=r) λy hy=>h y (.tail _ hy)
  refine ⟨(c,v)::es,ϱ,λy hy=>?_⟩
  rcases ϕ.mp hy with z | z
  .rw [z];exact h1
  .exact h2 y z
def Dg.dri{n:Nat}{dk:List (Key×V)}(h:Dg n dk):DrI dk:=λc v e=>by
 obtain ⟨kv,e1,rfl⟩:=ų.mp e
 obtain ⟨c',v',rfl,_⟩:=h kv (Ŀ e1)
 exact ⟨v',ϱ⟩
def Dg.step{n:Nat}{dk:List (Key×V)}{ch:à (Int×Int)}(h:Dg n dk)(l:ch.length<=1)(i:∀c∈ch,0<=c.1/\c.1<n):Dg n (aV dk (aV [] (chK ch)))/\(aV dk (aV [] (chK ch))).length<=dk.length+1:=by
 match ch,l with
 | [],_=>exact ⟨h,Ł _⟩
 | [(c,v)],_ =>
  show Dg n (bZ dk (.inl c) (.int v))/\(bZ dk (.inl c) (.int v)).length<=_
  refine ⟨λg b=>?_,eC _ _ _⟩
  unfold bZ at b
  split at b
  .obtain ⟨y,e,rfl⟩:=ϑ.mp b
   obtain ⟨d,f,rfl,h1⟩:=h y e
   split
   .exact ⟨d,v,ϱ,h1⟩
   .exact ⟨d,f,ϱ,h1⟩
  .rcases Ŷ.mp b with z | z
   .exact h g z
   .rw [ϵ.mp z];exact ⟨c,v,ϱ,i _ (.head _)⟩
def Dd{n:Nat}{val:Int->Int}{e:Wd}{j:ù}{b:Int}(d:Ar e j)(f:inC n e j):∀c∈(dn val e j b).2,0<=c.1/\c.1<n:=by
 cases e with
 | give=>obtain ⟨a,c,rfl,_,g,_⟩:=d.c rfl;intro y i;rw [ϵ.mp i];exact ⟨g.1,f⟩
 | add=>obtain ⟨a,c,v,rfl,_,g,_⟩:=d.a;intro y i;rw [ϵ.mp i];exact ⟨g.1,f⟩
 | take=>obtain ⟨a,c,rfl,_⟩:=d.c rfl;exact λ_ h=>nomatch h
 | mean=>obtain ⟨a,c,rfl,_⟩:=d.c rfl;exact λ_ h=>nomatch h
 | sum=>obtain ⟨a,c,v,rfl,_⟩:=d.s;exact λ_ h=>nomatch h
 | plus=>exact f.elim
 | need=>exact f.elim
abbrev nmW(ps:à Pr):à Pa:=(aN ps).map (·.1)
def gq(ps:à Pr)(y:Pa)(k:Lk):nmW (bh ps y k)=if i6 ps y k=true then nmW ps else nmW ps++[y]:=by
 unfold nmW bh i6
 rw [qb]
 cases iT ps y k with
 | true=>rfl
 | false =>
  show List.map _ (aN (ps++[(y,k)]))=_
  rw [vO]
  cases clear ps (y,k)<;>simp
def vH{ps:à Pr}{y:Pa}(h:∀pr∈ps,pr.1=y)(k:Lk):i6 ps y k=true:=by
 unfold i6
 rw [qb,sj λa b=>.inl (h a b),Bool.or_true]
def rq{ps:à Pr}{y:Pa}{k:Lk}{b:Pr}(h:b∈bh ps y k):b∈ps\/b.1=y:=by
 unfold bh at h
 split at h
 .exact .inl h
 .exact (Ŷ.mp h).imp id λz=>by rw [ϵ.mp z]
def iU(ps:à Pr)(y:Pa)(k:Lk):(bh ps y k).length<=ps.length+1:=by
 unfold bh
 split
 .exact Ł _
 .rw [Ž];exact ι _
def vJ(ps:à Pa)(y:Pa):(rB ps y).length<=ps.length+1:=by
 unfold rB
 split
 .exact Ł _
 .rw [Ž];exact ι _
def kU(d:Sx):Prop:=∀c∈d.rc,0<=c.1/\c.1<d.cells.length
structure Fst(d d':Sx)(x x':Wx)(p:Pa):Prop where
 cl:d'.cells=d.cells
 en:d'.en=[]
 rc:kU d'
 wk:d'.wk.length<=4
 els:∀z,z≠p->aF x'.dr z=none/\aF x'.an z=none
 pe:x'.pe=[]
 ps:∀pr∈x'.ps,pr.1=p
 wt:nmW x'.ps=[]
 ln:x'.dr.length<=4/\x'.an.length<=4/\x'.ps.length<=4
 eW:x'.W=x.W
inductive xp (C:Kd->é) (CS CH CL CV:é) (K:ä) (Pt:é) (vs:à V) (H:Hp) (Q:VK) (E:XK):Prop|mk b d x sc ns Es pa:vs=[.ref (x:Wx).W.l,.ref (b:Bx).A.l,.ref pa,.ref sc,.int (d.cells.length:Nat)]->b.Pt=Pt->Gs C CS CH CL CV K H b [] d x H [] d x->PaA H b.p pa->x.dr=[]->x.an=[]->x.pe=[]->x.ps=[]->d.rd=none->d.rc=[]->d.en=[]->d.wk=[]->1<=d.cells.length->d.cells.length<=8->((∀u∈(Es:Cs),H u.1=some u.2/\u.1∉ad (stL b.p b.A d++wtL CL b x)))->((∀H',(∀u∈Es,H' u.1=some u.2)->SqL K H' sc ((ns:ù).map V.int)))->(∀o d' x' H',Gs C CS CH CL CV K H b [] d x H' [] d' x'->Fst d d' x x' b.p->Q (.str o) H')->xp C CS CH CL CV K Pt vs H Q E
structure Hi(C:Kd->é)(CS CH CL CV:é)(K:ä)(H:Hp)(b:Bx)(d:Sx)(x:Wx)(i:Nat)(H':Hp)(d':Sx)(x':Wx)(dk ak:List (Key×V)):Prop where
 g:Gs C CS CH CL CV K H b [] d x H' [] d' x'
 cl:d'.cells=d.cells
 en:d'.en=[]
 rd:d'.rd=none
 rc:d'.rc=[]
 wk:d'.wk.length<=i
 own:Own x' b.p dk ak
 some:0<i->(aF x'.dr b.p).isSome=true
 els:∀z,z≠b.p->aF x'.dr z=none/\aF x'.an z=none
 pe:x'.pe=[]
 ps:∀pr∈x'.ps,pr.1=b.p
 wt:nmW x'.ps=[]
 ln:x'.dr.length<=i/\x'.an.length<=i/\x'.ps.length<=i
 eW:x'.W=x.W
 dg:Dg d.cells.length dk
 ld:dk.length<=i
 lk:ak.length<=i
 non:∀j:Int,i<=j->aY ak (.inl j)=none
def Cv{Pt fI:é}{dI:ç}(F:Fun K "_law_first" "_law_first" gw f fd)(B:TxB mg)(T:TxV K CV)(n:Nq C CS CH CL CV)(MH:L2.Mk K CH fI)(b5:mg "Sheet"=some (.ref CH))(b6:FnOk P w K mg base CX0 1 fI dI ["self","stand"] (iM CH CL))(ba:Binds K dI ["self","stand"] [])
  (GA:GF P w K mg base CX0 1 "_law_cell_at" ["_law_script","_law_k"] (qD K))(GN:GF P w K mg base CX0 1 "_law_number" ["_law_cell"] mO)(d4:GF P w K mg base CX0 2 "_law_step" ["_law_cell","_law_many"] mj)
  (d5:GM P w K mg base CX0 8 CV "work" ["self","sheet","p","i","hand","text"] (mH C CS CH CL CV K Pt))(d6:GM P w K mg base CX0 7 CV "ready" ["self","sheet","p","houses"] (qy C CS CH CL CV K)):FnOk P w K mg base CX0 9 f fd ["_law_works","_law_stand","_law_p","_law_script","_law_many"] (xp C CS CH CL CV K Pt):=by
 refine F.oj sc__law_first λdT A0 cf s H vs Q E O h=>?_
 obtain ⟨b,d,x,sc,U,E1,pa,rfl,bl,g0,as,Y,Z,bm,a0,bp,bt,bw,bA,l1,l8,hE,J,q⟩:=h
 have nd:=sc__law_first.nd
 have b0:Room (1+1) _:=O.mono ζ
 refine ⟨_,ah (gz ō rfl (cX rfl B.range (ac (aE bW ai (aE b9 (pc GA O (ac (pv 3) (ac ai ag))) ai)) ag)) (bU (i:=5) nd rfl (Or.inl rfl))
   (ah (aG (i:=6) nd rfl (Or.inl rfl) (pc d4 O (ac (pc GA O (ac (pv 3) (ac (aE bW ai (pv 5)) ag))) (ac (pv 4) ag))))
   (aj (aQ (pm d5 (pv 0) T.cl O (ac (bb MH b6 b0 rfl b5 ba .nil be (ac (pv 1) ag)) (ac (pv 2) (ac (pv 5) (ac (pc GN O (ac (aE bV (pc GA O (ac (pv 3) (ac ai ag))) ai) ag)) (ac (pv 6) ag))))))))))
  (ah (aJ (az ol (aE b9 (aE bV (pc GA O (ac (pv 3) (ac ai ag))) ai) ai) ai (aA _)) (ah (aQ (pm d6 (pv 0) T.cl O (ac (bb MH b6 b0 rfl b5 ba .nil be (ac (pv 1) ag)) (ac (pv 2) (ac (aL (ac ai ag)) ag))))) (aj (aw aD))) aB)
  (aj (aw aD))),?_⟩
 refine sq λnB kB=>?_
 have bS:=J H λu G=>(hE u G).1
 obtain ⟨M,hM,bB,dz⟩:∃M:Nat,1+dh U 1%4=(M:Int)/\0<M/\M<=4:=by
  have h0:0<=dh U 1%4:=ı _ ζ
  have h3:dh U 1%4<4:=ŋ _ ζ
  exact ⟨(1+dh U 1%4).toNat,ω,ω,ω⟩
 refine ⟨_,ϱ,sc,U,1,ϱ,bS,_,_,ϱ,ϱ,(by show (0:Int)<4;decide),_,_,ϱ,ϱ,(M:Int),congrArg (λz=>[V.int z]) hM,ω,ω,?_⟩
 rw [ř]
 refine iR (n:=M) (λi σ H'=>∃y5 y6 D y dk ak,σ=[some (.ref x.W.l),some (.ref b.A.l),some (.ref pa),some (.ref sc),some (.int (d.cells.length:Nat)),y5,y6]/\Hi C CS CH CL CV K H b d x i H' D y dk ak)
  ⟨_,_,d,x,[],[],ϱ,g0,ϱ,bw,bp,bt,by rw [bA];exact ι _,.inl ⟨by rw [Y];rfl,by rw [Z];rfl,ϱ,ϱ⟩,(λz=>by omega),(λz _=>⟨by rw [Y];rfl,by rw [Z];rfl⟩),bm,(by rw [a0];exact λ_ z=>nomatch z),(by rw [a0];rfl),⟨by rw [Y];exact ι _,by rw [Z];exact ι _,by rw [a0];exact ι _⟩,ϱ,(λ_ z=>nomatch z),ι _,ι _,λ_ _=>rfl⟩ ?_ ?_
 .rintro i σ H1 hi ⟨y5,y6,D,y,dk,ak,rfl,I⟩
  rw [Int.zero_add]
  have g:=I.g
  have b1:=I.ld
  have c0:=I.lk
  have c1:=I.wk
  obtain ⟨bC,bG,bI⟩:=I.ln
  have eW:=I.eW
  have a4:=J H1 λu G=>(g.out (hE u G).1 (hE u G).2).1
  refine sq λnC kC=>⟨_,ϱ,_,ϱ,_,_,ϱ,ϱ,sc,U,2+i,congrArg (λz:Int=>[V.ref sc,V.int z]) ω,a4,_,ϱ,_,_,ϱ,l1,l8,λwd cm H2 s2 ar ic=>kC _ _ ?_⟩
  have g2:=g.same n s2
  refine ⟨_,ϱ,y.W.l,y.W.dx,_,(by rw [eW]),g2.wo.wi,cW θ,_,ϱ,λl dx nl a5 ct=>⟨l,dx,b.A.l,ϱ,ae,λh H3 eh o3=>⟨ϱ,?_⟩⟩⟩
  have ob:=o3.born (jI nl a5) nl
  subst eh
  have g3:=g2.sheet n ob
  have c4:=J H3 λu G=>(g3.out (hE u G).1 (hE u G).2).1
  have c5:PaA H3 b.p pa:=g3.ow.ts _ _ as
  have ca:bT y.pe b.p=none:=by rw [I.pe];rfl
  have cb:fj y.ps b.p=none:=wplace_iff.mpr (by rw [show (aN y.ps).map (·.1)=[] from I.wt];exact λz=>nomatch z)
  refine ⟨_,ϱ,_,ϱ,_,ϱ,sc,U,1,ϱ,c4,_,_,ϱ,ϱ,⟨ζ,ζ⟩,_,ϱ,λb3 _=>⟨_,ϱ,b,h,D,[],[],.non,b.p,pa,i,b3,wd,cm,y,dk,ak,(by rw [eW];rfl),bl,g3.self fK,c5,ar,by rw [I.cl];exact ic,by rw [I.cl];omega,ω,I.en,λ_=>I.rd,I.own,I.dg.dri,ω,ω,ω,ω,(by rw [I.pe];exact ϖ _),(by show 0<=100;decide),(by show 0<=100;decide),ω,I.non i (Int.le_refl _),ca,cb,λlk e7=>⟨λ_ b4 cF c e9 u t d2 ea v' H5 g5 u1 u2 _ _ d1=>?_,λe=>by rw [vH I.ps] at e;cases e⟩⟩⟩
  have gA:=(g3.trans g5).drop
  obtain ⟨k1,k2⟩:=I.dg.step (zr ar) (Dd ar ic)
  have L:d2.cells=D.cells/\d2.en=D.en/\d2.rd=D.rd/\d2.rc=D.rc/\d2.wk.length<=D.wk.length+1:=by
   rcases d1 with ⟨_,_,_,rfl⟩ | ⟨_,r,_,_,_,rfl⟩
   .exact ⟨ϱ,ϱ,ϱ,ϱ,Ł _⟩
   .exact ⟨ϱ,ϱ,ϱ,ϱ,vJ _ _⟩
  obtain ⟨a1,aR⟩:=u1.here
  obtain ⟨a2,bN⟩:=u2.here
  have w1:=u1.len
  have w2:=u2.len
  have w3:=iU y.ps b.p lk
  refine ⟨_,_,d2,_,_,_,ϱ,gA,L.1.trans I.cl,L.2.1.trans I.en,L.2.2.1.trans I.rd,L.2.2.2.1.trans I.rc,ω,.inr ⟨a1,a2,aR,bN⟩,(λ_=>by show (aF b4 b.p).isSome=true;rw [aR];rfl),λz X=>⟨(u1.els z X).trans (I.els z X).1,(u2.els z X).trans (I.els z X).2⟩,I.pe,λpr hp=>(rq hp).elim (I.ps pr) id,?_,⟨?_,?_,?_⟩,eW,k1,Λ k2 (ć b1),Λ (eC _ _ _) (ć c0),λj hj=>?_⟩
  .show nmW (bh y.ps b.p lk)=[]
   rw [gq,Ź (vH I.ps lk)]
   exact I.wt
  .show b4.length<=i+1;omega
  .show cF.length<=i+1;omega
  .show (bh y.ps b.p lk).length<=i+1;omega
  .rw [rG,ž (λz=>by cases z;omega)]
   exact I.non j ω
 .rintro σ H1 ⟨y5,y6,D,y,dk,ak,rfl,I⟩
  have g:=I.g
  have b1:=I.ld
  obtain ⟨bC,bG,bI⟩:=I.ln
  have c1:=I.wk
  have cc:kU D:=by unfold kU;rw [I.rc];exact λ_ z=>nomatch z
  refine kB _ _ (sq λnC kC=>?_)
  have a4:=J H1 λu G=>(g.out (hE u G).1 (hE u G).2).1
  refine ⟨_,ϱ,sc,U,1,ϱ,a4,_,_,ϱ,ϱ,⟨ζ,ζ⟩,_,_,ϱ,ϱ,(by show (0:Int)<3;decide),ϱ,_,ϱ,bD (λ_=>sq λnD kD=>?_) (λ_=>kC _ _ (q _ D y H1 g ⟨I.cl,I.en,cc,ω,I.els,I.pe,I.ps,I.wt,⟨ω,ω,ω⟩,I.eW⟩))⟩
  refine ⟨_,ϱ,y.W.l,y.W.dx,_,(by rw [I.eW]),g.wo.wi,cW θ,_,ϱ,λl dx nl a5 ct=>⟨l,dx,b.A.l,ϱ,ae,λh H3 eh o3=>⟨ϱ,?_⟩⟩⟩
  have ob:=o3.born (jI nl a5) nl
  subst eh
  have g3:=g.sheet n ob
  refine ⟨_,ϱ,χ,λht d3=>?_⟩
  have s4:=af (o:=.tup [.int 0]) d3
  have g4:=g3.same n s4
  obtain ⟨es,aZ,bP⟩:=I.dg.es
  have dS:es.length=dk.length:=by rw [aZ];exact (ν _).symm
  obtain ⟨a1,a2,e1,e2⟩:∃a1 a2,aF y.dr b.p=some ⟨b.p,a1,dk⟩/\aF y.an b.p=some ⟨b.p,a2,ak⟩:=I.own.resolve_left λz=>by
   have:=I.some bB
   rw [z.1] at this
   cases this
  refine ⟨b,h,D,y,pa,ht,[.int 0],⟨b.p,a1,dk⟩,⟨b.p,a2,ak⟩,es,(by rw [I.eW];rfl),g4.self fK,g4.ow.ts _ _ as,ae,ω,ω,I.rd,I.en,e1,aZ,ω,e2,(by rw [I.pe];rfl),λr u v' H5 g5=>kD _ _ (q _ _ _ H5 (g4.trans g5).drop ⟨I.cl,I.en,λc hc=>?_,(by show D.wk.length<=4;omega),λz X=>⟨(I.els z X).1,?_⟩,I.pe,I.ps,I.wt,⟨(by show y.dr.length<=4;omega),Λ (Ų _ _) ω,(by show y.ps.length<=4;omega)⟩,I.eW⟩)⟩
  .have:=bP c (B3 c hc)
   show _/\_<(D.cells.length:Int)
   rw [I.cl]
   exact this
  .show aF (dlt y.an b.p) z=none
   rw [oN,ž X]
   exact (I.els z X).2
def AJ{H:Hp}{es:à (Pa×Str)}{u v:V}(h1:NwAt K H es u)(o:NwAt K H es v):EqIs K 3 H u v true:=by
 obtain ⟨t,q,rfl,g,h⟩:=h1
 obtain ⟨w,i,rfl,d,j⟩:=o
 refine (jm (n:=2) (SqT.of g) (SqT.of d) ?_).1
 have l:∀{e:à (Pa×Str)} {f vs:à V},Paired (sPS K H) e f->Paired (sPS K H) e vs->Paired (λx y=>EqIs K 2 H x y true) f vs:=by
  intro e f vs q1
  induction q1 generalizing vs with
  | nil=>intro q2;cases q2;exact .nil
  | cons a t ih =>
   intro q2
   cases q2 with
   | cons b r =>
    refine .cons ?_ (ih r)
    have z:=(cPS.eq (sPS.c a) (sPS.c b)).mono (show cPS.n<=2 by decide)
    rwa [τ rfl] at z
 exact l h j
def LwL(K:ä)(H:Hp)(es:à (Pa×Str))(y:Pa)(i v:Int)(z:V):Prop:=∃a4 a3 a2 za nv,z=.ref a4/\H a4=some (.tup [.int y.1,.ref a3])/\H a3=some (.tup [.str "did",.ref za,.ref a2,nv])/\PaA H y za/\H a2=some (.tup [.int i,.int v])/\NwAt K H es nv
def Bv{H:Hp}{y:Pa}{a c:é}(h1:PaA H y a)(b:PaA H y c):EqIs K 1 H (.ref a) (.ref c) true:=by
 have:=cPa.eq (cG (K:=K) (k:=y) h1) (cG (K:=K) (k:=y) b)
 rw [τ rfl] at this
 exact this
def By{H:Hp}{es:à (Pa×Str)}{y:Pa}{i v:Int}{b t:é}{u z:V}(D:PaA H y b)(F:H t=some (.tup [.int i,.int v]))(h:LtAt K H es (y.1,"did",b,t) u)(l:LwL K H es y i v z):EqIs K 5 H u z true:=by
 obtain ⟨G,I,d,rfl,e,f,g⟩:=h
 obtain ⟨J,L,O,P,Q,rfl,j,o,q,r,w⟩:=l
 have x:=((jm (K:=K) (n:=0) (SqT.of F) (SqT.of r) (.cons (eq_int 0 _) (.cons (eq_int 0 _) .nil))).1).mono (show 1<=3 by decide)
 have C:=(jm (K:=K) (n:=3) (SqT.of f) (SqT.of o) (.cons (eq_str 3 _) (.cons ((Bv D q).mono ζ) (.cons x (.cons (AJ g w) .nil))))).1
 exact (jm (K:=K) (n:=4) (SqT.of e) (SqT.of j) (.cons (eq_int 4 _) (.cons C .nil))).1
def pT{H1:Hp}{ps:à Pr}{q1:é}{us1:à V}{σ:L2.St}{fv:ø}{Fin:à V->Hp->Prop}(hq1:H1 q1=some (.lst us1))(pq1:Paired (cPr.rp K H1) (aN ps) us1)(hz:ps.length<=900)(q:∀zs H2,Same H1 H2->Paired (cPa.rp K H2) (nmW ps) zs->Fin zs H2) :
  ∃(W:Nat->à V->Hp->Prop) (n:Nat),W 0 [] H1/\n<=sizeLine/\∀i ys H,W i ys H->((Itl K q1).stop i H/\Fin ys H) \/
   ((Itl K q1).go i H/\i<n/\∀x H',(Itl K q1).yld i H x H'->sK K x (bv 2 fv σ) H' fun σ' H''=>Ext (bv 2 fv σ) σ'/\B0 σ' H'' λc H2=>if c=true then qq 0 σ' H2 (λv H3=>W (i+1) (ys++[v]) H3) else W (i+1) ys H2) :=
 CT (te:=qq 0) (c:=cPa) (c2:=cLk) (d:=cPa) pq1 (SqL.of hq1) (by rw [← pq1.len];exact Λ (Λ (gc ps) hz) ζ) (λ_=>true) (λy=>y.1) (λy u1 u2 H5 Q5 _ r1 r2 s5 hQ=>hQ _ (Same.refl _)) (λy u1 u2 H5 Q5 _ r1 r2 s5 hQ=>⟨_,ϱ,hQ _ _ (Same.refl _) r1⟩) λzs H2 s2 pz=>q zs H2 s2 (by rw [wF] at pz;exact pz)
structure AskO(x:Wx)(y:Pa)(i hand:Int)(wd:Wd)(ns:ù)(ak:List (Key×V))(lk:Lk)(d d':Sx)(x':Wx):Prop where
 ps:x'.ps=bh x.ps y lk
 eW:x'.W=x.W
 ce:d'.cells=d.cells/\d'.en=d.en/\d'.rd=d.rd/\d'.rc=d.rc
 wk:d'.wk.length<=d.wk.length+1
 or:(i6 x.ps y lk=true/\x'.pe=x.pe/\Up x.dr y (aV [] (aV [] (chK (dn (ck d.cells) wd ns hand).2))) x'.dr/\Up x.an y (bZ ak (.inl i) (.int (dn (ck d.cells) wd ns hand).1)) x'.an)\/(i6 x.ps y lk=false/\(∃wt,x'.pe=x.pe++[⟨y,wt,i,hand,wd,ns⟩]/\x'.dr=x.dr/\x'.an=x.an)/\d'.wk.length<=d.wk.length)
def AskO.wk0{x f:Wx}{y:Pa}{i b:Int}{g:Wd}{j:ù}{l:List (Key×V)}{e:Lk}{d d':Sx}(o:AskO x y i b g j l e d d' f)(q:i6 x.ps y e=false):d'.wk.length<=d.wk.length+0:=by
 obtain ⟨_,h⟩:=o.or.resolve_left λz=>by rw [q] at z;cases z.1
 exact h.2
def RwD.ce{H:Hp}{b:Bx}{d:Sx}{y:Pa}{old:Bool}{f:û}{v:V}{e:û}{g:V}{d':Sx}(h:RwD K H b d y old f v e g d'):(d'.cells=d.cells/\d'.en=d.en/\d'.rd=d.rd/\d'.rc=d.rc)/\d'.wk.length<=d.wk.length+1:=by
 rcases h with ⟨_,_,_,rfl⟩ | ⟨_,r,_,_,_,rfl⟩
 .exact ⟨⟨ϱ,ϱ,ϱ,ϱ⟩,Ł _⟩
 .exact ⟨⟨ϱ,ϱ,ϱ,ϱ⟩,vJ _ _⟩
structure E4(H:Hp)(b:Bx)(d:Sx)(x:Wx)(y:Pa)(ya:é)(i:Int)(wd:Wd)(ns:ù)(ak:List (Key×V)):Prop where
 hy:PaA H y ya
 ar:Ar wd ns
 ic:inC d.cells.length wd ns
 cl:d.cells.length<=8
 wk:d.wk.length<=50
 en:d.en=[]
 ne:y≠b.p
 own:Own x y [] ak
 lak:ak.length<=50
 ln:x.dr.length<=50/\x.an.length<=50/\x.pe.length<=50/\x.ps.length<=50
 non:aY ak (.inl i)=none
 pe:bT x.pe y=none
 wt:y∉nmW x.ps
inductive xq (C:Kd->é) (CS CH CL CV:é) (K:ä) (Pt:é) (vs:à V) (H:Hp) (Q:VK) (E:XK):Prop|mk b d x y ya i hand wd ns ak:vs=[.ref (x:Wx).W.l,.ref (b:Bx).A.l,.ref ya,.int i,.int hand,.str (txt wd ns)]->b.Pt=Pt->Gs C CS CH CL CV K H b [] d x H [] d x->E4 H b d x y ya i wd ns ak->((aF x.an y).isSome=!decide (V.int i=V.int 0))->(∀lk d' x' H',sy wd ns=some lk->Gs C CS CH CL CV K H b [] d x H' [] d' x'->AskO x y i hand wd ns ak lk d d' x'->Q (.bl true) H')->xq C CS CH CL CV K Pt vs H Q E
def Cz{Pt fI:é}{dI:ç}(F:Fun K "_law_asked" "_law_asked" cY f fd)(B:TxB mg)(D:TxD K CS)(T:TxV K CV)(DH:TxH K CH)(n:Nq C CS CH CL CV)(MH:L2.Mk K CH fI)(dC:mg "Sheet"=some (.ref CH))(dG:FnOk P w K mg base CX0 1 fI dI ["self","stand"] (iM CH CL))(dK:Binds K dI ["self","stand"] [])
  (dN:GM P w K mg base CX0 6 CV "waiting" ["self"] (lp C CL CV K aN))(ch:GM P w K mg base CX0 1 CH "rows_told" ["self"] (mq CH))(cm:GM P w K mg base CX0 2 CH "letters_told" ["self"] (qA CS CH K))(GC:GM P w K mg base CX0 1 CS "cells_told" ["self"] (mr CS K))(GH:GF P w K mg base CX0 1 "_law_hand" ["_law_cells","_law_hand_here","_law_text"] (ml K))
  (dS:GM P w K mg base CX0 8 CV "work" ["self","sheet","p","i","hand","text"] (mH C CS CH CL CV K Pt)):FnOk P w K mg base CX0 9 f fd ["_law_works","_law_stand","_law_p","_law_i","_law_hand_here","_law_text"] (xq C CS CH CL CV K Pt):=by
 refine F.oj sc__law_asked λew A0 d4 s H vs Q E X h=>?_
 obtain ⟨b,d,x,y,U,i,a1,wd,ns,ak,rfl,cx,g0,j,e0,q⟩:=h
 have nd:=sc__law_asked.nd
 have cZ:Room (1+1) _:=X.mono ζ
 obtain ⟨Y,ba⟩:=vy j.ar j.ic
 obtain ⟨eg,ei,ej,ek⟩:=j.ln
 have el:=j.cl
 have em:=j.wk
 have ep:=j.lak
 refine ⟨_,ah (aG (i:=6) nd rfl (Or.inl rfl) (bb MH dG cZ rfl dC dK .nil be (ac (pv 1) ag)))
  (ah (aQ (pm dS (pv 0) T.cl X (ac (pv 6) (ac (pv 2) (ac (pv 3) (ac (pv 4) (ac (pv 5) ag)))))))
  (ah (aJ (az (ud cPa (hun X)) (pv 2) (xU sb__law_asked_0 (λ_ _ _ _=>jD K rfl sb__law_asked_0.nd rfl rfl rfl rfl) rfl (bJ (pm0 dN (pv 0) T.cl X)) (λ_ _ _ _=>cj) (λ_ _ _ _=>pv 0)) rfl)
   (aj (aw (gD (bq (qW cInt (hun X)) (pm0 ch (pv 6) DH.cl X) (c7 ag) (aA _)) (fX (bq (qW cInt (hun X)) (pm0 cm (pv 6) DH.cl X) (c7 ag) (aA _)))))) aB)
  (ah (aG (i:=7) nd rfl (Or.inl rfl) (pc GH X (ac (pm0 GC (pv 1) D.cl X) (ac (pv 4) (ac (pv 5) ag)))))
  (ah (aJ (az (Cr (cT2 cStr cPa) (hun X)) (pm0 ch (pv 6) DH.cl X) (aE Cq (c7 (ac (aL (ac aD (ac (pv 2) ag))) ag)) (aP qh rfl B.int ő (ac (bq bK (pv 3) ai (aA _)) ag))) (aA _)) (aj (aw rZ)) aB)
  (aj (aw (bq (ue 6 (hun (c:=5) X)) (pm0 cm (pv 6) DH.cl X) (c7 (ac (aL (ac (ay (r:=a9 K) aC (pv 2) ai (λ_ _=>rfl)) (ac (aL (ac aD (ac (pv 2) (ac (aL (ac (pv 3) (ac (pv 7) ag))) (ac (aL ag) ag))))) ag))) ag)) (aA _)))))))),?_⟩
 refine sq λnA kA=>⟨_,ϱ,λl dx nl d5 eA=>⟨l,dx,b.A.l,ϱ,ae,λh H3 eh o3=>⟨ϱ,kA _ _ (sq λnB kB=>?_)⟩⟩⟩
 have ob:=o3.born (jI nl d5) nl
 subst eh
 have g3:=g0.sheet n ob
 have d0:PaA H3 y U:=g3.ow.ts _ _ j.hy
 refine ⟨_,ϱ,x.W.l,x.W.dx,_,ϱ,g3.wo.wi,cW θ,_,ϱ,_,ϱ,_,ϱ,_,ϱ,_,ϱ,b,h,d,[],[],.non,y,U,i,a1,wd,ns,x,[],ak,ϱ,cx,g3.self fK,d0,j.ar,j.ic,ω,ω,j.en,λz=>absurd z j.ne,j.own,(λ_ _ z=>by cases z),(by show 0<=100;decide),ω,ω,ω,ω,(by show 0<=100;decide),(by show 0<=100;decide),ω,j.non,j.pe,wplace_iff.mpr j.wt,λeL b5=>?_⟩
 rw [ba] at b5
 cases b5
 have er:=iU x.ps y Y
 refine ⟨λea eP eS c d6 u t d' c4 v' H5 g5 u1 u2 hu ht c5=>kB _ _ (sq λnC kC=>?_),λea wt d6 H5 g5=>kB _ _ (sq λnC kC=>?_)⟩
 .have g:=g3.trans g5
  have aR:PaA H5 y U:=g.ow.ts _ _ j.hy
  obtain ⟨ce,cz⟩:=c5.ce
  refine ⟨_,ϱ,_,ϱ,x.W.l,x.W.dx,_,ϱ,g.wo.wi,cW θ,x.W,b.home,b.many,b.A.l,_,ϱ,g.wo.wi,g.ls,(by show (bh x.ps y Y).length<=1000;omega),λq6 H6 dc s6 _ ab p6=>⟨q6,ϱ,⟨_,SqL.of ab⟩,pT ab p6 (by show (bh x.ps y Y).length<=900;omega) λzs H7 s7 pz p8 n8=>?_⟩⟩
  have s8:=af (o:=.lst zs) n8
  have J:=s6.trans (s7.trans s8)
  have a5:PaA (upd H7 p8 (.lst zs)) y U:=J _ _ aR
  refine ⟨y,p8,zs,nmW (bh x.ps y Y),cG (k:=y) a5,ϱ,.inl (SqL.of ae),Paired.mapP pz λ_ _ z=>cPa.keep s8.ts z,_,ϱ,?_⟩
  have no:y∉nmW (bh x.ps y Y):=by rw [gq,Ź ea];exact j.wt
  rw [show ∀i:Decidable (y∈nmW (bh x.ps y Y)),@decide _ i=false from λi=>Γ no]
  refine aU (kC _ _ (sq λnD kD=>?_))
  have g8:=g.same n J
  generalize (upd H7 p8 _)=H8 at J a5 g8 ⊢
  refine ⟨_,ϱ,b.A.l,b.A.dx,_,ϱ,g8.wo.si.ins,jz θ,b.p,b.A,d',ϱ,g8.sa,λq9 H9 s9 _ bw=>⟨_,ϱ,_,ϱ,q9,d'.cells,a1,wd,ns,ϱ,bw,j.ar,by rw [ce.1];exact j.ic,λb0 aZ=>kD _ _ (sq λnE kE=>?_)⟩⟩
  rw [ce.1]
  have L:=J.trans (s9.trans aZ)
  have G:=g.same n L
  have bd:b0 h.rw=some (.lst (c4.map V.ref)):=G.ow.co _ (ź _ j1)
  have bN:PaA b0 y U:=L _ _ aR
  refine ⟨_,ϱ,h.l,h.dx,_,ϱ,G.sh,iI θ,b.A.l,h,c4,v',ϱ,G.sh,bd,λq11 b1 bA as=>⟨_,ϱ,χ,λr2 b2=>⟨χ,λl2 dy=>⟨_,ϱ,ϱ,.inr ⟨_,ϱ,l2,_,_,ϱ,ϱ,ae,?_,?_,?_,λav dz=>?_⟩⟩⟩⟩⟩
  .split<;>decide
  .split<;>decide
  .show 1*_<=sizeLine
   split<;>decide
  have bP:=af (o:=.tup [.str "work",.ref U]) b2
  have bg:=af (o:=.lst [.ref r2]) dy
  have bi:=af (o:=.lst (List.replicate (if decide (V.int i=V.int 0)=true then (1:Int) else 0).toNat [V.ref r2]).flatten) dz
  have e:=bA.trans (bP.trans (bg.trans bi))
  have a6:=e _ _ bN
  have I:=c5.keep (CH:=CH) (CL:=CL) (cR (L.trans e))
  have b3:=hu.keep (L.trans e).ts
  have b4:=(L.trans e) _ _ ht
  have Z:=G.same n e
  have bS:=(bg.trans bi) _ _ (ae (H:=b1) (a:=r2) (o:=.tup [.str "work",.ref U]))
  have a7:=(bP.trans (bg.trans bi)) _ _ as
  have O:=ae (H:=upd (upd b1 r2 (.tup [.str "work",.ref U])) l2 (.lst [.ref r2])) (a:=av) (o:=.lst (List.replicate (if decide (V.int i=V.int 0)=true then (1:Int) else 0).toNat [V.ref r2]).flatten)
  generalize (upd (upd (upd b1 r2 _) l2 _) av _)=H14 at e a6 b3 b4 Z I bS a7 O ⊢
  have c0:∃xs:à (Str×Pa),wR (cT2 cStr cPa) K H14 xs (.ref q11)/\wR (cT2 cStr cPa) K H14 xs (.ref av):=by
   rw [show (aF x.an y).isSome=_ from e0] at I
   cases z:decide (V.int i=V.int 0) with
   | true =>
    rw [z] at I O
    rcases I with ⟨eo,_⟩ | ⟨eo,r,rfl,⟨pr,hr',hpr⟩,_,_⟩
    .cases eo
    .exact ⟨[("work",y)],⟨q11,_,ϱ,SqL.of a7,.cons ⟨r,_,_,ϱ,.inl hr',ϱ,cG (k:=y) hpr⟩ .nil⟩,⟨av,_,ϱ,SqL.of O,.cons ⟨r2,_,_,ϱ,.inl bS,ϱ,cG (k:=y) a6⟩ .nil⟩⟩
   | false =>
    rw [z] at I O
    rcases I with ⟨_,rfl,_,_⟩ | ⟨eo,_⟩
    .exact ⟨[],⟨q11,_,ϱ,SqL.of a7,.nil⟩,⟨av,_,ϱ,SqL.of O,.nil⟩⟩
    .cases eo
  obtain ⟨xs,l1,cF⟩:=c0
  refine ⟨xs,xs,l1,cF,_,ϱ,?_⟩
  rw [τ rfl]
  refine aU (kE _ _ ?_)
  have bl:H14 h.sn=some (.lst [u]):=Z.ow.co _ (ź _ j2)
  have bm:d'.en=[]:=ce.2.1.trans j.en
  refine ⟨_,ϱ,h.l,h.dx,_,ϱ,Z.sh,iI θ,b.p,b.A,h,d',[u],[(y.1,"did",U,t)],v',ϱ,Z.sh,bl,Z.sa,.cons b3 .nil,(by show 1<=900;decide),(by rw [bm];exact ϖ _),?_,λq15 e5 fa bB cb cc=>?_⟩
  .rcases I with ⟨_,_,ev,_⟩ | ⟨_,r,_,_,nw,_⟩
   .exact .inl ev
   .right;rw [bm];rw [j.en] at nw;exact nw
  have a8:=bB _ _ a6
  rw [bm] at cc
  refine ⟨_,ϱ,U,_,_,_,ϱ,ϱ,SqT.of a8,St.at0,_,ϱ,_,ϱ,_,ϱ,χ,λa2 m2=>⟨χ,λe0 m3=>⟨χ,λa3 m4=>⟨χ,λa4 m5=>⟨χ,λl5 m6=>?_⟩⟩⟩⟩⟩
  have w2:=af (o:=.tup [.int i,.int (dn (ck d.cells) wd ns a1).1]) m2
  have w3:=af (o:=.tup []) m3
  have w4:=af (o:=.tup [.str "did",.ref U,.ref a2,.ref e0]) m4
  have w5:=af (o:=.tup [.int y.1,.ref a3]) m5
  have w6:=af (o:=.lst [.ref a4]) m6
  have a0:=w2.trans (w3.trans (w4.trans (w5.trans w6)))
  cases cc with
  | cons pa' pc' =>
   cases pc'
   have d2:=pa'.keep a0.ts
   refine ⟨tW (a0 _ _ cb) ae (.cons (By (a0 _ _ a8) (a0 _ _ (bB _ _ b4)) d2 ⟨a4,a3,a2,U,.ref e0,ϱ,w6 _ _ ae,(w5.trans w6) _ _ ae,a0 _ _ a8,(w3.trans (w4.trans (w5.trans w6))) _ _ ae,e0,[],ϱ,(w4.trans (w5.trans w6)) _ _ ae,.nil⟩) .nil),?_⟩
   exact q Y d' _ _ ba (Z.same n (bB.trans a0)).drop ⟨ϱ,ϱ,ce,cz,.inl ⟨ea,ϱ,u1,u2⟩⟩
 .have g:=g3.trans g5
  have aR:PaA H5 y U:=g.ow.ts _ _ j.hy
  refine ⟨_,ϱ,_,ϱ,x.W.l,x.W.dx,_,ϱ,g.wo.wi,cW θ,x.W,b.home,b.many,b.A.l,_,ϱ,g.wo.wi,g.ls,(by show (bh x.ps y Y).length<=1000;omega),λq6 H6 dc s6 _ ab p6=>⟨q6,ϱ,⟨_,SqL.of ab⟩,pT ab p6 (by show (bh x.ps y Y).length<=900;omega) λzs H7 s7 pz p8 n8=>?_⟩⟩
  have s8:=af (o:=.lst zs) n8
  have J:=s6.trans (s7.trans s8)
  have a5:PaA (upd H7 p8 (.lst zs)) y U:=J _ _ aR
  refine ⟨y,p8,zs,nmW (bh x.ps y Y),cG (k:=y) a5,ϱ,.inl (SqL.of ae),Paired.mapP pz λ_ _ z=>cPa.keep s8.ts z,_,ϱ,?_⟩
  have d3:y∈nmW (bh x.ps y Y):=by rw [gq,ž (by rw [ea];decide)];exact Ψ _ (.head _)
  rw [show ∀i:Decidable (y∈nmW (bh x.ps y Y)),@decide _ i=true from λi=>τ d3]
  have g8:=g.same n J
  generalize (upd H7 p8 _)=H8 at J a5 g8 ⊢
  have bd:H8 h.rw=some (.lst []):=g8.ow.co _ (ź _ j1)
  refine cr ⟨_,ϱ,h.l,h.dx,_,ϱ,g8.sh,iI θ,b.A.l,h,[],.non,ϱ,g8.sh,bd,λq9 H9 s9 bw=>⟨χ,λcd cf=>⟨[],[],⟨q9,_,ϱ,SqL.of (af cf _ _ bw),.nil⟩,⟨cd,_,ϱ,SqL.of ae,.nil⟩,_,ϱ,?_⟩⟩⟩
  rw [τ rfl]
  have aZ:=s9.trans (af (o:=.lst []) cf)
  have G:=g8.same n aZ
  generalize (upd H9 cd _)=b0 at aZ G ⊢
  have bl:b0 h.sn=some (.lst []):=G.ow.co _ (ź _ j2)
  refine cr ⟨_,ϱ,h.l,h.dx,_,ϱ,G.sh,iI θ,b.p,b.A,h,d,[],[],.non,ϱ,G.sh,bl,G.sa,.nil,(by show 0<=900;decide),(by rw [j.en];exact ϖ _),.inl rfl,λq11 eb b1 bA as dA=>⟨χ,λdB b2=>?_⟩⟩
  cases dA
  refine ⟨[],[],⟨q11,_,ϱ,SqL.of (af b2 _ _ as),.nil⟩,⟨dB,_,ϱ,SqL.of ae,.nil⟩,?_⟩
  rw [τ rfl]
  exact q Y d _ _ ba (G.same n (bA.trans (af (o:=.lst []) b2))).drop ⟨ϱ,ϱ,⟨ϱ,ϱ,ϱ,ϱ⟩,Ł _,.inr ⟨ea,⟨wt,ϱ,ϱ,ϱ⟩,ι _⟩⟩
theorem pI(f:Pr->Bool):∀(r pre:à Pr),(cI (pre.filter f) (r.filter f)).Sublist (cI pre r)
 | [],_=>.slnil
 | x::r,pre=>by
  have ih:=pI f r (pre++[x])
  rw [Ű,List.filter_cons] at ih
  rw [List.filter_cons]
  show List.Sublist _ (if clear pre x=true then cI (pre++[x]) r else x::cI (pre++[x]) r)
  by_cases hx:f x=true
  .rw [Ź hx] at ih ⊢
   show List.Sublist (if clear (pre.filter f) x=true then cI (pre.filter f++[x]) (r.filter f) else x::cI (pre.filter f++[x]) (r.filter f)) _
   by_cases c:clear pre x=true
   .rw [Ź c,Ź (sj λa ha=>zE c a (Ş.mp ha).1)]
    exact ih
   .rw [ž c]
    split
    .exact .cons _ ih
    .exact .cons₂ _ ih
  .rw [ž hx] at ih ⊢
   rw [Ĳ,ţ] at ih
   split
   .exact ih
   .exact .cons _ ih
def pH(ps:à Pr)(y:Pa):(aN (bu ps y)).Sublist (aN ps):=by rw [jp,jp];exact pI _ ps []
abbrev frF(ps:à Pr)(y:Pa):Pr->Bool:=λx=>!decide (x.1=y)&&!decide (x.1∈(aN (bu ps y)).map (·.1))
def zd(ps:à Pr)(y:Pa):(nmW (bu ps y)).length+(jO ps y).length<=(nmW ps).length:=by
 unfold nmW jO
 rw [ν,ν,ν]
 have h1:=(pH ps y).filter λb=>decide (b.1∈nmW (bu ps y))
 rw [List.filter_eq_self.mpr λb h=>τ (ϑ.mpr ⟨b,h,ϱ⟩)] at h1
 have f:=h1.length_le
 have e:((aN ps).filter (frF ps y)).length<=((aN ps).filter λb=>!decide (b.1∈nmW (bu ps y))).length:=by
  rw [← İ,← İ]
  exact List.countP_mono_left λb _ h=>(Bool.and_eq_true_iff.mp h).2
 have d:=List.length_eq_countP_add_countP (λb:Pr=>decide (b.1∈nmW (bu ps y))) (l:=aN ps)
 rw [İ,İ] at d
 simp only [decide_eq_true_eq] at d
 simp only [← decide_not] at e
 show _+((aN ps).filter (frF ps y)).length<=_
 omega
theorem Eo{pe:à Pd}:∀{L:à Pr},(∀pr∈L,∃e,bT pe pr.1=some e)->(L.filterMap λpr=>bT pe pr.1).map Pd.y=L.map (·.1)
 | [],_=>rfl
 | pr::r,h=>by
  obtain ⟨e,he⟩:=h pr (.head _)
  rw [List.filterMap_cons_some (f:=λpr:Pr=>bT pe pr.1) he,ű,ű,Eo λz hz=>h z (.tail _ hz),(fJ he).2]
structure Jw(B:Nat)(qs:à Pd)(d:Sx)(x:Wx):Prop where
 nd:(nmW x.ps).Nodup
 wt:∀z∈nmW x.ps,∃e a',bT x.pe z=some e/\bT qs z=some ⟨z,a',e.i,e.hand,e.wd,e.ns⟩/\PdOk x d.cells.length e/\(aF x.an z).isNone=decide (V.int e.i=V.int 0)
 bw:d.wk.length+(nmW x.ps).length<=B
 bd:x.dr.length+(nmW x.ps).length<=B
 ba:x.an.length+(nmW x.ps).length<=B
 bp:x.ps.length<=B
def Jw.dd{B:Nat}{qs:à Pd}{d d':Sx}{x:Wx}(j:Jw B qs d x)(h1:d'.cells.length=d.cells.length)(h2:d'.wk=d.wk):Jw B qs d' x:=⟨j.nd,by rw [h1];exact j.wt,by rw [h2];exact j.bw,j.bd,j.ba,j.bp⟩
def Jw.free{B:Nat}{J:à Pd}{H:Hp}{b:Bx}{x g:Wx}{y:Pa}{o:à Pd}{d d':Sx}{u:û}{w:à V}{v':V}(j:Jw B J d x)(f:Ft K H b x g y o d d' u w v')(L:o.map Pd.y=jO x.ps y):Jw B J d' g:=by
 have sb:(nmW g.ps).Sublist (nmW x.ps):=by rw [f.ps];exact (pH x.ps y).map _
 have fl:=zd x.ps y
 have el:o.length=(jO x.ps y).length:=by rw [← L,ν]
 rw [← f.ps] at fl
 obtain ⟨l1,l2,l3⟩:=f.ln
 have lw:=f.wk
 have b1:=j.bw
 have b2:=j.bd
 have b3:=j.ba
 have b4:=j.bp
 refine ⟨sb.nodup j.nd,λz l=>?_,ω,ω,ω,?_⟩
 .obtain ⟨e,O,C,P,⟨_,Q,U,W,h,X⟩,Y⟩:=j.wt z (sb.subset l)
  have F:z≠y:=λq=>by
   rw [f.ps] at l
   obtain ⟨Z,r,rfl⟩:=ϑ.mp l
   have:=(Ş.mp (rF r)).2
   rw [τ q] at this
   cases this
  have G:z∉o.map Pd.y:=λq=>by
   rw [L] at q
   obtain ⟨Z,r,rfl⟩:=ϑ.mp q
   have:=(Bool.and_eq_true_iff.mp (Ş.mp r).2).2
   rw [f.ps] at l
   rw [show decide _=true from τ l] at this
   cases this
  obtain ⟨o1,D⟩:=f.ow z F G
  have I:=(fJ C).2
  have i:bT g.pe z=some e:=by rw [f.pe,ž λq=>q.elim F G];exact C
  refine ⟨e,O,i,P,⟨by rw [I];exact i,Q,by rw [f.ce.1];exact U,W,?_,X⟩,by rw [D];exact Y⟩
  rw [I] at h ⊢
  show (aF g.dr z=none/\aF g.an z=none/\_)\/∃a1 a2,aF g.dr z=_/\aF g.an z=_
  rw [o1,D]
  exact h
 .rw [f.ps]
  exact Λ (Ų _ _) b4
def LtS(H:Hp)(cs:ù)(e:Pd)(s:Ws):Prop:=∃za t,s=((e.y.1,("did":Str),za,t):Ws)/\PaA H e.y za/\H t=some (.tup [.int e.i,.int (dn (ck cs) e.wd e.ns e.hand).1])
theorem yR{H:Hp}{cs:ù}:∀{fr:à Pd} {lts:à V},Paired (LtD H cs) fr lts->∃ws,Paired (WsAt H) ws lts/\Paired (LtS H cs) fr ws
 | _,_,.nil=>⟨[],.nil,.nil⟩
 | _,_,.cons ⟨za,t,h1,h2,h3⟩ r=>by
  obtain ⟨ws,q1,q2⟩:=yR r
  exact ⟨_::ws,.cons h1 q1,.cons ⟨za,t,ϱ,h2,h3⟩ q2⟩
def CO{H:Hp}{cs:ù}{es:à (Pa×Str)}{f:à Pd}{g:à Ws}{us d:à V}(q1:Paired (LtS H cs) f g):Paired (LtAt K H es) g us->Paired (λ(e:Pd) v=>LwL K H es e.y e.i (dn (ck cs) e.wd e.ns e.hand).1 v) f d->Paired (λx y=>EqIs K 5 H x y true) us d:=by
 induction q1 generalizing us d with
 | nil=>intro a b;cases a;cases b;exact .nil
 | cons h r ih =>
  intro a b
  obtain ⟨q,t,e,j,o⟩:=h
  subst e
  cases a with
  | cons l r2 =>
   cases b with
   | cons z r3=>exact .cons (By j o l z) (ih r2 r3)
def LwR(H:Hp)(e:Pd)(v:V):Prop:=∃r pa,v=.ref r/\H r=some (.tup [.str "work",.ref pa])/\PaA H e.y pa
def Cd{H:Hp}{p:Pa}{f:à Pd}{d:û}{ys:à V}(q1:Paired (λ(e:Pd) r=>RxAt K H p r (.work e.y)) f d):Paired (LwR H) f ys->Paired (λx y=>EqIs K 3 H x y true) (d.map V.ref) ys:=by
 induction q1 generalizing ys with
 | nil=>intro b;cases b;exact .nil
 | cons h r ih =>
  intro b
  obtain ⟨o,h1,g⟩:=h
  cases b with
  | cons z r3 =>
   obtain ⟨q,i,e,j,l⟩:=z
   subst e
   exact .cons (jm (K:=K) (n:=2) (SqT.of h1) (SqT.of j) (.cons (eq_str 2 _) (.cons ((Bv g l).mono ζ) .nil))).1 (ih r3)
def LwL.keep{H H':Hp}{es:à (Pa×Str)}{y:Pa}{i v:Int}{z:V}(e:TSame H H')(h:LwL K H es y i v z):LwL K H' es y i v z:=let ⟨a4,a3,a2,za,nv,h1,h2,h3,h4,h5,h6⟩:=h;⟨a4,a3,a2,za,nv,h1,e _ _ h2,e _ _ h3,e _ _ h4,e _ _ h5,h6.keep e⟩
def LwR.keep{H H':Hp}{e:Pd}{v:V}(t:TSame H H')(h:LwR H e v):LwR H' e v:=let ⟨r,pa,h1,h2,h3⟩:=h;⟨r,pa,h1,t _ _ h2,t _ _ h3⟩
def ze{L:à Pr}{f:Pr->Bool}{g:Pr->Option Pd}{i:Nat}{b:Pr}(h:L[i]?=some b):((L.take (i+1)).filter f).filterMap g=((L.take i).filter f).filterMap g++([b].filter f).filterMap g:=by
 rw [Ţ,h,Ű,List.filterMap_append]
 rfl
structure En(qs:à Pd)(d d':Sx)(x x':Wx)(y:Pa)(o:Str):Prop where
 ps:x'.ps=bu x.ps y
 jw:Jw 20 qs d' x'
 en:d'.en=d.en++[(y,o)]
 cl:d'.cells.length=d.cells.length
 rc:kU d'
 eW:x'.W.l=x.W.l
inductive uW (C:Kd->é) (CS CH CL CV:é) (K:ä) (Pt:é) (vs:à V) (H:Hp) (Q:VK) (E:XK):Prop|mk b d x y ya o qa qs ea es:vs=[.ref (x:Wx).W.l,.ref (b:Bx).A.l,.ref ya,.str o,.ref qa,.ref ea]->b.Pt=Pt->Gs C CS CH CL CV K H b [] d x H [] d x->PaA H y ya->H qa=some (.dT (dP qs))->qa∉ad (stL b.p b.A d++wtL CL b x)->((∀e∈qs,H e.a=some (.tup [.int e.i,.int e.hand,.str (txt e.wd e.ns)])))->H ea=some (.lst es)->ea∉ad (stL b.p b.A d++wtL CL b x)->Paired (sPS K H) d.en es->d.en.length<=20->sN d.en y=none->((y≠b.p->decide (o=("done":Str))=false))->kU d->d.cells.length<=8->Jw 20 qs d x->(∀d' x' es' H',Gd C CS CH CL CV K (ea::ad (stL b.p b.A d++wtL CL b x)) H H' b [] d' x'->ea∉ad (stL b.p b.A d'++wtL CL b x')->H' ea=some (.lst es')->Paired (sPS K H') d'.en es'->En qs d d' x x' y o->Q (.bl true) H')->uW C CS CH CL CV K Pt vs H Q E
def sE(W A ya:é)(o:Str)(qa ea la h sa ra ta ca:é)(y12 y13 y14 y15 y16:Option V):L2.St:=[some (.ref W),some (.ref A),some (.ref ya),some (.str o),some (.ref qa),some (.ref ea),some (.ref la),some (.ref h),some (.ref sa),some (.ref ra),some (.ref ta),some (.ref ca),y12,y13,y14,y15,y16]
def Cw{Pt fI:é}{dI:ç}(F:Fun K "_law_ended" "_law_ended" bR f fd)(B:TxB mg)(D:TxD K CS)(T:TxV K CV)(DH:TxH K CH)(n:Nq C CS CH CL CV)(np:AI K=true)(MH:L2.Mk K CH fI)(hS:mg "Sheet"=some (.ref CH))(hT:FnOk P w K mg base CX0 1 fI dI ["self","stand"] (iM CH CL))(hY:Binds K dI ["self","stand"] [])
  (fP:GM P w K mg base CX0 6 CV "waiting" ["self"] (lp C CL CV K aN))(i0:GM P w K mg base CX0 1 CH "rows_told" ["self"] (mq CH))(i1:GM P w K mg base CX0 2 CH "letters_told" ["self"] (qA CS CH K))(GC:GM P w K mg base CX0 1 CS "cells_told" ["self"] (mr CS K))(GH:GF P w K mg base CX0 1 "_law_hand" ["_law_cells","_law_hand_here","_law_text"] (ml K))
  (fS:GM P w K mg base CX0 3 CH "row" ["self","row"] (mQ CS CH CL K))(i2:GM P w K mg base CX0 8 CV "ended" ["self","sheet","p"] (qC C CS CH CL CV K Pt)):FnOk P w K mg base CX0 9 f fd ["_law_works","_law_stand","_law_p","_law_outcome","_law_asked_here","_law_ends"] (uW C CS CH CL CV K Pt):=by
 refine F.oj sc__law_ended λlm A0 hA s H vs Q E hr h=>?_
 obtain ⟨b,d,x,y,Y,o,qa,qs,ea,es,rfl,gS,g0,hy,dc,h4,h5,di,h6,ek,len,en,ho,rc,kS,jw,q⟩:=h
 have nd:=sc__law_ended.nd
 have ha:Room (1+1) _:=hr.mono ζ
 have bp:=jw.bp
 have l8:=gc x.ps
 refine ⟨_,ah (pQ (iy:=6) nd rfl (Or.inl rfl) sb__law_ended_0 (λ_ _ _ _=>jD K rfl sb__law_ended_0.nd rfl rfl rfl rfl) rfl (bJ (pm0 fP (pv 0) T.cl hr)) (λ_ _ _ _=>cj) (λ_ _ _ _=>pv 0))
  (ah (aG (i:=7) nd rfl (Or.inl rfl) (bb MH hT ha rfl hS hY .nil be (ac (pv 1) ag)))
  (ah (aQ (pm fS (pv 7) DH.cl hr (ac (aL (ac aD (ac (pv 2) (ac (pv 3) (ac (aL ag) ag))))) ag)))
  (ah (aQ (pm i2 (pv 0) T.cl hr (ac (pv 7) (ac (pv 2) ag))))
  (ah (aQ (iu Ň ŏ Ŏ fh (pv 5) (ac (aL (ac (pv 2) (ac (pv 3) ag))) ag)))
  (ah (pQ (iy:=8) nd rfl (Or.inl rfl) sb__law_ended_1 (λ_ _ _ _=>jD K rfl sb__law_ended_1.nd rfl rfl rfl rfl) rfl (bJ (pm0 fP (pv 0) T.cl hr)) (λ_ _ _ _=>cj) (λ_ _ _ _=>pv 0))
  (ah (aG (i:=9) nd rfl (Or.inl rfl) (c7 (ac (aL (ac aD (ac (pv 2) (ac (pv 3) (ac (aL ag) ag))))) ag)))
  (ah (aG (i:=10) nd rfl (Or.inl rfl) (c7 ag))
  (ah (aG (i:=11) nd rfl (Or.inl rfl) (pm0 GC (pv 1) D.cl hr))
  (ah (gz ō rfl (bJ (pv 6)) (bU (i:=12) nd rfl (Or.inl rfl))
   (aj (aJ (PW.pt (gy (az (uc cPa (hun hr)) (pv 12) (pv 2) (aA _)) (fF (az (iQ cPa (hun hr)) (pv 12) (pv 8) rfl))))
    (ah (xO (dQ (cE hr) (pv 4) (pv 12) (λ_ _=>rfl)) (xQ (n:=3) rfl (ir (bU (i:=13) nd rfl (Or.inl rfl)) (ir (bU (i:=14) nd rfl (Or.inl rfl)) (ir (bU (i:=15) nd rfl (Or.inl rfl)) ve)))))
    (ah (aJ (az bK (pv 13) ai (aA _)) (aj (aQ (iu Ň ŏ Ŏ fh (pv 9) (ac (aL (ac aD (ac (pv 12) ag))) ag)))) aB)
    (ah (aG (i:=16) nd rfl (Or.inl rfl) (aL (ac aD (ac (pv 12) (ac (aL (ac (pv 13) (ac (pc GH hr (ac (pv 11) (ac (pv 14) (ac (pv 15) ag)))) ag))) (ac (aP cQ rfl B.tuple ĳ (ac (aK (rm (R:=λH=>sPS K H) uS (λe h=>h.keep e) (λok q r=>q.ent ok r) (hun (c:=3) hr)) rfl B.sorted PyProof.Rows.boot_sorted (ac (pv 5) ag)) ag)) ag))))))
    (aj (aQ (iu Ň ŏ Ŏ fh (pv 10) (ac (aL (ac (ay (r:=a9 K) aC (pv 12) ai (λ_ _=>rfl)) (ac (pv 16) ag))) ag))))))) aB)))
  (aj (aw (gD (bq (ue 4 (hun (c:=3) hr)) (pm0 i0 (pv 7) DH.cl hr) (pv 9) (aA _)) (gD (bq (ue 6 (hun (c:=5) hr)) (pm0 i1 (pv 7) DH.cl hr) (pv 10) (aA _)) (fX (bq (iQ cPa (hun hr)) (pv 2) (pv 8) rfl))))))))))))))),?_⟩
 have gM:=g0.more (a:=ea)
 refine sq λnA kA=>⟨_,ϱ,x.W.l,x.W.dx,_,ϱ,g0.wo.wi,cW θ,x.W,b.home,b.many,b.A.l,_,ϱ,g0.wo.wi,g0.ls,Λ bp ζ,λq1 H1 lq s1 _ cc p1=>⟨q1,ϱ,⟨_,SqL.of cc⟩,pT cc p1 (Λ bp ζ) λzl H2 O bB la n2=>kA _ _ (sq λnB kB=>?_)⟩⟩
 have s3:=af (o:=.lst zl) n2
 have bS:=s1.trans (O.trans s3)
 have cv:(upd H2 la (.lst zl)) la=some (.lst zl):=ae
 have hd:=(gM.same n (s1.trans O)).ow.free n2
 have g3:=gM.same n bS
 replace bB:=Paired.mapP bB λ_ _ z=>cPa.keep s3.ts z
 generalize (upd H2 la _)=H3 at bS cv g3 bB ⊢
 refine ⟨_,ϱ,λl dx nl hD lw=>⟨l,dx,b.A.l,ϱ,ae,λh H4 eh o4=>⟨ϱ,kB _ _ (sq λnC kC=>?_)⟩⟩⟩
 have ob:=o4.born (jI nl hD) nl
 subst eh
 have g4:=g3.sheet n ob
 have k4:=(g3.self iB).sheet n ob
 refine ⟨_,ϱ,h.l,h.dx,_,ϱ,g4.sh,iI θ,_,ϱ,_,ϱ,χ,λte hE=>⟨χ,λr fi=>?_⟩⟩
 have dp:=(af (o:=.tup []) hE).trans (af (o:=.tup [.str "end",.ref Y,.str o,.ref te]) fi)
 have cx:=af (o:=.tup [.str "end",.ref Y,.str o,.ref te]) fi _ _ (ae (H:=H4) (a:=te) (o:=.tup []))
 have ds:(upd (upd H4 te (.tup [])) r (.tup [.str "end",.ref Y,.str o,.ref te])) r=some (.tup [.str "end",.ref Y,.str o,.ref te]):=ae
 have g6:=g4.same n dp
 have k6:=k4.same n dp
 generalize (upd (upd H4 te _) r _)=H6 at dp cx ds g6 k6 ⊢
 have hh:RxAt K H6 b.p r (.fin y o):=⟨Y,.ref te,ds,g6.ow.ts _ _ hy,ho⟩
 refine ⟨b.p,b.A,h,d,[],[],.non,r,.fin y o,wtL CL b x,ϱ,(g6.self fK).ow,g6.wo.si,hh,⟨λc hc=>?_,(λ_ z=>by cases z),(λ_ _ z=>by cases z;exact en),ω,by have:=jw.bw;omega⟩,(by show 0<=900;decide),λv' H7 o7 hF nw=>kC _ _ (sq λnD kD=>?_)⟩
 .have dt:c∈if o="done"/\d.rd.isSome=true then d.rc else []:=hc
  split at dt
  .exact rc c dt
  .cases dt
 have t7:Gs C CS CH CL CV K H6 b (shL CH b.A.l h [] [] .non) d x H7 (shL CH b.A.l h [r] [] v') (d.kp r (.fin y o)) x:=⟨o7,(g6.wo.im n o7.im).wsi hF⟩
 have g7:=g6.trans t7
 have k7:=k6.trans t7
 have c0:(d.kp r (.fin y o)).cells.length=d.cells.length:=qm _ _
 have b0:(d.kp r (.fin y o)).en=d.en++[(y,o)]:=rfl
 have j7:Jw 20 qs (d.kp r (.fin y o)) x:=jw.dd c0 rfl
 have er:kU (d.kp r (.fin y o)):=by unfold kU;rw [c0];exact rc
 have hi:PaA H7 y Y:=g7.ow.ts _ _ hy
 generalize d.kp r (.fin y o)=d1 at t7 g7 k7 c0 b0 j7 er nw ⊢
 obtain ⟨fr,dk⟩:∃fr,((aN x.ps).filter (frF x.ps y)).filterMap (λj=>bT x.pe j.1)=fr:=⟨_,ϱ⟩
 have all:∀j∈(aN x.ps).filter (frF x.ps y),∃e,bT x.pe j.1=some e:=λj hp=>let ⟨e,_,h,_⟩:=jw.wt j.1 (ϑ.mpr ⟨j,(Ş.mp hp).1,rfl⟩);⟨e,h⟩
 have c3:fr.map Pd.y=jO x.ps y:=by rw [← dk];exact Eo all
 have hj:fr.length<=20:=by
  have h1:=zd x.ps y
  have h2:fr.length=(jO x.ps y).length:=by rw [← c3,ν]
  have:=jw.bw
  omega
 have hk:(fr.map Pd.y).Nodup:=by rw [c3];exact (List.filter_sublist.map _).nodup jw.nd
 have hl:∀e∈fr,e.y≠y/\PdOk x d1.cells.length e:=λe he=>by
  rw [← dk] at he
  obtain ⟨j,hp,h1⟩:=ė.mp he
  obtain ⟨h2,h3⟩:=Ş.mp hp
  obtain ⟨e',a',e1,_,e3,_⟩:=j7.wt j.1 (ϑ.mpr ⟨j,h2,ϱ⟩)
  rw [h1] at e1
  cases e1
  refine ⟨λz=>?_,e3⟩
  have:=(Bool.and_eq_true_iff.mp h3).1
  rw [τ ((fJ h1).2.symm.trans z)] at this
  cases this
 have b1:=j7.bw
 have b2:=j7.bd
 have b3:=j7.ba
 refine ⟨_,ϱ,x.W.l,x.W.dx,_,ϱ,g7.wo.wi,cW θ,_,ϱ,_,ϱ,b,h,d1,[r],[],v',y,Y,x,fr,ϱ,gS,g7.self fK,hi,ω,ω,ω,(by rw [b0,Ž];show d.en.length+1<=60;omega),ω,ω,(by show 1<=50;decide),(by show 0<=50;decide),hj,c3,hk,hl,nw,λx' fn fp v2 d2 H8 g8 U=>kD _ _ (sq λnE kE=>?_)⟩
 have et:=g7.trans g8
 have k8:=k7.trans g8
 have j8:=j7.free U c3
 obtain ⟨eo,_⟩:=k8.out cv hd
 obtain ⟨aS,cm⟩:=k8.out (bS _ _ di) h6
 obtain ⟨ep,_⟩:=k8.out (bS _ _ dc) h4
 have dz:TSame H H8:=et.ow.ts
 have eu:TSame H3 H8:=k8.ow.ts
 have ev:TSame H6 H8:=t7.ow.ts.trans g8.ow.ts
 have lc:=ek.len
 refine ⟨_,ϱ,.inl ⟨ϱ,_,SqL.of aS⟩,_,ϱ,_,ϱ,χ,λt9 n9=>⟨ea,es,_,ϱ,ϱ,af n9 _ _ aS,Š (show es.length<=20 by omega) ζ,kE _ _ (sq λnF kF=>?_)⟩⟩
 have s9:=af (o:=.tup [.ref Y,.str o]) n9
 have cz:=s9 _ _ aS
 have b4:=(et.same n s9).ext n (bn (o:=.lst (es++[.ref t9]))) cz id cm (.inl (.head _))
 have tu:=fQ (o':=.lst (es++[.ref t9])) cz
 have a8:TSame H8 _:=s9.ts.trans tu
 have b5:(upd (upd H8 t9 (.tup [.ref Y,.str o])) ea (.lst (es++[.ref t9]))) la=some (.lst zl):=by rw [am (Ne.symm (aq ((s1.trans O) _ _ di) n2))];exact s9 _ _ eo
 have b6:(upd (upd H8 t9 (.tup [.ref Y,.str o])) ea (.lst (es++[.ref t9]))) qa=some (.dT (dP qs)):=by
  rw [am λz=>by rw [z,di] at dc;cases dc]
  exact s9 _ _ ep
 have bg:(upd (upd H8 t9 (.tup [.ref Y,.str o])) ea (.lst (es++[.ref t9]))) ea=some (.lst (es++[.ref t9])):=ae
 have bi:Paired (sPS K (upd (upd H8 t9 (.tup [.ref Y,.str o])) ea (.lst (es++[.ref t9])))) d2.en (es++[.ref t9]):=by
  rw [U.ce.2.1,b0]
  exact (Paired.mapP ek λ_ _ z=>z.keep (dz.trans a8)).app (.cons ⟨t9,Y,ϱ,tu _ _ ae,(dz.trans a8) _ _ hy⟩ .nil)
 generalize (upd (upd H8 t9 _) ea _)=H10 at b4 a8 b5 b6 bg bi ⊢
 have jn:d2.en.length<=21:=by rw [U.ce.2.1,b0,Ž];show d.en.length+1<=21;omega
 have eA:=j8.bp
 refine ⟨_,ϱ,x'.W.l,x'.W.dx,_,(by rw [U.eW]),b4.wo.wi,cW θ,x'.W,b.home,b.many,b.A.l,_,(by rw [U.eW];rfl),b4.wo.wi,b4.ls,Λ eA ζ,λq11 ma kk hH _ d4 hI=>⟨q11,ϱ,⟨_,SqL.of d4⟩,pT d4 hI (Λ eA ζ) λzs cd hK bG sa hL=>kF _ _ (sq λnG kG=>?_)⟩⟩
 have eD:=af (o:=.lst zs) hL
 refine ⟨_,ϱ,_,ϱ,χ,λbI m1=>⟨χ,λr0 m2=>⟨χ,λra m3=>kG _ _ (sq λnH kH=>?_)⟩⟩⟩
 have dA:=af (o:=.tup []) m1
 have c4:=af (o:=.tup [.str "end",.ref Y,.str o,.ref bI]) m2
 have I:=hH.trans (hK.trans (eD.trans (dA.trans c4)))
 have dB:=(dA.trans c4) _ _ (ae (H:=cd) (a:=sa) (o:=.lst zs))
 have cF:=c4 _ _ (ae (H:=upd cd sa (.lst zs)) (a:=bI) (o:=.tup []))
 have eH:=ae (H:=upd (upd cd sa (.lst zs)) bI (.tup [])) (a:=r0) (o:=.tup [.str "end",.ref Y,.str o,.ref bI])
 replace bG:=Paired.mapP bG λ_ _ z=>cPa.keep (eD.trans (dA.trans c4)).ts z
 generalize (upd (upd (upd cd sa _) bI _) r0 _)=H15 at I dB cF eH bG m3 ⊢
 have dC:=b4.same n I
 have X:TSame H8 H15:=a8.trans I.ts
 have dG:=ev.trans X
 have a5:=dz.trans X
 have bl:=I _ _ b5
 have dK:=I _ _ b6
 have bm:=I _ _ bg
 have bt:=Paired.mapP bi λ_ _ z=>z.keep I.ts
 have dN:=Paired.mapP bB λ_ _ z=>cPa.keep (eu.trans X) z
 refine ⟨χ,λta m4=>kH _ _ (sq λnI kI=>?_)⟩
 have eI:=(af (o:=.lst [.ref r0]) m3).trans (af (o:=.lst []) m4)
 have eL:=dC.same n eI
 have hm:=((Ow.mk0 (CH:=CH) (CL:=CL) (H:=H15) (L:=[]) (λ_ h=>nomatch h) ĉ (λ_ h=>nomatch h)).new m3 (.lst [.ref r0])).new m4 (.lst [])
 refine ⟨_,ϱ,b.A.l,b.A.dx,_,ϱ,eL.wo.si.ins,jz θ,b.p,b.A,d2,ϱ,eL.sa,λca mk fB hM hN=>kI _ _ (sq λnJ kJ=>?_)⟩
 have hn:=hm.add hM fB hN
 have eP:=bB.len
 rw [ν] at eP
 refine ⟨_,ϱ,la,ϱ,⟨_,SqL.of (fB _ _ (eI _ _ bl))⟩,?_⟩
 refine jP (xs:=zl) (λi σ H'=>∃ys G y12 y13 y14 y15 y16,σ=sE x.W.l b.A.l Y o qa ea la h.l sa ra ta ca y12 y13 y14 y15 y16/\Ow CH CL [] H15 H' [(ra,.lst (.ref r0::ys)),(ta,.lst G),(ca,.lst (d2.cells.map V.int))]/\Paired (LwR H') (((((aN x.ps).take i).filter (frF x.ps y)).filterMap λj=>bT x.pe j.1).filter λe=>(aF x.an e.y).isNone) ys/\Paired (λ(e:Pd) v=>LwL K H' (cu ltE d2.en) e.y e.i (dn (ck d2.cells) e.wd e.ns e.hand).1 v) ((((aN x.ps).take i).filter (frF x.ps y)).filterMap λj=>bT x.pe j.1) G)
  ⟨[],[],_,_,_,_,_,ϱ,hn,.nil,.nil⟩ (λi σ H' _ z=>?_) ?_ ?_
 .obtain ⟨_,_,_,_,_,_,_,_,ow,_⟩:=z
  exact SqL.of (ow.fr _ _ (λz=>nomatch z) bl)
 .rintro i u σ H' hu ⟨ys,G,y12,y13,y14,y15,y16,rfl,ow,py,pz⟩
  have sm:Same H15 H':=λc o' e=>ow.fr c o' (λz=>nomatch z) e
  obtain ⟨z,ez,rz⟩:=dN.get hu
  rw [Ż] at ez
  obtain ⟨j,dl,rfl⟩:=ų.mp ez
  obtain ⟨za,rfl,aZ⟩:=Bu np (cPa.keep sm.ts rz)
  have st:=ze (f:=frF x.ps y) (g:=λj=>bT x.pe j.1) dl
  have hq:PaA H' y Y:=sm _ _ (a5 _ _ hy)
  refine ⟨_,ϱ,_,ϱ,j.1,y,cG (k:=j.1) aZ,cG (k:=y) hq,_,ϱ,?_⟩
  by_cases c1:j.1=y
  .have ef:frF x.ps y j=false:=by show (!decide _&&_)=false;rw [τ c1];rfl
   rw [Ę (by rw [ef];decide),Ĳ,List.filterMap_nil,ţ] at st
   rw [τ c1]
   exact aU (aU ⟨ys,G,_,_,_,_,_,ϱ,ow,by rw [st];exact py,by rw [st];exact pz⟩)
  rw [Γ c1]
  refine cr ⟨_,ϱ,_,ϱ,j.1,sa,zs,nmW x'.ps,cG (k:=j.1) aZ,ϱ,.inl (SqL.of (sm _ _ dB)),Paired.mapP bG λ_ _ z=>cPa.keep sm.ts z,_,ϱ,?_⟩
  by_cases c2:j.1∈nmW x'.ps
  .have ef:frF x.ps y j=false:=by
    rw [U.ps] at c2
    show (!decide _&&!decide _)=false
    rw [Γ c1,show decide _=true from τ c2]
    rfl
   rw [Ę (by rw [ef];decide),Ĳ,List.filterMap_nil,ţ] at st
   rw [show ∀i:Decidable (j.1∈nmW x'.ps),@decide _ i=true from λi=>τ c2]
   exact aU ⟨ys,G,_,_,_,_,_,ϱ,ow,by rw [st];exact py,by rw [st];exact pz⟩
  rw [show ∀i:Decidable (j.1∈nmW x'.ps),@decide _ i=false from λi=>Γ c2]
  have ef:frF x.ps y j=true:=by
   rw [U.ps] at c2
   show (!decide _&&!decide _)=true
   rw [Γ c1,show decide _=false from Γ c2]
   rfl
  obtain ⟨e,a',e1,e2,⟨_,ar,ic,_⟩,e4⟩:=j7.wt j.1 (ϑ.mpr ⟨j,Ŵ dl,ϱ⟩)
  have ey:=(fJ e1).2
  rw [List.filter_cons_of_pos ef,Ĳ,List.filterMap_cons_some (f:=λj:Pr=>bT x.pe j.1) e1,List.filterMap_nil] at st
  have dg:DGet H' qa (.ref za) (some (.ref a')):=by
   have:=DGet.t (k:=pk j.1) (sm _ _ dK) aZ
   rw [gr,e2] at this
   exact this
  have hs:=sm _ _ (a5 _ _ (h5 _ (fJ e2).1))
  have le:i<(aN x.ps).length:=(ż.mp dl).1
  have f0:G.length<=20:=by
   rw [← pz.len]
   refine Λ (List.length_filterMap_le _ _) (Λ (Ų _ _) ?_)
   rw [ĺ]
   omega
  have ht:ys.length<=20:=by
   rw [← py.len]
   refine Λ (Ų _ _) ?_
   rw [pz.len]
   exact f0
  refine cr (sq λnX kX=>⟨_,ϱ,_,ϱ,qa,_,ϱ,dg,a',_,ϱ,SqT.of hs,ϱ,_,_,ϱ,_,_,ϱ,_,_,ϱ,ϱ,kX _ _ (sq λnY kY=>?_)⟩)
  have go:∀cf H2,Same H15 H2->Ow CH CL [] H15 H2 [(ra,.lst (.ref r0::cf)),(ta,.lst G),(ca,.lst (d2.cells.map V.int))]->TSame H' H2->Paired (LwR H2) ((((((aN x.ps).take i).filter (frF x.ps y)).filterMap λj=>bT x.pe j.1)++[e]).filter λe=>(aF x.an e.y).isNone) cf->nY (sE x.W.l b.A.l Y o qa ea la h.l sa ra ta ca (some (.ref za)) (some (.int e.i)) (some (.int e.hand)) (some (.str (txt e.wd e.ns))) y16) H2:=λcf H2 fC fG fN hP=>kY _ _ (sq λnZ kZ=>by
   have cZ:=fN _ _ aZ
   refine ⟨_,ϱ,_,ϱ,_,ϱ,_,ϱ,_,ϱ,ca,d2.cells,e.hand,e.wd,e.ns,ϱ,fG.co _ j2,ar,by rw [U.ce.1];exact ic,λH3 s3=>⟨χ,λa2 w1=>⟨_,ϱ,ea,_,d2.en,ϱ,SqL.of (af w1 _ _ (s3 _ _ (fC _ _ bm))),Paired.mapP bt (λ_ _ z=>z.keep (fC.trans (s3.trans (af w1))).ts),ω,λl9 Z w2 p9=>⟨l9,Z,ϱ,.inl ⟨SqL.of ae,λa6 w3=>⟨χ,λa3 w4=>kZ _ _ ?_⟩⟩⟩⟩⟩⟩
   have v1:=af (o:=.tup [.int e.i,.int (dn (ck d2.cells) e.wd e.ns e.hand).1]) w1
   have v2:=af (o:=.lst Z) w2
   have v3:=af (o:=.tup Z) w3
   have v4:=af (o:=.tup [.str "did",.ref za,.ref a2,.ref a6]) w4
   have f1:=v3.trans v4
   have f2:=v2.trans f1
   have cb:=s3.trans (v1.trans f2)
   have f3:=f2 _ _ (ae (H:=H3) (a:=a2) (o:=.tup [.int e.i,.int (dn (ck d2.cells) e.wd e.ns e.hand).1]))
   have d0:=v4 _ _ (ae (H:=upd (upd H3 a2 (.tup [.int e.i,.int (dn (ck d2.cells) e.wd e.ns e.hand).1])) l9 (.lst Z)) (a:=a6) (o:=.tup Z))
   have f4:=ae (H:=upd (upd (upd H3 a2 (.tup [.int e.i,.int (dn (ck d2.cells) e.wd e.ns e.hand).1])) l9 (.lst Z)) a6 (.tup Z)) (a:=a3) (o:=.tup [.str "did",.ref za,.ref a2,.ref a6])
   have f5:=Paired.mapP p9 λ_ _ z=>z.keep f1.ts
   have o4:=fG.same cb
   generalize (upd (upd (upd (upd H3 a2 _) l9 _) a6 _) a3 _)=H4 at cb f3 d0 f4 f5 o4 ⊢
   refine ⟨_,ϱ,.inl ⟨ϱ,_,SqL.of (o4.co _ j1)⟩,_,ϱ,za,_,_,_,ϱ,ϱ,SqT.of (cb _ _ cZ),St.at0,_,ϱ,χ,λa4 w5=>⟨ta,G,_,ϱ,ϱ,af w5 _ _ (o4.co _ j1),Š f0 ζ,?_⟩⟩
   have v5:=af (o:=.tup [.int j.1.1,.ref a3]) w5
   have o5:=(o4.same v5).up 1 (.lst (G++[.ref a4])) rfl
   have fa:=fQ (o':=.lst (G++[V.ref a4])) (v5 _ _ (o4.co _ j1))
   have J:=v5.ts.trans fa
   have e5:=cb.ts.trans J
   refine ⟨cf,G++[V.ref a4],_,_,_,_,_,ϱ,o5,by rw [st];exact Paired.mapP hP λ_ _ z=>z.keep e5,?_⟩
   rw [st]
   refine (Paired.mapP pz λ_ _ z=>z.keep (fN.trans e5)).app (.cons ?_ .nil)
   refine ⟨a4,a3,a2,za,.ref a6,ϱ,?_,J _ _ f4,?_,J _ _ f3,a6,Z,ϱ,J _ _ d0,Paired.mapP f5 λ_ _ z=>z.keep J⟩
   .rw [ey]
    exact fa _ _ ae
   .rw [ey]
    exact e5 _ _ cZ)
  refine ⟨_,ϱ,ϱ,_,ϱ,bD (λk=>?_) (λk=>?_)⟩
  .refine ⟨_,ϱ,.inl ⟨ϱ,_,SqL.of (ow.co _ j0)⟩,_,ϱ,χ,λr2 w1=>⟨ra,_,_,ϱ,ϱ,af w1 _ _ (ow.co _ j0),Š (ć ht) ζ,?_⟩⟩
   have v1:=af (o:=.tup [.str "work",.ref za]) w1
   have J:=fQ (o':=.lst (.ref r0::ys++[.ref r2])) (v1 _ _ (ow.co _ j0))
   have o2:=(ow.same v1).up 0 (.lst (.ref r0::(ys++[.ref r2]))) rfl
   refine go (ys++[.ref r2]) _ (λc o' e=>o2.fr c o' (λz=>nomatch z) e) o2 (v1.ts.trans J) ?_
   rw [Ű,List.filter_cons_of_pos (by rw [ey,e4];exact k),Ĳ]
   refine (Paired.mapP py λ_ _ z=>z.keep (v1.ts.trans J)).app (.cons ⟨r2,za,ϱ,J _ _ ae,?_⟩ .nil)
   rw [ey]
   exact (v1.ts.trans J) _ _ aZ
  .refine go ys H' sm ow (λ_ _ z=>z) ?_
   rw [Ű,Ę (by rw [ey,e4];exact k),Ĳ,ţ]
   exact py
 .rintro σ H' ⟨ys,G,y12,y13,y14,y15,y16,rfl,ow,py,pz⟩
  rw [← eP,Ŭ,dk] at py pz
  have sm:Same H15 H':=λc o' e=>ow.fr c o' (λz=>nomatch z) e
  have g:=dC.same n sm
  have hw:H' h.rw=some (.lst (([r]++fn).map V.ref)):=g.ow.co _ (ź _ j1)
  have ap:=X.trans sm.ts
  have fc:=dG.trans sm.ts
  refine kJ _ _ ⟨_,ϱ,h.l,h.dx,_,ϱ,g.sh,iI θ,b.A.l,h,[r]++fn,v2,ϱ,g.sh,hw,λq1 H2 O cc=>⟨_,ϱ,?_,_,ϱ,cr ?_⟩⟩
  .refine tW cc (O _ _ (ow.co _ j0)) (.cons ?_ ?_)
   .have ee:=(jm (K:=K) (n:=0) (SqT.of (O _ _ (fc _ _ cx))) (SqT.of (O _ _ (sm _ _ cF))) .nil).1
    exact (jm (K:=K) (n:=2) (SqT.of (O _ _ (fc _ _ ds))) (SqT.of (O _ _ (sm _ _ eH))) (.cons (eq_str 2 _) (.cons (A2 2) (.cons (eq_str 2 _) (.cons (ee.mono ζ) .nil))))).1
   .exact Cd (p:=b.p) (Paired.mapP U.rw λ_ _ z=>let ⟨pa,h1,h2⟩:=z;⟨pa,O _ _ (ap _ _ h1),O _ _ (ap _ _ h2)⟩) (Paired.mapP py λ_ _ z=>z.keep O.ts)
  have g2:=g.same n O
  have hx:H2 h.sn=some (.lst ([]++fp)):=g2.ow.co _ (ź _ j2)
  obtain ⟨ws,w1,w2⟩:=yR U.lt
  have lk:=w2.len
  refine ⟨_,ϱ,h.l,h.dx,_,ϱ,g2.sh,iI θ,b.p,b.A,h,d2,fp,ws,v2,ϱ,g2.sh,hx,g2.sa,Paired.mapP w1 (λ_ _ z=>z.keep (ap.trans O.ts)),ω,ω,.inr (by rw [U.ce.2.1];exact U.nw.keep (ap.trans O.ts)),λq3 mP H3 s3 hQ p3=>⟨_,ϱ,tW hQ (s3 _ _ (O _ _ (ow.co _ j1))) (CO (cs:=d2.cells) (Paired.mapP w2 λ_ _ z=>?_) p3 (Paired.mapP pz λ_ _ z=>z.keep (O.trans s3).ts)),_,ϱ,cr ?_⟩⟩
  .obtain ⟨zz,t,h1,h2,h3⟩:=z
   rw [U.ce.1]
   exact ⟨zz,t,h1,(ap.trans (O.trans s3).ts) _ _ h2,(ap.trans (O.trans s3).ts) _ _ h3⟩
  have hz:=O.trans s3
  have sA:=sm.trans hz
  refine ⟨_,ϱ,_,ϱ,y,sa,zs,nmW x'.ps,cG (k:=y) (sA _ _ (a5 _ _ hy)),ϱ,.inl (SqL.of (sA _ _ dB)),Paired.mapP bG (λ_ _ z=>cPa.keep sA.ts z),?_⟩
  have no:y∉nmW x'.ps:=λm=>by
   rw [U.ps] at m
   obtain ⟨j,hp,q'⟩:=ϑ.mp m
   have:=(Ş.mp (rF hp)).2
   rw [τ q'] at this
   cases this
  rw [show ∀i:Decidable (y∈nmW x'.ps),@decide _ i=false from λi=>Γ no]
  exact q d2 x' _ H3 (dC.same n sA).drop (λm=>cm (by unfold ad at m ⊢;rw [List.map_append];exact List.mem_append_right _ m)) (sA _ _ bm) (Paired.mapP bt λ_ _ z=>z.keep sA.ts) ⟨U.ps,j8,U.ce.2.1.trans b0,by rw [U.ce.1];exact c0,(by unfold kU;rw [U.ce.2.2.2,U.ce.1];exact er),U.eW⟩
section
variable {p y:Pa}{B:Nat}{L:à Pa}{qs:à Pd}{d d':Sx}{x x':Wx}{i hand:Int}{wd:Wd}{ns:ù}{ak:List (Key×V)}{lk:Lk}
structure Jq(p:Pa)(B:Nat)(L:à Pa)(qs:à Pd)(d:Sx)(x:Wx):Prop where
 jw:Jw B qs d x
 sub:∀z∈nmW x.ps,z∈qs.map Pd.y
 els:∀z,z≠p->z∉L->aF x.dr z=none/\aF x.an z=none/\bT x.pe z=none
 psm:∀pr∈x.ps,pr.1=p\/pr.1∈L
 pl:x.pe.length<=B
def fo(xs:à Pd)(e:Pd)(z:Pa):bT (xs++[e]) z=(bT xs z).or (if e.y=z then some e else none):=by
 unfold bT
 rw [List.find?_append]
 by_cases h:e.y=z
 .rw [if_pos h,List.find?_cons_of_pos (by simpa using h)]
 .rw [if_neg h,List.find?_cons_of_neg (by simpa using h)]
  rfl
def Jq.more(j:Jq p B L qs d x)(e:Pd):Jq p B L (qs++[e]) d x :=
 ⟨⟨j.jw.nd,λz hz=>let ⟨f,a,h1,h2,h3⟩:=j.jw.wt z hz;⟨f,a,h1,by rw [fo,h2];rfl,h3⟩,j.jw.bw,j.jw.bd,j.jw.ba,j.jw.bp⟩,λz hz=>by rw [ſ];exact ź _ (j.sub z hz),j.els,j.psm,j.pl⟩
def PdOk.keep{n:Nat}{e:Pd}(h:PdOk x n e)(i:bT x'.pe e.y=some e)(j:aF x'.dr e.y=aF x.dr e.y)(l:aF x'.an e.y=aF x.an e.y):PdOk x' n e:=by
 obtain ⟨_,b,d,ak,f,g⟩:=h
 refine ⟨i,b,d,ak,?_,g⟩
 show (aF x'.dr e.y=none/\aF x'.an e.y=none/\_)\/∃a1 a2,aF x'.dr e.y=_/\aF x'.an e.y=_
 rw [j,l]
 exact f
def Jq.done(j:Jq p B L qs d x)(F:y∉qs.map Pd.y)(o:AskO x y i hand wd ns ak lk d d' x')(G:i6 x.ps y lk=true):Jq p (B+1) (L++[y]) qs d' x'/\y∉nmW x'.ps/\x'.pe=x.pe/\(∃a,aF x'.dr y=some ⟨y,a,aV [] (aV [] (chK (dn (ck d.cells) wd ns hand).2))⟩)/\∃a v,aF x'.an y=some ⟨y,a,bZ ak (.inl i) (.int v)⟩:=by
 obtain ⟨_,b,u1,f⟩:=o.or.resolve_right λz=>by rw [G] at z;cases z.1
 have en:nmW x'.ps=nmW x.ps:=by rw [o.ps,gq,Ź G]
 have l1:=u1.len
 have K:=f.len
 have O:=o.wk
 have P:=iU x.ps y lk
 have Q:=j.jw.bw
 have U:=j.jw.bd
 have W:=j.jw.ba
 have X:=j.jw.bp
 have Y:=j.pl
 refine ⟨⟨⟨en▸j.jw.nd,λz g=>?_,by rw [en];omega,by rw [en];omega,by rw [en];omega,by rw [o.ps];omega⟩,λz g=>j.sub z (en▸g),λz I l=>?_,λJ D=>?_,by rw [b];omega⟩,λz=>F (j.sub y (en▸z)),b,u1.here,let ⟨a,h⟩:=f.here;⟨a,_,h⟩⟩
 .rw [en] at g
  obtain ⟨e,a,h1,r,u,H⟩:=j.jw.wt z g
  have w:z≠y:=λq=>F (q▸j.sub z g)
  have C:=(fJ h1).2
  refine ⟨e,a,by rw [b];exact h1,r,by rw [o.ce.1];exact u.keep (by rw [b,C];exact h1) (u1.els _ (C▸w)) (f.els _ (C▸w)),by rw [f.els _ w];exact H⟩
 .rw [Ŷ,List.mem_singleton] at l
  obtain ⟨h1,r,u⟩:=j.els z I λq=>l (.inl q)
  exact ⟨(u1.els z λq=>l (.inr q)).trans h1,(f.els z λq=>l (.inr q)).trans r,by rw [b];exact u⟩
 .rw [o.ps] at D
  rcases rq D with h | h
  .exact (j.psm J h).imp id λq=>ź _ q
  .exact .inr (by rw [h];exact Ψ _ (.head _))
def Jq.wait(j:Jq p B L qs d x)(ny:y∉qs.map Pd.y)(wt:y∉nmW x.ps)(G:bT x.pe y=none)(H:Own x y [] ak)(I:ak.length<=50)(ar:Ar wd ns)(ic:inC d.cells.length wd ns)(h0:(aF x.an y).isSome=!decide (V.int i=V.int 0))(o:AskO x y i hand wd ns ak lk d d' x')(J:i6 x.ps y lk=false)(O:é):Jq p (B+1) (L++[y]) (qs++[⟨y,O,i,hand,wd,ns⟩]) d' x':=by
 obtain ⟨_,⟨P,l,w,g⟩,_⟩:=o.or.resolve_left λz=>by rw [J] at z;cases z.1
 have en:nmW x'.ps=nmW x.ps++[y]:=by rw [o.ps,gq,ž (by rw [J];decide)]
 have l3:=o.wk
 have l4:=iU x.ps y lk
 have b1:=j.jw.bw
 have b2:=j.jw.bd
 have b3:=j.jw.ba
 have b4:=j.jw.bp
 have b5:=j.pl
 have ln:(nmW x'.ps).length=(nmW x.ps).length+1:=by rw [en,Ž];rfl
 have dd:d'.wk.length<=d.wk.length+0:=o.wk0 J
 refine ⟨⟨?_,λz f=>?_,ω,by rw [w];omega,by rw [g];omega,by rw [o.ps];omega⟩,λz f=>?_,λz X F=>?_,λY K=>?_,by rw [l,Ž];show x.pe.length+1<=B+1;omega⟩
 .rw [en,Ŧ]
  exact ⟨j.jw.nd,by simp,λu Z v hv z=>wt (by rw [← List.mem_singleton.mp hv,← z];exact Z)⟩
 .rw [en,Ŷ,List.mem_singleton] at f
  rcases f with f | rfl
  .obtain ⟨e,a,h1,C,D,Q⟩:=j.jw.wt z f
   have U:=(fJ h1).2
   have b:bT x'.pe z=some e:=by rw [l,fo,h1];rfl
   exact ⟨e,a,b,by rw [fo,C];rfl,by rw [o.ce.1];exact D.keep (by rw [U];exact b) (by rw [w]) (by rw [g]),by rw [g];exact Q⟩
  .have b:bT x'.pe z=some ⟨z,P,i,hand,wd,ns⟩:=by rw [l,fo,G,Ź rfl];rfl
   have W:bT qs z=none:=ũ.mpr λe he q=>ny (ϑ.mpr ⟨e,he,Ξ q⟩)
   refine ⟨_,O,b,by rw [fo,W,Ź rfl];rfl,⟨b,ar,by rw [o.ce.1];exact ic,ak,?_,Λ I ζ⟩,?_⟩
   .show (aF x'.dr z=none/\aF x'.an z=none/\_)\/∃a1 a2,aF x'.dr z=_/\aF x'.an z=_
    rw [w,g]
    exact H
   .rw [g]
    show _=decide (V.int i=V.int 0)
    cases q:aF x.an z with
    | none=>rw [q] at h0;cases r:decide (V.int i=V.int 0) with | true=>rfl | false=>rw [r] at h0;cases h0
    | some _=>rw [q] at h0;cases r:decide (V.int i=V.int 0) with | true=>rw [r] at h0;cases h0 | false=>rfl
 .rw [en,Ŷ,List.mem_singleton] at f
  rw [ſ]
  rcases f with f | rfl
  .exact ź _ (j.sub z f)
  .exact Ψ _ (.head _)
 .rw [Ŷ,List.mem_singleton] at F
  obtain ⟨h1,C,D⟩:=j.els z X λq=>F (.inl q)
  exact ⟨by rw [w];exact h1,by rw [g];exact C,by rw [l,fo,D,ž λq=>F (.inr q.symm)];rfl⟩
 .rw [o.ps] at K
  rcases rq K with h | h
  .exact (j.psm Y h).imp id λq=>ź _ q
  .exact .inr (by rw [h];exact Ψ _ (.head _))
def Jq.mono{B':Nat}{L':à Pa}(j:Jq p B L qs d x)(h:B<=B')(hl:∀z,z∈L↔z∈L'):Jq p B' L' qs d x:=⟨⟨j.jw.nd,j.jw.wt,Λ j.jw.bw h,Λ j.jw.bd h,Λ j.jw.ba h,Λ j.jw.bp h⟩,j.sub,λz a c=>j.els z a λq=>c ((hl z).mp q),λpr hp=>(j.psm pr hp).imp id (hl _).mp,Λ j.pl h⟩
def Jq.fst(f:Fst d d' x x' p):Jq p 4 [] [] d' x':=by
 obtain ⟨l1,h,i⟩:=f.ln
 have j:=f.wk
 have e:nmW x'.ps=[]:=f.wt
 refine ⟨⟨by rw [e];exact ĉ,(λz b=>by rw [e] at b;cases b),by rw [e];exact j,by rw [e];exact l1,by rw [e];exact h,i⟩,(λz b=>by rw [e] at b;cases b),λz g _=>⟨(f.els z g).1,(f.els z g).2,by rw [f.pe];rfl⟩,λl o=>.inl (f.ps l o),by rw [f.pe];exact ϖ _⟩
end
end
end K55
namespace L2
open PySem PySem.Spec PyProof.Rows PySem.W Lo
section
variable {prog:ê}{w:è}{d:é}{es:Array DictEntry}{ep:Nat}
def AS(lo:(d==sysModules)=false):KdlSrc prog w "dict" d d es.size (λi v=>∃e,es[i]?=some e/\v=e.key) (λh=>RawD h d es ep) where
 type:=λ_ hm=>let ⟨o,e,c,_⟩:=hm;⟨o,e,c.1⟩
 there:=λ_ hm=>let ⟨_,e,_⟩:=hm;⟨η e,η e⟩
 keep:=λ_ _ hm hk=>hm.at λo e=>hk d (.inl rfl) o e
 notList:=by decide
 notTuple:=by decide
 hint:=λ_ _ s _ hm hq=>kdl_hint_dict (let ⟨o,e,c,_⟩:=hm;⟨o,e,c.1⟩) hq
 iter:=λA s hh hm=>by
  have ld:d<s.heap.objs.size:=let ⟨_,e,_⟩:=hm;η e
  refine ⟨_,λi h=>h.IsKeyIter s.heap.objs.size d i es.size ep/\RawD h d es ep,(λ_ _ hq=>u9 lo hm hq),⟨λb hb=>by simp at hb;simp [hb],λi h h' st k=>⟨st.1.at λo e=>k _ (by simp) o e,st.2.at λo e=>k _ (by simp) o e⟩,λi s' Q E hi st hQ=>?_,λs' Q E st hQ=>?_,λi s' Q E st hQ=>wpAny_pyIter_keyiter st.1 hQ⟩,⟨_,Heap.get?_push_size _ rfl,ϱ,ϱ⟩,hm.at λo e=>Heap.get?_push_of_some _ e⟩
  .refine u8 st.1 st.2 (Array.getElem?_eq_getElem hi) λh' st' sb=>?_
   exact hQ _ h' s'.toks ⟨_,Array.getElem?_eq_getElem hi,ϱ⟩ ⟨st',st.2.at λo e=>(sb.2 d (Nat.ne_of_lt ld)).trans e⟩ λb o nb e=>(sb.2 b (by simpa using nb)).trans e
  .exact xE hh st.1 st.2 (Nat.le_refl _) λh' eb=>hQ h' s'.toks λb o nb e=>eb b o (by simpa using nb) e
end
section
variable {X:Cx}{pins:ă}{σ:St}{H:Hp}{s:ë}{f a:é}{C:Hp->é->Prop}
def iw{α β:Type}{R:α->β->Prop}{e vs:à β}(p:e.Perm vs):∀{us:à α},Paired R us vs->∃us',us'.Perm us/\Paired R us' e:=by
 induction p with
 | nil=>exact λh=>⟨_,.refl _,h⟩
 | cons x _ ih =>
  intro us h
  cases h with
  | cons d b =>
   obtain ⟨us',p,r⟩:=ih b
   exact ⟨_::us',.cons _ p,.cons d r⟩
 | swap x y l =>
  intro us h
  cases h with
  | cons d b =>
   cases b with
   | cons r3 r4=>exact ⟨_,.swap _ _ _,.cons r3 (.cons d r4)⟩
 | trans _ _ ih1 ih2 =>
  intro us h
  obtain ⟨i,f,b⟩:=ih2 h
  obtain ⟨u1,g,d⟩:=ih1 b
  exact ⟨u1,g.trans f,d⟩
def Bg(X:Cx)(σ:St)(H:Hp)(f:é)(C:Hp->é->Prop):Prop:=∀(pins:ă) (H1:Hp) (s:ë) (b:é) (Q1:VK),Inv X pins σ H1 s->Same H H1->C H1 b->(∀i,Q1 (.int i) H1)->wpAny (model X.prog X.w) X.A.in1.in1 (call (.ref f) [.ref b]) (EP X pins σ Q1) (λ_ _=>False) s
def tQ{vs:ü}{us:à V}{Q:VK}{E:Ă}(I:Inv X pins σ H s)(rv:Vals us vs)(bA:us.length<64)(KF:Bg X σ H f C)(Ck:∀{H H' b},Same H H'->C H b->C H' b)(hC:∀u∈us,∃b,u=.ref b/\C H b)
  (q:∀l us' H',us'.Perm us->Same H H'->H l=none->H' l=some (.lst us')->Q (.ref l) H') :
  wpAny (model X.prog X.w) X.A.in1 (newList vs >>= λl=>holding [l] (call (.builtin "list.sort") [l] [(Str.ofString "key",.ref f)]) >>= λ_=>ret l) (λfin s'=>∃v,fin=.done (.ret v)/\EP X pins σ Q v s') E s:=by
 have lv:=rv.length
 have zl:vs.length<=sizeLine:=by rw [Ķ];omega
 have Y:H s.heap.objs.size=none:=I.fresh
 refine ε (wpAny_newList ?_ zl)
 have I1:=I.lnew (t':=s.toks) rv ω
 have O:(s.heap.push (seqObj "list" vs.toArray 0)).get? s.heap.objs.size=some (seqObj "list" vs.toArray 0):=ψ _ rfl
 generalize s.heap.objs.size=a at Y I1 O ⊢
 refine ε (Ŝ (wpAny_call_entry_kw slot_list_sort ⟨_,O,ϱ⟩ entry_list_sort ?body (ksk_l1 _ _)))
 show wpAny (model X.prog X.w) X.A.in1.in1 (Builtin.«list.sort» ⟨[.ref a], [(Str.ofString "key", .ref f)]⟩) _ _ _
 rw [ksk_t1]
 unfold ksk_tree
 refine ε (listItems_at O rfl ?_)
 refine ε (listUpdate_at O rfl ?_ (by rw [ŵ];exact zl) (ϖ _))
 obtain ⟨d,y⟩:∃d,((s.heap.push (seqObj "list" vs.toArray 0)).update a (Obj.mapSeq λ_=>(#[]:ì))).get? a=some (seqObj "list" #[] d):=⟨_,get?_update_seq O λ_=>#[]⟩
 have I2:Inv X pins σ (upd (upd H a (.lst us)) a (Fz a (seqObj "list" #[] d))) {s with heap:=(s.heap.push (seqObj "list" vs.toArray 0)).update a (Obj.mapSeq λ_=>(#[]:ì))} :=
  I1.write (x:=a) (e:=a) (t':=s.toks) (by rw [ae];exact ϰ) (.inl rfl) (λb u U e=>(ŧ _ _ (Ne.symm U)).trans e) ⟨_,y⟩ ⟨y,⟨_,y⟩,λg1 g2 p k=>k _ p⟩
 rw [qo] at I2
 refine ε (seqEpoch_at y rfl ?_)
 refine ε (wpAny_newTuple ?_ zl)
 have I3:=I2.kept (t':=s.toks) (h':=((s.heap.push (seqObj "list" vs.toArray 0)).update a (Obj.mapSeq λ_=>(#[]:ì))).push (seqObj "tuple" vs.toArray 0)) λb o e=>ρ _ e
 refine ε (wpAny_newList ?_ (ϖ _))
 have I4:=I3.lnew (its:=[]) (ys:=[]) (t':=s.toks) .nil (ϖ _)
 have fk:=I3.fresh
 refine Ŝ ?_
 have sa:Same H (upd H a (Fz a (seqObj "list" #[] d))):=af Y
 show wpAny _ _ (ksk_rest a (.ref f) false vs.toArray d (.ref (((s.heap.push (seqObj "list" vs.toArray 0)).update a (Obj.mapSeq λ_=>(#[]:ì))).push (seqObj "tuple" vs.toArray 0)).objs.size)) _ _ _
 generalize hkS:(((s.heap.push (seqObj "list" vs.toArray 0)).update a (Obj.mapSeq λ_=>(#[]:ì))).push (seqObj "tuple" vs.toArray 0)).objs.size=kS at I4 fk ⊢
 have D:∀g,Same H (upd (upd H a (Fz a (seqObj "list" #[] d))) kS (.lst g)):=λg=>sa.trans (af fk)
 have F:a≠kS:=λz=>by rw [← z,ae] at fk;cases fk
 unfold ksk_rest
 refine ε (Ą ?_)
 first
  | rw [List.forIn_toArray]
  | (rw [← Array.forIn_toList];simp only [List.toList_toArray])
  | rw [← Array.forIn_toList]
 refine ε (ksk_fold (λi s'=>∃g:ù,g.length=i/\Inv X pins σ (upd (upd H a (Fz a (seqObj "list" #[] d))) kS (.lst (g.map V.int))) s') vs 0 _ ⟨[],ϱ,I4⟩ ?step ?done)
 case step =>
  rintro j x s' hx ⟨g,hk,W⟩
  simp only [Nat.zero_add] at hk ⊢
  have hj:j<vs.length:=(ż.mp hx).1
  have a6:us[j]?=some us[j]:=ξ ω
  obtain ⟨u',e2,r2⟩:=rv.get a6
  rw [hx] at e2
  cases e2
  obtain ⟨b,eb,cb⟩:=hC us[j] (List.getElem_mem _)
  rw [eb] at r2
  obtain rfl:x=Value.ref b:=r2
  refine ε (wpAny_attempt (ū (KF pins _ s' b (λv H2=>∃i,v=.int i/\H2=upd (upd H a (Fz a (seqObj "list" #[] d))) kS (.lst (g.map V.int))) W (D _) (Ck (D _) cb) λi=>⟨i,ϱ,ϱ⟩) (λv s2 he=>?_) λ_ _ hF=>hF.elim))
  obtain ⟨xv,H2,K,rx,i,rfl,rfl⟩:=he
  obtain ⟨t,rfl⟩:=rx
  obtain ⟨z,its,n,L,hl,J⟩:=K.lstM ae
  have li:=L.length
  rw [ν] at li
  try dsimp only
  refine ε (listUpdate_at J rfl ?_ (by rw [ŵ,Ķ];omega) (by rw [Array.size_push,ŵ,Ķ];omega))
  refine π ⟨ϱ,g++[i],by rw [Ž];show g.length+1=j+1;omega,?_⟩
  have:=K.lset (f:=(·.push (.int i t))) (its':=its++[.int i t]) (ys:=(g++[i]).map V.int) (t':=s2.toks) ae J (by simp) (by rw [List.map_append];exact L.append (.cons ⟨t,ϱ⟩ .nil)) (by rw [List.length_map,List.length_append,sizeLine_eq];show g.length+1<=_;omega)
  rw [qo] at this
  exact this
 case done =>
  rintro s' ⟨g,hk,W⟩
  rw [Nat.zero_add] at hk
  obtain ⟨z,its,n,L,hl,J⟩:=W.lstM ae
  have P:IntsAre its.toArray.toList g:=by have:=oB L;simpa using this
  have li:=L.length
  rw [ν] at li
  try dsimp only
  refine ε (listItems_at J rfl ?_)
  have G:(its.toArray.zip vs.toArray).size=vs.length:=by rw [Array.size_zip,ŵ,ŵ];omega
  have a8:s'.heap.get? a=some (seqObj "list" #[] d):=by
   obtain ⟨h1,_⟩:=(show ObjOk X.prog X.w _ s'.heap a (Fz a (seqObj "list" #[] d)) from W.hok a _ (by rw [am F];exact ae))
   exact h1
  have tail:∀st:SortSt,(arrOf st).Perm (its.toArray.zip vs.toArray)->failedOf st=none->wpAny (model X.prog X.w) X.A.in1.in1 (ksk_tail a false d (.ref kS) st) (λfin s'=>∃v,fin=.done (.ret v)/\wpAny (model X.prog X.w) X.A.in1 (ret (.ref a)) (λfin s'=>∃v,fin=.done (.ret v)/\EP X pins σ Q v s') E s') E s':=λst Z hf=>by
   unfold ksk_tail
   try dsimp only
   refine ε (listUpdate_at J rfl ?_ (by rw [ŵ,Ķ];omega) (ϖ _))
   have K:=W.lset (f:=λ_=>(#[]:ì)) (its':=[]) (ys:=[]) (t':=s'.toks) ae J rfl .nil (ϖ _)
   rw [qo] at K
   refine ε (wpAny_letGo ?_)
   have h:(s'.heap.update kS (Obj.mapSeq λ_=>(#[]:ì))).get? a=some (seqObj "list" #[] d):=(ŧ _ _ (Ne.symm F)).trans a8
   refine ε (seqEpoch_at h rfl ?_)
   have ab:(arrOf st).toList.Perm (its.zip vs):=by
    have:=Array.perm_iff_toList_perm.mp Z
    rw [ksk_zip] at this
    simpa using this
   have ak:((arrOf st).map (·.2)).size=vs.length:=by rw [Array.size_map,Z.size_eq,G]
   refine wpAny_bind (listUpdate_at h rfl ?_ (Nat.zero_le _) (by simp only [Bool.false_eq_true,if_false];rw [ak,sizeLine_eq];omega))
   rw [hf]
   simp only [bne_self_eq_false,Bool.false_eq_true,if_false]
   obtain ⟨a4,ev⟩:∃c2,((s'.heap.update kS (Obj.mapSeq λ_=>(#[]:ì))).update a (Obj.mapSeq λ_=>(arrOf st).map (·.2))).get? a=some (seqObj "list" ((arrOf st).map (·.2)) c2):=⟨_,get?_update_seq h λ_=>(arrOf st).map (·.2)⟩
   have ap:((arrOf st).map (·.2)).toList.Perm vs:=by
    have:=ab.map Prod.snd
    rw [List.map_snd_zip ω] at this
    simpa using this
   obtain ⟨us',pu,ru⟩:=iw ap rv
   have I7:Inv X pins σ (upd (upd (upd H a (Fz a (seqObj "list" #[] d))) kS (.lst [])) a (.lst us')) {s' with heap:=(s'.heap.update kS (Obj.mapSeq λ_=>(#[]:ì))).update a (Obj.mapSeq λ_=>(arrOf st).map (·.2))} :=
    K.write (x:=a) (e:=a) (t':=s'.toks) (by rw [am F,ae];exact ϰ) (.inl rfl) (λb u U e=>(ŧ _ _ (Ne.symm U)).trans e) ⟨_,ev⟩ ⟨by rw [pu.length_eq,Ķ];omega,((arrOf st).map (·.2)).toList,a4,ru,by rw [Array.toArray_toList];exact ev⟩
   exact π ⟨_,ϱ,π ⟨_,ϱ,.ref a,_,I7,ϱ,q a us' _ pu (λb o e=>by
    have U:b≠a:=λz=>by rw [z,Y] at e;cases e
    rw [am U]
    exact D [] b o e) Y ae⟩⟩
  unfold ksk_end
  try dsimp only
  simp only [Bool.false_eq_true,if_false]
  by_cases h2:vs.toArray.size<2
  .rw [Ź h2,Ź h2]
   refine ε (π ?_)
   rw [StateT.run_pure]
   refine ε (π ?_)
   try dsimp only
   exact tail _ (Array.Perm.refl _) rfl
  .rw [ž h2,ž h2]
   rw [ŵ] at h2
   rw [ksk_kind P (by rw [ŵ];omega)]
   refine ε (π ?_)
   refine ε (ū (wpS_sortRuns (a₀:=its.toArray.zip vs.toArray) (st:=SortSt.mk' oneType' (its.toArray.zip vs.toArray) #[] 7 none)
    (Q:=λ_ r=>(arrOf r).Perm (its.toArray.zip vs.toArray)/\failedOf r=none)
    (ksk_intKeys P) ⟨Array.Perm.refl _,ϱ,ϱ,ϱ⟩ (by rw [G];omega) (by rw [G];omega) λr a1 a2 a3=>⟨a1,a2⟩) ?_ λ_ _ e=>e)
   rintro ⟨⟨⟩,r⟩ s2 ⟨rfl,Z,hf⟩
   try dsimp only
   exact tail r Z hf
def Dn(H:Hp)(ks:à (List Key))(us:à V):Prop:=Paired (λ(k:List Key) u=>∃b,u=V.ref b/\H b=some (.tup (k.map kV))) ks us
def uC{d:List (List Key×V)}{Q:VK}{E:Ă}(I:Inv X pins σ H s)(hh:X.A.handled=none)(U:H a=some (.dT d))(F:d.length<64)(W:Bg X σ H f λH b=>∃k∈d.map (·.1),H b=some (.tup (k.map kV)))
  (q:∀l ks us' H',ks.Perm (d.map (·.1))->Dn H ks us'->Same H H'->H l=none->H' l=some (.lst us')->Q (.ref l) H'):wpAny (model X.prog X.w) X.A (call (.builtin "sorted") [.ref a] [(Str.ofString "key",.ref f)]) (EP X pins σ Q) E s:=by
 obtain ⟨z,Y,g,r,o,es,ep,h1,Z,h3,y,G⟩:=(show ObjOk X.prog X.w H s.heap a (.dT d) from I.hok a _ U)
 have K:d.length=g.length:=Ĥ r
 have L:es.size=g.length:=by rw [← Ğ,y,ν]
 refine call_function_entry_kw kind_sorted plain_sorted entry_sorted (ksk_s1 _ _) ?_
 unfold Builtin.«sorted»
 refine ε (m:=checkCount "sorted" 1 1 _) (π (ε (kdu_collect (A:=X.A.in1) (AS Y) hh ⟨o,h1,Z,h3⟩ ω λh' tk i k' P=>?_)))
 have C:i.toList=g.map λq=>Value.ref q.2.1:=by
  refine List.ext_getElem? λj=>?_
  cases e:i.toList[j]? with
  | none =>
   rw [Ī,Ğ,P.1] at e
   rw [eq_comm,Ī,ν]
   omega
  | some v =>
   obtain ⟨en,J,rfl⟩:=P.2 j v (by rw [← Ľ];exact e)
   rw [← Ľ,y,Ż] at J
   obtain ⟨x,ex,rfl⟩:=ų.mp J
   rw [Ż,ex]
   rfl
 rw [C]
 have O:Vals (g.map λq=>V.ref q.2.1) (g.map λq=>Value.ref q.2.1):=by
  clear r y K L C G
  induction g with
  | nil=>exact .nil
  | cons x r ih=>exact .cons rfl ih
 have kp:Dn H (d.map (·.1)) (g.map λq=>V.ref q.2.1):=by
  clear O C L K G y q W F z U
  induction r with
  | nil=>exact .nil
  | cons h _ ih=>exact .cons ⟨_,rfl,h.2.1⟩ ih
 refine tQ (I.kept (t':=tk) k') O (by rw [ν];omega) W (λe ⟨k,hk,h⟩=>⟨k,hk,e _ _ h⟩) (λu hu=>?_) λl us' H' pu sm hl D=>?_
 .obtain ⟨j,hj⟩:=ť hu
  obtain ⟨k,ek,b,eb,hb⟩:=kp.get hj
  exact ⟨b,eb,k,Ŵ ek,hb⟩
 .obtain ⟨ks,pk,rk⟩:=iw pu kp
  exact q l ks us' H' pk rk sm hl D
def BO(X:Cx)(te tl:TE):TE:=fun σ H Q=>te σ H λx H1=>tl σ H1 λy H2=>∃a f kvs,x=.ref a/\y=.ref f/\H2 a=some (.dT kvs)/\kvs.length<64/\Bg X σ H2 f (λH b=>∃k∈kvs.map (·.1),H b=some (.tup (k.map kV)))/\∀l ks us' H',ks.Perm (kvs.map (·.1))->Dn H2 ks us'->Same H2 H'->H2 l=none->H' l=some (.lst us')->Q (.ref l) H'
def xR{k:Nat}{e b:á}{te j:TE}{p kp pos:Pos}(G:Room k X.A)(J:Gl X "sorted")(K:X.mg "sorted"=none)(L:PE X e te)(O:PE X b j)(i:starEach [e] X.env=[(false,eval e X.env)]:=by rfl) :
  PE X (.Call (.Name "sorted" p) [e] [⟨some "key",b,kp⟩] pos) (BO X te j):=by
 intro pins s σ H Q I h
 refine Ļ (kK I J K boot_sorted ?_ ζ ζ)
 have g:backTo pos (starEach [e] X.env)=(false,eval e X.env)::backTo pos (starEach [] X.env):=by rw [i];rfl
 refine callWith_kw ?_ g (by rw [g];rfl) rfl rfl
 rw [g]
 refine Ť (thn (L pins s σ H _ I h) λu r ⟨x,H1,z,C,q1⟩=>Ņ ?_)
 refine kws_cons (thn (O pins r σ H1 _ z q1) λw P ⟨y,U,D,F,q2⟩=>kws_nil ?_)
 obtain ⟨a,f,l,rfl,rfl,o,d,q,fin⟩:=q2
 cases C
 cases F
 exact uC D G.hd o d q fin
end
end L2
namespace K55
open PySem L2 Lo St
section
variable {P:ê}{w:è}{K:ä}{mg:ā}{base:ã}{f CL CS CH CV:é}{fd:ç}{C:Kd->é}{CW:Wd->é}
def Et{α:Type}{p:α->Prop}{a b:α}(h1:p a)(h2:p b):∀t∈[a,b],p t:=λt ht=>by
 simp only [List.mem_cons,List.not_mem_nil,or_false] at ht
 rcases ht with e | e<;>subst e<;>assumption
abbrev tV:á:=match (defBody eV).getD 10 (.Pass default) with | .Assign _ (.Call _ _ [⟨_,l,_⟩] _) _=>l | _=>.Name "" default
abbrev Eh:Arguments:=match tV with | .Lambda a _ _ _=>a | _=>defArgs eV
abbrev Eg:á:=match tV with | .Lambda _ b _ _=>b | _=>.Name "" default
abbrev kScope:Scope:=match tV with | .Lambda _ _ s _=>s | _=>defScope eV
abbrev DX:Str:="law.<locals>.<lambda>"
def CQ{x y:Str}{c a:é}(h:[(x,c)].lookup y=some a):y=x/\a=c:=by
 rw [List.lookup_cons] at h
 cases e:y==x with
 | true=>rw [e] at h;exact ⟨by simpa using e,(Option.some.inj h).symm⟩
 | false=>rw [e] at h;cases h
def AO{X:Cx}{σ:L2.St}{H:Hp}{o c i:é}{m:Int}{f:List (List Key×V)}(J:Room 6 X.A)(q:rD X [(i,.int m)] σ)(hf:H o=some (jX o DX Eh Eg kScope [("_law_number_here",i)] c))(L:H c=some (iK c DX))(O:∀k∈f.map (·.1),∃y:Pa,k=pk y) :
  Bg X σ H o (λH b=>∃k∈f.map (·.1),H b=some (.tup (k.map kV))):=by
 rintro w H1 s b G I C ⟨k,l,hb⟩ d
 obtain ⟨y,rfl⟩:=O k l
 refine wpAny_call (Ė (sB (Q:=G) (k:=3) (N:=["_law_one","_law_number_here"]) (x:="_law_one") (fvs:=[.int m]) (v:=.ref b) (u:=.ref b) J.in1.in1 I.env0B.in1.in1 (I.pinB (pp:=[]) (λ_ z=>nomatch z) q) ⟨ϱ,ϱ,ϱ,θ,ϱ,ϱ,θ,λy D=>?_,λy z a h1 g=>?_⟩ rfl (λy a h=>?_) (λj y v h1 g=>?_) (C _ _ hf) (C _ _ L) rfl (λpm P=>.of_eq rfl) ⟨_,aE b9 (aE bW (aE om (ay (r:=a9 X.K) aC (pv 0) ai (λ_ _=>rfl)) (aE bW ai (aE b9 (aE bV (pv 1) ai) ai))) (pv 1)) ai,?_⟩) λr U d=>?_)
 .have e:y="_law_number_here":=(by decide +kernel:∀p∈kScope.names,p.2=NameKind.free->p.1=("_law_number_here":Str)) _ (ů D) rfl
  subst e
  exact ⟨i,ϱ⟩
 .exact (CQ h1).1.trans (CQ g).1.symm
 .exact ⟨_,by rw [(CQ h).2];exact .head _⟩
 .cases j with
  | zero =>
   cases h1
   cases g
   exact ⟨ϱ,i,ϱ,λW F=>by cases ϵ.mp F;rfl⟩
  | succ j=>cases g
 .exact ⟨_,ϱ,b,_,_,_,ϱ,ϱ,SqT.of hb,St.at0,_,ϱ,_,_,ϱ,ϱ,⟨ζ,ζ⟩,_,_,ϱ,ϱ,(by show (0:Int)<4;decide),_,_,ϱ,ϱ,_,_,ϱ,ϱ,.inr ⟨ω,ω⟩,_,ϱ,_,_,ϱ,ϱ,_,_,ϱ,ϱ,(by show (0:Int)<5;decide),d _⟩
 .cases r with
  | error e=>exact False.elim d
  | ok fl =>
   cases fl with
   | ret u=>exact I.after d
   | next=>exact False.elim d
   | brk=>exact False.elim d
   | cont=>exact False.elim d
inductive mM (K:ä) (Ps:û) (vs:à V) (H:Hp) (Q:VK) (E:XK):Prop|mk a ns:vs=[.ref a]->SqL K H a ((ns:ù).map V.int)->ns.length<=63->((∀b∈Ps,H b=some (.tbl #[])))->(∀H',Q (.bl true) H')->mM K Ps vs H Q E
structure Lc where
 (m:Int)(fa pa qa:é)(o:Str)(b:Bx)(W:é)(E:Cs)(M:Nat)
structure Fc(K:ä)(c:Lc)(a:é)(ns:ù)(Pt Pk:é):Prop where
 pt:c.b.Pt=Pt
 n1:1<=c.M
 n8:c.M<=8
 fa:∃cs:ù,(c.fa,HO.lst (cs.map V.int))∈c.E/\cs.length=c.M
 pk:(Pk,HO.tbl #[])∈c.E
 sc:∀H',(∀u∈c.E,H' u.1=some u.2)->SqL K H' a (ns.map V.int)
 ek:∀u∈c.E,∀kvs,u.2≠.dT kvs
 p1:1<=c.b.p.1/\c.b.p.1<=4
def sJ(c:Lc)(a:é)(y8 y9 y10 y11 y12 y13:Option V):L2.St:=[some (.ref a),some (.int c.m),some (.ref c.fa),some (.ref c.pa),some (.ref c.b.A.l),some (.ref c.W),some (.str c.o),some (.ref c.qa),y8,y9,y10,y11,y12,y13]
structure LJ(C:Kd->é)(CS CH CL CV:é)(K:ä)(c:Lc)(H:Hp)(d:Sx)(x:Wx):Prop where
 g:Gs C CS CH CL CV K H c.b [] d x H [] d x
 e:∀u∈c.E,H u.1=some u.2/\u.1∉ad (stL c.b.p c.b.A d++wtL CL c.b x)
 hp:PaA H c.b.p c.pa
 cl:d.cells.length=c.M
 rc:kU d
 eW:x.W.l=c.W
structure LQ(CL:é)(c:Lc)(H:Hp)(d:Sx)(x:Wx)(qs:à Pd):Prop where
 h:H c.qa=some (.dT (dP qs))
 n:c.qa∉ad (stL c.b.p c.b.A d++wtL CL c.b x)
 p:∀e∈qs,H e.a=some (.tup [.int e.i,.int e.hand,.str (txt e.wd e.ns)])
section
variable {c:Lc}{H H':Hp}{d d':Sx}{x x':Wx}{qs:à Pd}{a:é}{ns:ù}{Pt Pk:é}
def LJ.same(j:LJ C CS CH CL CV K c H d x)(n:Nq C CS CH CL CV)(e:Same H H'):LJ C CS CH CL CV K c H' d x:=⟨(j.g.same n e).self iB,λu hu=>⟨e _ _ (j.e u hu).1,(j.e u hu).2⟩,e _ _ j.hp,j.cl,j.rc,j.eW⟩
def LQ.same(j:LQ CL c H d x qs)(e:Same H H'):LQ CL c H' d x qs:=⟨e _ _ j.h,j.n,λu hu=>e _ _ (j.p u hu)⟩
def LJ.step(j:LJ C CS CH CL CV K c H d x)(g:Gs C CS CH CL CV K H c.b [] d x H' [] d' x')(h1:d'.cells.length=d.cells.length)(h2:kU d')(h3:x'.W.l=x.W.l):LJ C CS CH CL CV K c H' d' x':=⟨g.self iB,λu hu=>g.out (j.e u hu).1 (j.e u hu).2,g.ow.ts _ _ j.hp,h1.trans j.cl,h2,h3.trans j.eW⟩
def LQ.step(j:LQ CL c H d x qs)(g:Gs C CS CH CL CV K H c.b [] d x H' [] d' x'):LQ CL c H' d' x' qs:=let ⟨h1,h2⟩:=g.out j.h j.n;⟨h1,h2,λu hu=>g.ow.ts _ _ (j.p u hu)⟩
def LJ.put{qs':à Pd}(j:LJ C CS CH CL CV K c H d x)(q:LQ CL c H d x qs)(f:Fc K c a ns Pt Pk)(n:Nq C CS CH CL CV):LJ C CS CH CL CV K c (upd H c.qa (.dT (dP qs'))) d x:=⟨((j.g.more (a:=c.qa)).ext n (bn (o:=.dT (dP qs'))) q.h id q.n (.inl (.head _))).self iB,λu hu=>⟨by rw [am λz=>f.ek u hu _ (Δ ((j.e u hu).1.symm.trans (z▸q.h)))];exact (j.e u hu).1,(j.e u hu).2⟩,(fQ q.h:TSame H _) _ _ j.hp,j.cl,j.rc,j.eW⟩
def LQ.put(q:LQ CL c H d x qs)(e:Pd)(h:H e.a=some (.tup [.int e.i,.int e.hand,.str (txt e.wd e.ns)])):LQ CL c (upd H c.qa (.dT (dP (qs++[e])))) d x (qs++[e]):=⟨ae,q.n,λu hu=>by
 have t:=fQ (o':=.dT (dP (qs++[e]))) q.h
 rcases Ŷ.mp hu with m | m
 .exact t _ _ (q.p u m)
 .rw [ϵ.mp m];exact t _ _ h⟩
end
def pi(p:Pa)(k:Nat):Pa:=((p.1+k+1)%5,p.2)
def xZ{p:Pa}{k:Nat}(h:1<=p.1/\p.1<=4)(hk:k<4):pi p k≠p:=λz=>by
 have:(p.1+k+1)%5=p.1:=congrArg Prod.fst z
 omega
def vk{p:Pa}{i j:Nat}(h:1<=p.1/\p.1<=4)(b:i<4)(d:j<4)(e:pi p i=pi p j):i=j:=by
 have:(p.1+i+1)%5=(p.1+j+1)%5:=congrArg Prod.fst e
 omega
def Df(qs:à Pd)(e:Pd):dP (qs++[e])=dP qs++[(pk e.y,.ref e.a)]:=by unfold dP;rw [List.map_append];rfl
def zy{b:à Pd}{e:Pd}(h:e.y∉b.map Pd.y):bZ (dP b) (pk e.y) (.ref e.a)=dP (b++[e]):=by
 rw [Df,il]
 rw [gr,show bT b e.y=none from ũ.mpr λu d q=>h (ϑ.mpr ⟨u,d,Ξ q⟩)]
 rfl
def Dv(c:Int):Str.ofString "take 0 "++iS c=txt .take [0,c]:=by
 rw [← BM]
 exact congrArg (·++iS c) θ
def EW(b:ù):(kM (b.map V.int) (some 6) (some 14)).length<=8/\6+(kM (b.map V.int) (some 6) (some 14)).length<=max 6 b.length:=by
 unfold kM
 rw [ĺ,List.length_drop,ν]
 show min (min 14 _-min 6 _) _<=8/\6+min (min 14 _-min 6 _) _<=_
 omega
structure Fz(C:Kd->é)(CS CH CL CV:é)(K:ä)(c:Lc)(H:Hp)(qs:à Pd)(ea:é)(dn:à Pa)(d:Sx)(x:Wx)(es:à V):Prop where
 lj:LJ C CS CH CL CV K c H d x
 lq:LQ CL c H d x qs
 he:H ea=some (.lst es)
 ne:ea∉ad (stL c.b.p c.b.A d++wtL CL c.b x)
 pe:Paired (sPS K H) d.en es
 en:d.en.map (·.1)=dn
 jw:Jw 20 qs d x
 ps:∀pr∈x.ps,pr.1∉dn/\(pr.1=c.b.p\/pr.1∈qs.map Pd.y)
 nE:∀u∈c.E,u.1≠ea
 nq:c.qa≠ea
def Fz.fin{c:Lc}{H:Hp}{G:à Pd}{j I L:é}{dn:à Pa}{d:Sx}{x:Wx}{es:à V}{y:Pa}{o:Str}{Q:VK}{E:XK}(f:Fz C CS CH CL CV K c H G j dn d x es)(P:c.b.Pt=L)(U:c.M<=8)(X:PaA H y I)(Y:y∉dn)(ln:dn.length<=20)(Z:y≠c.b.p->decide (o=("done":Str))=false)
  (q:∀H' d' x' es',TSame H H'->Fz C CS CH CL CV K c H' G j (dn++[y]) d' x' es'->Q (.bl true) H'):uW C CS CH CL CV K L [.ref c.W,.ref c.b.A.l,.ref I,.str o,.ref c.qa,.ref j] H Q E:=by
 refine ⟨c.b,d,x,y,I,o,c.qa,G,j,es,(by rw [f.lj.eW]),P,f.lj.g,X,f.lq.h,f.lq.n,f.lq.p,f.he,f.ne,f.pe,(by have:=congrArg List.length f.en;rw [ν] at this;omega),?_,Z,f.lj.rc,(by rw [f.lj.cl];exact U),f.jw,λd' x' es' H' g w D F en=>q H' d' x' es' g.ow.ts ⟨⟨g.self iB,λu i=>g.out (f.lj.e u i).1 λz=>(ϕ.mp z).elim (f.nE u i) (f.lj.e u i).2,g.ow.ts _ _ f.lj.hp,en.cl.trans f.lj.cl,en.rc,en.eW.trans f.lj.eW⟩,?_,D,w,F,by rw [en.en,ſ,f.en];rfl,en.jw,λO J=>?_,f.nE,f.nq⟩⟩
 .unfold sN
  rw [ũ.mpr λu i z=>Y (by rw [← f.en,← Ξ z];exact ϑ.mpr ⟨u,i,ϱ⟩)]
  rfl
 .obtain ⟨h1,r⟩:=g.out f.lq.h λz=>(ϕ.mp z).elim f.nq f.lq.n
  exact ⟨h1,r,λu i=>g.ow.ts _ _ (f.lq.p u i)⟩
 .rw [en.ps] at J
  obtain ⟨m1,m2⟩:=Ş.mp J
  obtain ⟨h1,r⟩:=f.ps O m1
  refine ⟨λz=>(Ŷ.mp z).elim h1 λz=>?_,r⟩
  rw [τ (ϵ.mp z)] at m2
  cases m2
def tq{N:û}{l:é}{H0 H H1 H2:Hp}{b:Bx}{d:Sx}{R:Cs}{W:Aw}{dl:é}(g:Ow CH CL N H0 H (stL b.p b.A d++((b.Pt,.tbl #[])::R)))(s:Same H H1)(nl:H l=none)(ow:Ow CH CL [l] H1 H2 (wkL CL ⟨W,dl,[],[],[],[],[],none⟩)) :
  Ow CH CL N H0 H2 (stL b.p b.A d++wtL CL b ⟨W,dl,[],[],[],[],[],none⟩)/\Same H H2 :=
 have ob:=ow.born s nl
 ⟨(g.join ob).swap (S:=stL b.p b.A d++[(b.Pt,.tbl #[])]) (X:=wkL CL ⟨W,dl,[],[],[],[],[],none⟩) (O:=R),λc u e=>ob.fr c u (λz=>nomatch z) e⟩
def Cy{cc Y Pk gM gS fI:é}{h5 h6 dI:ç}(F:Fun K "law" "law" eV f fd)(B:TxB mg)(T:TxV K CV)(n:Nq C CS CH CL CV)(nP:[Y,Pk].Nodup)(le:BB mg base)(lh:fd.code=.ref cc)(li:PySem.W.codeHdIn K cc Pk=true)(MS:Mk K CS gM)(ll:mg "Stand"=some (.ref CS))(lm:FnOk P w K mg base CX0 1 gM h5 ["self","cells"] (qw CS CH CL))(ln:Binds K h5 ["self","cells"] [])
  (MV:Mk K CV gS)(lr:mg "Works"=some (.ref CV))(lu:FnOk P w K mg base CX0 3 gS h6 ["self","stand","home","many"] (qu CS CH CL CV K))(lv:Binds K h6 ["self","stand","home","many"] [])(MH:L2.Mk K CH fI)(lw:mg "Sheet"=some (.ref CH))(lx:FnOk P w K mg base CX0 1 fI dI ["self","stand"] (iM CH CL))(lI:Binds K dI ["self","stand"] [])
  (GA:GF P w K mg base CX0 1 "_law_cell_at" ["_law_script","_law_k"] (qD K))(GN:GF P w K mg base CX0 1 "_law_number" ["_law_cell"] mO)(lS:GF P w K mg base CX0 2 "_law_step" ["_law_cell","_law_many"] mj)
  (lZ:GF P w K mg base CX0 9 "_law_first" ["_law_works","_law_stand","_law_p","_law_script","_law_many"] (xp C CS CH CL CV K Y))(ma:GF P w K mg base CX0 9 "_law_asked" ["_law_works","_law_stand","_law_p","_law_i","_law_hand_here","_law_text"] (xq C CS CH CL CV K Y))(h7:GF P w K mg base CX0 9 "_law_ended" ["_law_works","_law_stand","_law_p","_law_outcome","_law_asked_here","_law_ends"] (uW C CS CH CL CV K Y))
  (mb:GM P w K mg base CX0 8 CV "work" ["self","sheet","p","i","hand","text"] (mH C CS CH CL CV K Y))(mc:GM P w K mg base CX0 6 CV "held" ["self"] (lp C CL CV K gW))(h8:GM P w K mg base CX0 6 CV "waiting" ["self"] (lp C CL CV K aN)):FnOk P w K mg base CX0 10 f fd ["_law_script"] (mM K [Y,Pk]):=by
 refine F.okC sc_law (λvs H Q E h=>?_) (λA0 jn s H vs Q E hr h=>?_)
 .obtain ⟨a,ns,rfl,_⟩:=h
  rfl
 obtain ⟨a,ns,rfl,hS,hl,hP,q⟩:=h
 have nd:=sc_law.nd
 have em:Room (1+1) _:=hr.mono ζ
 have hY:Room (3+1) _:=hr.mono ζ
 refine ⟨_,(ah (aG (i:=1) nd rfl (Or.inr rfl) (pc GA hr (ac (pv 0) (ac ai ag)))) (ah (xL (iy:=2) xA rfl (cX rfl B.range (ac (aE bW ai (aE b9 (pv 1) ai)) ag)) (λ_ _ _ _=>cj) (λ_ _ _ _=>pc GN hr (ac (aE bW (aE bV (pv 1) (aE bW (pv 0) ai)) (aE om ai (pv 0))) ag)) nd rfl (Or.inl rfl)) (ah (aG (i:=3) nd rfl (Or.inl rfl) (aL (ac (aE bW ai (aE b9 (aE bV (pv 1) ai) ai)) (ac (aE b9 (aE bV (pv 1) ai) ai) ag)))) (ah (aG (i:=4) nd rfl (Or.inl rfl) (bb MS lm em rfl ll ln .nil be (ac (pv 2) ag))) (ah (aG (i:=5) nd rfl (Or.inl rfl) (bb MV lu hY rfl lr lv .nil be (ac (pv 4) (ac ai (ac ai ag))))) (ah (aG (i:=6) nd rfl (Or.inl rfl) (pc lZ hr (ac (pv 5) (ac (pv 4) (ac (pv 3) (ac (pv 0) (ac (aK bc rfl B.len Ů (ac (pv 2) ag)) ag))))))) (ah (aG (i:=7) nd rfl (Or.inl rfl) c8) (iq (u:=λD σ H1=>∃c d x,σ=sJ c a none none none none none none/\Fc K c a ns Y Pk/\LJ C CS CH CL CV K c H1 d x/\LQ CL c H1 d x []/\Jq c.b.p 4 [] [] d x/\d.en=[]/\∀v O,Q v O->D.rt v O) (ah (gz ō rfl (cX rfl B.range (ac (aE bV (aK bc rfl B.len Ů (ac (nQ uZ (pv 0) (iO ai) (iO ai)) ag)) ai) ag)) (bU (i:=8) nd rfl (Or.inl rfl)) (ah (aG (i:=9) nd rfl (Or.inl rfl) (aL (ac (aE b9 (aE bW (aE bW (ay (r:=a9 K) aC (pv 3) ai (λ_ _=>rfl)) (pv 8)) ai) ai) (ac (ay (r:=a9 K) aC (pv 3) ai (λ_ _=>rfl)) ag)))) (ah (aG (i:=10) nd rfl (Or.inl rfl) (ay (r:=cH K) aI (pv 0) (aE bW ai (aE om ai (pv 8))) (λ_ _=>rfl))) (ah (aG (i:=11) nd rfl (Or.inl rfl) ai) (ah (aJ (az bK (aE b9 (pv 10) ai) ai (aA _)) (ah (aQ (pm mb (pv 5) T.cl hr (ac (bb MH lx em rfl lw lI .nil be (ac (pv 4) ag)) (ac (pv 9) (ac ai (ac ai (ac (aE cw aD (aP dj rfl B.str ī (ac (aE b9 (aE bV (pv 10) ai) (aK bc rfl B.len Ů (ac (pv 2) ag))) ag))) ag))))))) (aj (aG (i:=11) nd rfl (Or.inl rfl) (aP qh rfl B.int ő (ac (bq (iQ cPa (hun hr)) (pv 9) (xU sb_law_1 (λ_ _ _ _=>jD K rfl sb_law_1.nd rfl rfl rfl rfl) rfl (bJ (pm0 h8 (pv 5) T.cl hr)) (λ_ _ _ _=>cj) (λ_ _ _ _=>pv 0)) rfl) ag))))) aB) (aj (aJ (PW.pt (pP (az bK (pv 11) ai (aA _)) (kq (az ol (aE b9 (pv 10) ai) ai (aA _))))) (ah (gB (cE hr) (pv 7) (pv 9) (aL (ac (pv 11) (ac (pc GN hr (ac (ay (r:=cH K) aI (pv 0) (aE bW ai (aE om ai (pv 8))) (λ_ _=>rfl)) ag)) (ac (pc lS hr (ac (aE bV (pv 10) ai) (ac (aK bc rfl B.len Ů (ac (pv 2) ag)) ag))) ag)))) rfl) (aj (aJ (io (cK (pc ma hr (ac (pv 5) (ac (pv 4) (ac (pv 9) (ac (ay (r:=a9 K) aC (dQ (cE hr) (pv 7) (pv 9) (λ_ _=>rfl)) ai (λ_ _=>rfl)) (ac (ay (r:=a9 K) aC (dQ (cE hr) (pv 7) (pv 9) (λ_ _=>rfl)) ai (λ_ _=>rfl)) (ac (ay (r:=a9 K) aC (dQ (cE hr) (pv 7) (pv 9) (λ_ _=>rfl)) ai (λ_ _=>rfl)) ag))))))))) aH aB))) (aj (gB (cE hr) (pv 7) (pv 9) (aL (ac ai (ac ai (ac (aE cw aD (aP dj rfl B.str ī (ac (aE b9 (aE bV (pv 10) ai) (aK bc rfl B.len Ů (ac (pv 2) ag))) ag))) ag)))) rfl))))))))) (iq (u:=λD σ H1=>∃c d x G y8 y9 y10 y11,σ=sJ c a y8 y9 y10 y11 none none/\Fc K c a ns Y Pk/\LJ C CS CH CL CV K c H1 d x/\LQ CL c H1 d x G/\Jq c.b.p 20 (G.map Pd.y) G d x/\d.en=[]/\G.length<=4/\(G.map Pd.y).Nodup/\c.b.p∉G.map Pd.y/\∀v O,Q v O->D.rt v O) (ah (aG (i:=12) nd rfl (Or.inl rfl) (c7 ag)) (ah (aJ (io (cK (pc h7 hr (ac (pv 5) (ac (pv 4) (ac (pv 3) (ac (pv 6) (ac (pv 7) (ac (pv 12) ag))))))))) aH aB) (ah (aG (i:=13) nd rfl (Or.inl rfl) (xR hr rfl B.sorted (pv 7) (vf (P:=Pk) (cl:=[("_law_number_here",s.heap.objs.size+1)]) lh li le rfl rfl rfl))) (ah (gz ō rfl (bJ (pv 13)) (bU (i:=9) nd rfl (Or.inl rfl)) (aj (aJ (io (cK (pc h7 hr (ac (pv 5) (ac (pv 4) (ac (pv 9) (ac aD (ac (pv 7) (ac (pv 12) ag))))))))) aH aB))) (aj (aw (gD (bq (qW cPr (hun hr)) (pm0 mc (pv 5) T.cl hr) (c7 ag) (aA _)) (fX (bq (qW cPr (hun hr)) (pm0 h8 (pv 5) T.cl hr) (c7 ag) (aA _)))))))))) ?v3)) ?v1)))))))),?_⟩
 case v1 =>
  rintro D σ H0 ⟨c,d0,x0,rfl,Z,gk,l3,l4,l5,nx⟩
  obtain ⟨U,a5,hA⟩:=Z.fa
  have n1:=Z.n1
  have n8:=Z.n8
  obtain ⟨nJ,nL⟩:=EW ns
  obtain ⟨M,hM⟩:∃M:Nat,((kM (ns.map V.int) (some 6) (some 14)).length:Int)/2=(M:Int):=⟨(kM (ns.map V.int) (some 6) (some 14)).length/2,ω⟩
  refine sq λnA kA=>⟨_,ϱ,_,ϱ,_,ϱ,a,_,ϱ,Z.sc H0 (λu hu=>(gk.e u hu).1),λp2 n2=>⟨p2,_,ϱ,.inl (SqL.of ae),_,_,ϱ,ϱ,⟨ζ,ζ⟩,(M:Int),congrArg (λz=>[V.int z]) hM,ω,ω,?_⟩⟩
  have s2:=af (o:=.lst (kM (ns.map V.int) (some 6) (some 14))) n2
  rw [ř]
  refine iR (n:=M) (λi σ O=>∃d x G y8 y9 y10 y11,σ=sJ c a y8 y9 y10 y11 none none/\LJ C CS CH CL CV K c O d x/\LQ CL c O d x G/\Jq c.b.p (4+2*i) (G.map Pd.y) G d x/\d.en=[]/\G.map Pd.y=(List.range i).map (pi c.b.p))
   ⟨d0,x0,[],_,_,_,_,ϱ,gk.same n s2,l3.same s2,l4,l5,ϱ⟩ ?_ ?_
  .rintro i σ H1 hi ⟨d,x,G,y8,y9,y10,y11,rfl,lj,lq,jq,en,nm⟩
   rw [Int.zero_add]
   have nX:=Z.sc H1 λu hu=>(lj.e u hu).1
   have dp:i<4:=by omega
   have i7:7+2*i<ns.length:=by omega
   obtain ⟨z6,hC⟩:∃z,atI (ns.map V.int) (6+2*(i:Int))=some (.int z):=⟨ns[6+2*i],by rw [show (6+2*(i:Int))=((6+2*i:Nat):Int) by omega];exact br (by rw [Ż,ξ ω];rfl)⟩
   obtain ⟨z7,hD⟩:∃z,atI (ns.map V.int) (7+2*(i:Int))=some (.int z):=⟨ns[7+2*i],by rw [show (7+2*(i:Int))=((7+2*i:Nat):Int) by omega];exact br (by rw [Ż,ξ i7];rfl)⟩
   refine sq λnB kB=>⟨_,ϱ,c.pa,_,_,_,ϱ,ϱ,SqT.of lj.hp,St.at0,_,ϱ,_,_,ϱ,ϱ,_,_,ϱ,ϱ,_,_,ϱ,ϱ,(by show (0:Int)<5;decide),_,ϱ,c.pa,_,_,_,ϱ,ϱ,SqT.of lj.hp,St.at1,χ,λya n3=>kB _ _ (sq λnC kC=>?_)⟩
   have s3:=af (o:=.tup [.int ((c.b.p.1+i+1)%5),.int c.b.p.2]) n3
   have bm:PaA (upd H1 ya (.tup [.int ((c.b.p.1+i+1)%5),.int c.b.p.2])) (pi c.b.p i) ya:=ae
   have I:=lj.same n s3
   have cb:=lq.same s3
   generalize (upd H1 ya _)=H3 at bm I cb ⊢
   have bt:pi c.b.p i≠c.b.p:=xZ Z.p1 dp
   have a1:pi c.b.p i∉G.map Pd.y:=λm=>by
    rw [nm] at m
    obtain ⟨j,hj,e⟩:=ϑ.mp m
    have nZ:=ŗ.mp hj
    have:=vk Z.p1 ω dp e
    omega
   have cx:(dP G).length<sizeLine:=by
    have:=congrArg List.length nm
    rw [ν,ν,List.length_range] at this
    unfold dP
    rw [ν,this]
    exact ŷ dp ζ
   have cd:∀(e:Pd),e.y=pi c.b.p i->(G++[e]).map Pd.y=(List.range (i+1)).map (pi c.b.p):=λe he=>by rw [ſ,List.range_succ,ſ,nm,ű,he];rfl
   generalize pi c.b.p i=y at bm bt a1 cd
   have i0:=Z.sc H3 λu hu=>(I.e u hu).1
   refine ⟨_,ϱ,_,ϱ,_,_,ϱ,ϱ,.inl ⟨ζ,ζ⟩,_,_,ϱ,ϱ,a,_,_,_,ϱ,ϱ,i0,hC,kC _ _ (sq λnD kD=>kD _ _ (sq λnE kE=>?_))⟩
   have go:∀H2 d1 x1 iv ak L1,LJ C CS CH CL CV K c H2 d1 x1->LQ CL c H2 d1 x1 G->Jq c.b.p (4+2*i+1) L1 G d1 x1->(∀z,z∈L1++[y]↔z∈G.map Pd.y++[y])->d1.en=[]->PaA H2 y ya->bT x1.pe y=none->Own x1 y [] ak->ak.length<=1->aY ak (.inl iv)=none->(aF x1.an y).isSome=(!decide (V.int iv=V.int 0))->(iv=1\/decide (V.int (z6%3)=V.int 0)=false)->nE (sJ c a (some (.int i)) (some (.ref ya)) (some (.int z6)) (some (.int iv)) none none) H2:=λH2 d1 x1 iv ak L1 bB jt ap hL dV k0 fN da nb fP fS or2=>kE _ _ (by
    refine (λB=>(⟨_,ϱ,ϱ,_,ϱ,bD (λ_=>cr B) (λk=>⟨_,ϱ,_,_,ϱ,ϱ,(by show (0:Int)<3;decide),ϱ,_,ϱ,bD (λ_=>B) (λk2=>?_)⟩)⟩:_)) ?_
    .refine sq λnF kF=>⟨_,ϱ,_,ϱ,_,ϱ,_,_,ϱ,ϱ,.inl ⟨ζ,ζ⟩,_,_,ϱ,ϱ,a,_,_,_,ϱ,ϱ,Z.sc H2 (λu hu=>(bB.e u hu).1),hD,_,ϱ,λJ _=>⟨_,ϱ,_,_,ϱ,ϱ,⟨ζ,ζ⟩,_,ϱ,c.fa,_,ϱ,.inl (SqL.of (bB.e _ a5).1),z6/3,U.length,(by rw [ν];rfl),ω,ω,λwd ws H4 s4 ar ic=>⟨χ,λta n5=>?_⟩⟩⟩
     have s5:=af (o:=.tup [.int iv,.int J,.str (txt wd ws)]) n5
     have ds:=s4.trans s5
     have X:=bB.same n ds
     have a7:=jt.same ds
     have eq:=ds _ _ k0
     have er:(upd H4 ta (.tup [.int iv,.int J,.str (txt wd ws)])) ta=some (.tup [.int iv,.int J,.str (txt wd ws)]):=ae
     have dt:=X.put (qs':=G++[⟨y,ta,iv,J,wd,ws⟩]) a7 Z n
     have dy:=a7.put ⟨y,ta,iv,J,wd,ws⟩ er
     have tu:=fQ (o':=.dT (dP (G++[⟨y,ta,iv,J,wd,ws⟩]))) a7.h
     have dz:=tu _ _ eq
     have bl:=tu _ _ er
     refine ⟨_,ϱ,_,ϱ,c.qa,_,ϱ,DPut.t (k:=pk y) a7.h eq cx,kF _ _ ?_⟩
     rw [show bZ (dP G) (pk y) (V.ref ta)=dP (G++[⟨y,ta,iv,J,wd,ws⟩]) from zy (e:=⟨y,ta,iv,J,wd,ws⟩) a1]
     generalize (upd (upd H4 ta _) c.qa _)=H6 at dt dy dz bl ⊢
     have dg:DGet H6 c.qa (.ref ya) (some (.ref ta)):=by
      have:=DGet.t (k:=pk y) dy.h dz
      rw [gr,fo,show bT G y=none from ũ.mpr λu hu q=>a1 (ϑ.mpr ⟨u,hu,Ξ q⟩),Ź rfl] at this
      exact this
     have i3:U.length=d1.cells.length:=hA.trans bB.cl.symm
     have et:inC d1.cells.length wd ws:=i3▸ic
     have eu:y∉nmW x1.ps:=λz=>a1 (ap.sub y z)
     have b1:=ap.jw.bw
     have b2:=ap.jw.bd
     have b3:=ap.jw.ba
     have b4:=ap.jw.bp
     have b5:=ap.pl
     refine ⟨_,ϱ,_,ϱ,_,ϱ,_,ϱ,_,ϱ,c.qa,_,ϱ,dg,ta,_,_,_,ϱ,ϱ,SqT.of bl,St.at0,_,ϱ,_,ϱ,c.qa,_,ϱ,dg,ta,_,_,_,ϱ,ϱ,SqT.of bl,St.at1,_,ϱ,_,ϱ,c.qa,_,ϱ,dg,ta,_,_,_,ϱ,ϱ,SqT.of bl,St.at2,c.b,d1,x1,y,ya,iv,J,wd,ws,ak,(by rw [bB.eW];rfl),Z.pt,dt.g,⟨dz,ar,et,ω,ω,dV,bt,da,ω,⟨ω,ω,ω,ω⟩,fP,fN,eu⟩,fS,λlk d' x' H7 k1 g7 o=>⟨_,ϱ,aU ?_⟩⟩
     have i8:kU d':=by unfold kU;rw [o.ce.2.2.2,o.ce.1];exact bB.rc
     have ev:=dt.step g7 (by rw [o.ce.1]) i8 (by rw [o.eW])
     have ew:=dy.step g7
     have eL:∀z,z∈L1++[y]↔z∈(G++[(⟨y,ta,iv,J,wd,ws⟩:Pd)]).map Pd.y:=λz=>by rw [hL z,ſ];exact Iff.rfl
     cases ea:i6 x1.ps y lk with
     | true =>
      obtain ⟨j,_⟩:=ap.done a1 o ea
      exact ⟨d',x',_,_,_,_,_,ϱ,ev,ew,(j.more ⟨y,ta,iv,J,wd,ws⟩).mono ω eL,o.ce.2.1.trans dV,cd _ rfl⟩
     | false=>exact ⟨d',x',_,_,_,_,_,rfl,ev,ew,(ap.wait a1 eu fN da ω ar et fS o ea ta).mono ω eL,o.ce.2.1.trans dV,cd _ rfl⟩
    .rcases or2 with rfl | or2
     .exact absurd rfl k
     .exact absurd (by rw [or2];rfl) k2)
   obtain ⟨ef,c5,ca⟩:=jq.els y bt a1
   refine ⟨_,ϱ,_,_,ϱ,ϱ,(by show (0:Int)<3;decide),ϱ,_,ϱ,bD (λk=>?_) (λk=>?_)⟩
   .have b6:=I.g.wo.wi
    rw [I.eW] at b6
    refine sq λnF kF=>⟨_,ϱ,c.W,x.W.dx,_,ϱ,b6,cW θ,_,ϱ,λl dx nl k4 p9=>⟨l,dx,c.b.A.l,ϱ,ae,λh H4 eh o4=>⟨ϱ,?_⟩⟩⟩
    have ob:=o4.born (jI nl k4) nl
    subst eh
    have g4:=I.g.sheet n ob
    have ia:PaA H4 y ya:=g4.ow.ts _ _ bm
    obtain ⟨m,hm,nM⟩:∃m:Nat,z6/3%((U.map V.int).length:Int)=(m:Int)/\m<U.length:=by
     rw [ν]
     have h0:0<=z6/3%(U.length:Int):=ı _ ω
     have h1:z6/3%(U.length:Int)<(U.length:Int):=ŋ _ ω
     exact ⟨(z6/3%(U.length:Int)).toNat,ω,ω⟩
    have cf:inN (m:Int):=⟨ω,Int.lt_of_lt_of_le (show (m:Int)<8 by omega) ζ⟩
    have cF:(0:Int)<((U.map V.int).length:Int):=by rw [ν];omega
    have eD:(Str.ofString "take 0 ").length+(iS m).length<=sizeLine:=Λ (Nat.add_le_add (show (Str.ofString "take 0 ").length<=7 by decide +kernel) (f9 cf.v)) ζ
    have eH:Ar .take [0,(m:Int)]:=⟨⟨ζ,θ⟩,cf⟩
    have eI:inC d.cells.length .take [0,(m:Int)]:=(show (m:Int)<(d.cells.length:Int) by have:=I.cl;omega)
    have cZ:Own x y [] []:=.inl ⟨ef,c5,ϱ,ϱ⟩
    have eP:y∉nmW x.ps:=λz=>a1 (jq.sub y z)
    have b0:=I.cl
    have b1:=jq.jw.bw
    have b2:=jq.jw.bd
    have b3:=jq.jw.ba
    have b4:=jq.jw.bp
    have b5:=jq.pl
    refine ⟨_,ϱ,_,ϱ,_,_,ϱ,ϱ,⟨ζ,ζ⟩,_,ϱ,c.fa,_,ϱ,.inl (SqL.of (g4.out (I.e _ a5).1 (I.e _ a5).2).1),_,_,ϱ,ϱ,cF,m,congrArg (λz=>[V.int z]) hm,su cf.v,_,_,ϱ,ϱ,eD,c.b,h,d,[],[],.non,y,ya,0,0,.take,[0,m],x,[],[],(by rw [I.eW,← Dv];rfl),Z.pt,g4.self fK,ia,eH,eI,ω,ω,en,λz=>absurd z bt,cZ,(λ_ _ z=>by cases z),(by show 0<=100;decide),(by show 0<=100;decide),ω,ω,ω,(by show 0<=100;decide),(by show 0<=100;decide),ω,ϱ,ca,wplace_iff.mpr eP,λlk k1=>⟨λea k5 k6 c' e2 u t d' pu v' H5 g5 u1 u2 hu ht k8=>kF _ _ ?_,λea wt e2 H5 g5=>kF _ _ ?_⟩⟩
    .obtain ⟨ce,hF⟩:=k8.ce
     have o:AskO x y 0 0 .take [0,m] [] lk d d' ⟨x.W,x.dl,e2,k5,k6,x.pe,bh x.ps y lk,some c'⟩:=⟨ϱ,ϱ,ce,hF,.inl ⟨ea,ϱ,u1,u2⟩⟩
     have g:=(g4.trans g5).drop
     have X:=I.step g (by rw [ce.1]) (by unfold kU;rw [ce.2.2.2,ce.1];exact I.rc) rfl
     have a7:=cb.step g
     obtain ⟨j5,hG,nR,⟨hH,hI⟩,hK,nS,eg⟩:=jq.done a1 o ea
     have ij:=iU x.ps y lk
     refine ⟨_,ϱ,_,ϱ,c.W,x.W.dx,_,ϱ,(by have:=X.g.wo.wi;rw [X.eW] at this;exact this),cW θ,x.W,c.b.home,c.b.many,c.b.A.l,_,(by rw [I.eW];rfl),X.g.wo.wi,X.g.ls,(by show (bh x.ps y lk).length<=1000;omega),λq6 H6 kb s6 _ bP p6=>⟨q6,ϱ,⟨_,SqL.of bP⟩,pT bP p6 (by show (bh x.ps y lk).length<=900;omega) λzs H7 s7 pz p8 n8=>?_⟩⟩
     have s8:=af (o:=.lst zs) n8
     have ab:=s6.trans (s7.trans s8)
     have bA:PaA (upd H7 p8 (.lst zs)) y ya:=ab _ _ (g.ow.ts _ _ bm)
     refine ⟨y,p8,zs,nmW (bh x.ps y lk),cG (k:=y) bA,ϱ,.inl (SqL.of ae),Paired.mapP pz (λ_ _ z=>cPa.keep s8.ts z),.inr ⟨_,ϱ,?_⟩⟩
     rw [show ∀i:Decidable (y∈nmW (bh x.ps y lk)),@decide _ i=false from λi=>Γ hG]
     exact go _ d' _ 1 _ (G.map Pd.y++[y]) (X.same n ab) (a7.same ab) j5 (λz=>by simp) (ce.2.1.trans en) bA ca (.inr ⟨hH,hK,hI,eg⟩) (Nat.le_refl 1) rfl (by rw [eg];rfl) (.inl rfl)
    .have o:AskO x y 0 0 .take [0,m] [] lk d d ⟨x.W,x.dl,e2,x.dr,x.an,x.pe++[⟨y,wt,0,0,.take,[0,m]⟩],bh x.ps y lk,x.cz⟩:=⟨ϱ,ϱ,⟨ϱ,ϱ,ϱ,ϱ⟩,Ł _,.inr ⟨ea,⟨wt,ϱ,ϱ,ϱ⟩,ι _⟩⟩
     have g:=(g4.trans g5).drop
     have X:=I.step g rfl I.rc rfl
     have a7:=cb.step g
     have ij:=iU x.ps y lk
     refine ⟨_,ϱ,_,ϱ,c.W,x.W.dx,_,ϱ,(by have:=X.g.wo.wi;rw [X.eW] at this;exact this),cW θ,x.W,c.b.home,c.b.many,c.b.A.l,_,(by rw [I.eW];rfl),X.g.wo.wi,X.g.ls,(by show (bh x.ps y lk).length<=1000;omega),λq6 H6 kb s6 _ bP p6=>⟨q6,ϱ,⟨_,SqL.of bP⟩,pT bP p6 (by show (bh x.ps y lk).length<=900;omega) λzs H7 s7 pz p8 n8=>?_⟩⟩
     have s8:=af (o:=.lst zs) n8
     have ab:=s6.trans (s7.trans s8)
     have bA:PaA (upd H7 p8 (.lst zs)) y ya:=ab _ _ (g.ow.ts _ _ bm)
     refine ⟨y,p8,zs,nmW (bh x.ps y lk),cG (k:=y) bA,ϱ,.inl (SqL.of ae),Paired.mapP pz (λ_ _ z=>cPa.keep s8.ts z),.inr ⟨_,ϱ,?_⟩⟩
     have is:y∈nmW (bh x.ps y lk):=by rw [gq,ž (by rw [ea];decide)];exact Ψ _ (.head _)
     rw [show ∀i:Decidable (y∈nmW (bh x.ps y lk)),@decide _ i=true from λi=>τ is]
     have dA:=X.same n ab
     have eZ:=a7.same ab
     generalize (upd H7 p8 _)=H8 at ab bA dA eZ ⊢
     refine kE _ _ ⟨_,ϱ,ϱ,_,ϱ,bD (λz=>absurd z ζ) (λ_=>⟨_,ϱ,_,_,ϱ,ϱ,(by show (0:Int)<3;decide),ϱ,_,ϱ,bD (λz=>?_) (λ_=>?_)⟩)⟩
     .exfalso
      have z1:decide (V.int (z6%3)=V.int 0)=true:=k
      have z2:(!decide (V.int (z6%3)=V.int 0))=true:=z
      rw [z1] at z2
      cases z2
     refine ⟨_,ϱ,_,_,ϱ,ϱ,⟨ζ,ζ⟩,_,ϱ,c.fa,_,ϱ,.inl (SqL.of (dA.e _ a5).1),_,_,ϱ,ϱ,cF,m,congrArg (λz=>[V.int z]) hm,su cf.v,_,_,ϱ,ϱ,eD,χ,λta n9=>?_⟩
     rw [show (Str.ofString "take 0 "++Str.ofString (toString (m:Int)))=txt .take [0,(m:Int)] from Dv m]
     have s9:=af (o:=.tup [.int 0,.int 0,.str (txt .take [0,(m:Int)])]) n9
     have it:=dA.same n s9
     have dB:=eZ.same s9
     refine ⟨_,ϱ,_,ϱ,c.qa,_,ϱ,DPut.t (k:=pk y) dB.h (s9 _ _ bA) cx,?_⟩
     rw [show bZ (dP G) (pk y) (V.ref ta)=dP (G++[⟨y,ta,0,0,.take,[0,m]⟩]) from zy (e:=⟨y,ta,0,0,.take,[0,m]⟩) a1]
     exact ⟨d,_,_,_,_,_,_,ϱ,it.put (qs':=G++[⟨y,ta,0,0,.take,[0,m]⟩]) dB Z n,dB.put ⟨y,ta,0,0,.take,[0,m]⟩ ae,(jq.wait a1 eP ca cZ (ϖ _) eH eI (by rw [c5];rfl) o ea ta).mono ω (λz=>by rw [ſ];exact Iff.rfl),en,cd _ rfl⟩
   .exact go H3 d x 0 [] (G.map Pd.y) I cb (jq.mono ω λ_=>Iff.rfl) (λ_=>Iff.rfl) en bm ca (.inl ⟨ef,c5,ϱ,ϱ⟩) (Nat.zero_le _) rfl (by rw [c5];rfl) (.inr (by simpa using k))
  .rintro σ H1 ⟨d,x,G,y8,y9,y10,y11,rfl,lj,lq,jq,en,nm⟩
   have oa:G.length=M:=by have:=congrArg List.length nm;rw [ν,ν,List.length_range] at this;exact this
   refine kA _ _ ⟨c,d,x,G,y8,y9,y10,y11,ϱ,Z,lj,lq,jq.mono ω (λ_=>Iff.rfl),en,ω,?_,?_,nx⟩
   .rw [nm]
    refine List.pairwise_map.mpr (List.nodup_range.imp_of_mem λha hb ne e=>ne (vk Z.p1 ?_ ?_ e))
    .have:=ŗ.mp ha;omega
    .have:=ŗ.mp hb;omega
   .rw [nm]
    intro m
    obtain ⟨j,hj,e⟩:=ϑ.mp m
    have:=ŗ.mp hj
    exact xZ Z.p1 ω e
 case v3 =>
  rintro D σ H0 ⟨c,d,x,G,y8,y9,y10,y11,rfl,Z,lj,lq,jq,en,ld,gt,gA,nx⟩
  refine sq λnA kA=>⟨χ,λea n1=>kA _ _ (sq λnB kB=>?_)⟩
  have s1:=af (o:=.lst []) n1
  have f1:Fz C CS CH CL CV K c (upd H0 ea (.lst [])) G ea [] d x []:=⟨lj.same n s1,lq.same s1,ae,lj.g.ow.free n1,by rw [en];exact .nil,by rw [en];rfl,jq.jw,λpr hp=>⟨(λz=>nomatch z),jq.psm pr hp⟩,λu hu=>aq (lj.e u hu).1 n1,aq lq.h n1⟩
  generalize (upd H0 ea _)=H1 at f1 ⊢
  refine ⟨_,ϱ,_,ϱ,_,ϱ,_,ϱ,_,ϱ,_,ϱ,?_⟩
  dsimp only [tG]
  refine f1.fin (o:=c.o) Z.pt Z.n8 f1.lj.hp (λz=>nomatch z) (ϖ _) (λz=>absurd rfl z) λH2 d2 x2 g2 py f2=>⟨_,ϱ,aU (kB _ _ (sq λnC kC=>?_))⟩
  obtain ⟨bI,dc⟩:=f2.lj.e _ Z.pk
  refine ⟨_,ϱ,.inl bI,λlf lc H3 k3 t3 _ n3 kv kw=>?_⟩
  have g3:=((f2.lj.g.more (a:=Pk)).ext n k3 bI id dc (.inl (.head _))).self iB
  have dC:TSame H2 H3:=(cJ (CH:=CH) (CL:=CL) k3 bI id).ts
  have ix:c.qa≠Pk:=λz=>by have:=f2.lq.h;rw [z,bI] at this;cases this
  have ff:ea≠Pk:=λz=>by have:=f2.he;rw [z,bI] at this;cases this
  have dG:=k3 _ _ ix f2.lq.h
  refine ⟨c.qa,lf,_,ϱ,ϱ,dG,(by unfold dP;rw [List.length_map];omega),AO (m:=c.m) (hr.mono ζ) (λp hm=>by cases List.mem_singleton.mp hm;exact ⟨1,"_law_number_here",ϱ,ϱ,ϱ,ϱ,ϱ⟩) kv kw (λk hk=>by
   unfold dP at hk
   rw [ķ] at hk
   obtain ⟨e,_,rfl⟩:=ϑ.mp hk
   exact ⟨e.y,ϱ⟩),λla ks us H4 ga e3 s4 n4 h4=>kC _ _ (sq λnD kD=>?_)⟩
  obtain ⟨zs,pz,ei⟩:∃zs:à Pa,zs.Perm (G.map Pd.y)/\Paired (λ(y:Pa) k=>k=pk y) zs ks:=iw ga (by
   unfold dP
   rw [ķ]
   clear ga e3 lq jq gt gA ld f1 f2 dG
   induction G with
   | nil=>exact .nil
   | cons e r ih=>exact .cons rfl ih)
  have lz:=pz.length_eq
  have od:=ei.len
  have oe:=e3.len
  rw [ν] at lz
  have f4:Fz C CS CH CL CV K {c with E:=[(la,.lst us)]} H4 G ea [c.b.p] d2 x2 g2:=⟨⟨(g3.same n s4).self iB,λu hu=>by rw [ϵ.mp hu];exact ⟨h4,g3.ow.free n4⟩,s4 _ _ (dC _ _ f2.lj.hp),f2.lj.cl,f2.lj.rc,f2.lj.eW⟩,⟨s4 _ _ dG,f2.lq.n,λu hu=>s4 _ _ (dC _ _ (f2.lq.p u hu))⟩,s4 _ _ (k3 _ _ ff f2.he),f2.ne,Paired.mapP f2.pe λ_ _ z=>z.keep (dC.trans s4.ts),f2.en,f2.jw,f2.ps,λu hu=>by rw [ϵ.mp hu];exact Ne.symm (aq (k3 _ _ ff f2.he) n4),f2.nq⟩
  refine ⟨_,ϱ,la,ϱ,⟨_,SqL.of h4⟩,?_⟩
  refine jP (xs:=us) (λi σ O=>∃y8 y9 y10 y11 d x es,σ=sJ c a y8 y9 y10 y11 (some (.ref ea)) (some (.ref la))/\TSame H4 O/\Fz C CS CH CL CV K {c with E:=[(la,.lst us)]} O G ea (c.b.p::zs.take i) d x es) ⟨_,_,_,_,d2,x2,g2,ϱ,λ_ _ z=>z,f4⟩ (λi σ O _ z=>?_) ?_ ?_
  .obtain ⟨_,_,_,_,_,_,_,_,_,f⟩:=z
   exact SqL.of (f.lj.e _ (.head _)).1
  .rintro i u σ O hu ⟨y8,y9,y10,y11,d,x,es,rfl,ts,f⟩
   obtain ⟨k,ek,b,rfl,hb⟩:=e3.get hu
   obtain ⟨y,ey,rfl⟩:=ei.get ek
   have j7:=Ŵ ey
   have bt:y≠c.b.p:=λz=>gA (z▸pz.subset j7)
   have j8:y∉zs.take i:=λz=>by
    obtain ⟨j,hj⟩:=ť z
    rw [List.getElem?_take] at hj
    split at hj
    .next hlt =>
     have:=(ĥ (ż.mp hj).1 (pz.nodup_iff.mpr gt)).mp (hj.trans ey.symm)
     omega
    .cases hj
   have ext:c.b.p::zs.take (i+1)=c.b.p::zs.take i++[y]:=by rw [Ţ,ey];rfl
   refine ⟨_,ϱ,_,ϱ,_,ϱ,_,ϱ,_,ϱ,?_⟩
   dsimp only [tG]
   refine f.fin (o:="broken") Z.pt Z.n8 (ts _ _ (s4 _ _ hb)) (λz=>(ϕ.mp z).elim bt j8) (by rw [ŭ,ĺ];omega) (λ_=>by decide +kernel) λH5 d5 x5 kJ kP f5=>⟨_,ϱ,aU ⟨_,_,_,_,d5,x5,kJ,ϱ,λ_ _ z=>kP _ _ (ts _ _ z),by rw [ext];exact f5⟩⟩
  .rintro σ O ⟨y8,y9,y10,y11,d,x,es,rfl,ts,f⟩
   have e0:x.ps=[]:=List.eq_nil_iff_forall_not_mem.mpr λpr hp=>by
    obtain ⟨h1,h2⟩:=f.ps pr hp
    refine h1 ?_
    rcases h2 with z | z
    .rw [z];exact .head _
    .rw [List.take_of_length_le ω]
     exact .tail _ (pz.symm.subset z)
   have ls:LS C CL K O x.W.lk x.W.pl []:=e0▸f.lj.g.ls
   have b6:=f.lj.g.wo.wi
   have eW:x.W.l=c.W:=f.lj.eW
   refine kD _ _ ⟨_,ϱ,x.W.l,x.W.dx,_,(by rw [eW]),b6,cW θ,x.W,c.b.home,c.b.many,c.b.A.l,[],(by rw [eW];rfl),b6,ls,ϖ _,λq5 H5 r2 s5 _ kS p5=>⟨χ,λa6 n6=>?_⟩⟩
   cases p5
   have s6:=s5.trans (af (o:=.lst []) n6)
   refine ⟨[],[],⟨q5,_,ϱ,SqL.of (af n6 _ _ kS),.nil⟩,⟨a6,_,ϱ,SqL.of ae,.nil⟩,_,ϱ,cr ⟨_,ϱ,x.W.l,x.W.dx,_,(by rw [eW]),s6 _ _ b6,cW θ,x.W,c.b.home,c.b.many,c.b.A.l,[],(by rw [eW];rfl),s6 _ _ b6,e0▸(f.lj.same n s6).g.ls,ϖ _,λq7 H7 r5 s7 _ kX p7=>⟨χ,λa8 n8=>?_⟩⟩⟩
   cases p7
   exact ⟨[],[],⟨q7,_,ϱ,SqL.of (af n8 _ _ kX),.nil⟩,⟨a8,_,ϱ,SqL.of ae,.nil⟩,nx _ _ (q _)⟩
 obtain ⟨E0,ej,hQ,el⟩:∃E0:Cs,(∀u∈E0,H u.1=some u.2/\u.1∉[Y,Pk])/\(∀u∈E0,∀bS,u.2≠.dT bS)/\∀O,(∀u∈E0,O u.1=some u.2)->SqL K O a (ns.map V.int):=by
  have np:∀{o:HO},H a=some o->(∀t,o≠.tbl t)->a∉[Y,Pk]:=λ{o} e ne m=>ne _ (Δ (e.symm.trans (hP a m)))
  rcases id hS with (h | ⟨o,h⟩) | h
  .exact ⟨[(a,.lst (ns.map V.int))],(λu hu=>by rw [ϵ.mp hu];exact ⟨h,np h (λ_ z=>by cases z)⟩),(λu hu bS z=>by rw [ϵ.mp hu] at z;cases z),λO e=>.inl (.inl (e _ (.head _)))⟩
  .exact ⟨[(a,.frz o (.lst (ns.map V.int)))],(λu hu=>by rw [ϵ.mp hu];exact ⟨h,np h (λ_ z=>by cases z)⟩),(λu hu bS z=>by rw [ϵ.mp hu] at z;cases z),λO e=>.inl (.inr ⟨o,e _ (.head _)⟩)⟩
  .exact ⟨[],(λ_ h=>nomatch h),(λ_ h=>nomatch h),λO _=>.inr h⟩
 refine sq λnA kA=>⟨_,ϱ,a,ns,0,ϱ,hS,kA _ _ (sq λnB kB=>?_)⟩
 generalize dh ns 0=m
 obtain ⟨M,hM,hR,hT⟩:∃M:Nat,1+m%8=(M:Int)/\1<=M/\M<=8:=by
  have h0:0<=m%8:=ı _ ζ
  have h3:m%8<8:=ŋ _ ζ
  exact ⟨(1+m%8).toNat,ω,ω,ω⟩
 refine ⟨_,ϱ,_,_,ϱ,ϱ,(by show (0:Int)<8;decide),_,_,ϱ,ϱ,(M:Int),congrArg (λz=>[V.int z]) hM,ω,ω,?_⟩
 rw [ř]
 refine jN (n:=M) (λi ys O=>O=H/\∃vs:ù,ys=vs.map V.int/\vs.length=i) ⟨ϱ,[],ϱ,ϱ⟩ (ja ω) (λi ys O hi z=>jr ?_) (λys O z=>?_)
 .obtain ⟨rfl,vs,rfl,di⟩:=z
  exact ⟨_,ϱ,_,ϱ,_,_,ϱ,ϱ,_,_,ϱ,ϱ,⟨ω,ω⟩,_,ϱ,_,_,ϱ,ϱ,.inl ⟨ζ,ζ⟩,_,_,ϱ,ϱ,_,ϱ,λr _=>⟨ϱ,vs++[r],by rw [ſ];rfl,by rw [Ž];show vs.length+1=i+1;omega⟩⟩
 obtain ⟨rfl,U,rfl,di⟩:=z
 intro fa a5
 have s1:=af (o:=.lst (U.map V.int)) a5
 have fi:(upd O fa (.lst (U.map V.int))) fa=some (.lst (U.map V.int)):=ae
 have ji:fa∉[Y,Pk]:=λz=>by rw [hP fa z] at a5;cases a5
 generalize (upd O fa (HO.lst (U.map V.int)))=H1 at s1 fi ⊢
 have g0:0<=m/8%4:=ı _ ζ
 have g1:m/8%4<4:=ŋ _ ζ
 refine kB _ _ (sq λnC kC=>⟨_,ϱ,_,_,ϱ,ϱ,⟨ζ,ζ⟩,_,_,ϱ,ϱ,(by show (0:Int)<4;decide),_,_,ϱ,ϱ,_,ϱ,_,_,ϱ,ϱ,⟨ζ,ζ⟩,_,_,ϱ,ϱ,(by show (0:Int)<19;decide),χ,λpa kZ=>kC _ _ (sq λnD kD=>?_)⟩)
 have s2:=af (o:=.tup [.int (1+m/8%4),.int (m/40%19)]) kZ
 have dK:PaA (upd H1 pa (.tup [.int (1+m/8%4),.int (m/40%19)])) (1+m/8%4,m/40%19) pa:=ae
 have dN:=s1.trans s2
 have dS:=s2 _ _ fi
 have fn:1<=((1+m/8%4,m/40%19):Pa).1/\((1+m/8%4,m/40%19):Pa).1<=4:=⟨by show 1<=1+m/8%4;omega,by show 1+m/8%4<=4;omega⟩
 generalize (upd H1 pa _)=H5 at dK dN dS ⊢
 generalize ((1+m/8%4,m/40%19):Pa)=P1 at dK fn
 have fp:∀b∈[Y,Pk],H5 b=some (.tbl #[]):=λb hb=>dN _ _ (hP b hb)
 have g0:Ow CH CL [Y] H5 H5 [(Y,.tbl #[])]:=.mk0 (L:=[(Y,.tbl #[])]) (λx hx=>by rw [List.mem_singleton.mp hx];exact fp _ j0) (by simp [ad]) (λx hx=>by rw [List.mem_singleton.mp hx];exact id)
 refine ⟨_,ϱ,λl6 d6 e5 ge rd=>⟨l6,d6,fa,U,ϱ,ae,jI e5 ge _ _ dS,λA6 H6 eA iA oA=>⟨ϱ,kD _ _ (sq λnE kE=>?_)⟩⟩⟩
 subst eA
 have ob:=(oA P1).born (jI e5 ge) e5
 have g6:=g0.join ob
 have s6:Same H5 H6:=λb u e=>ob.fr b u (λz=>nomatch z) e
 have ft:Si CS K H6 P1 A6 ⟨U,[],none,[],[]⟩:=⟨iA,λ_ z=>by cases z⟩
 refine ⟨_,ϱ,λl7 d7 e6 gg rs=>⟨l7,d7,⟨0,5,P1,A6,Y⟩,⟨U,[],none,[],[]⟩,ϱ,ae,(Cn g6 ft).keep (jI e6 gg),ϱ,ϱ,λW dl H7 eW oW iW=>⟨ϱ,kE _ _ (sq λnF kF=>?_)⟩⟩⟩
 subst eW
 obtain ⟨o7,s7⟩:=tq (b:=⟨0,5,P1,A6,Y⟩) (d:=⟨U,[],none,[],[]⟩) (R:=[]) g6 (jI e6 gg) e6 oW
 have gd:Gd C CS CH CL CV K [Y] H5 H7 ⟨0,5,P1,A6,Y⟩ [] ⟨U,[],none,[],[]⟩ ⟨W,dl,[],[],[],[],[],none⟩:=⟨o7,ft.keep s7,iW,.nil,(λ_ z=>by cases z),(λ_ z=>nomatch z),ĉ,ĉ,ĉ⟩
 have dc:Pk∉[Y]:=λz=>(đ.mp nP).1 (by rw [ϵ.mp z];exact .head _)
 have hE:∀u∈(fa,HO.lst (U.map V.int))::(Pk,HO.tbl #[])::E0,H7 u.1=some u.2/\u.1∉ad (stL P1 A6 ⟨U,[],none,[],[]⟩++wtL CL ⟨0,5,P1,A6,Y⟩ ⟨W,dl,[],[],[],[],[],none⟩):=λu hu=>by
  rcases ϕ.mp hu with z | hu
  .rw [z];exact gd.out dS λz=>ji (ϕ.mpr (.inl (ϵ.mp z)))
  rcases ϕ.mp hu with z | z
  .rw [z];exact gd.out (fp _ j1) dc
  .exact gd.out (dN _ _ (ej u z).1) λy=>(ej u z).2 (ϕ.mpr (.inl (ϵ.mp y)))
 have lj:LJ C CS CH CL CV K ⟨m,fa,pa,0,"",⟨0,5,P1,A6,Y⟩,W.l,(fa,.lst (U.map V.int))::(Pk,.tbl #[])::E0,M⟩ H7 ⟨U,[],none,[],[]⟩ ⟨W,dl,[],[],[],[],[],none⟩:=⟨gd.self iB,hE,s7 _ _ (s6 _ _ dK),di,(λ_ z=>nomatch z),ϱ⟩
 refine ⟨_,ϱ,_,ϱ,_,ϱ,_,ϱ,_,ϱ,fa,_,ϱ,.inl (SqL.of (lj.e _ j0).1),⟨0,5,P1,A6,Y⟩,⟨U,[],none,[],[]⟩,⟨W,dl,[],[],[],[],[],none⟩,a,ns,(fa,.lst (U.map V.int))::(Pk,.tbl #[])::E0,pa,(by rw [ν];rfl),ϱ,lj.g,lj.hp,ϱ,ϱ,ϱ,ϱ,ϱ,ϱ,ϱ,ϱ,(by show 1<=U.length;omega),(by show U.length<=8;omega),hE,λO e=>el O λu hu=>e u (.tail _ (.tail _ hu)),λo d' x' H8 g8 fs=>kF _ _ (sq λnG kG=>λqa n9=>kG _ _ ?_)⟩
 have l8:=lj.step g8 (by rw [fs.cl]) fs.rc (by rw [fs.eW])
 have s9:=af (o:=.dT []) n9
 have Z:Fc K ⟨m,fa,pa,qa,o,⟨0,5,P1,A6,Y⟩,W.l,(fa,.lst (U.map V.int))::(Pk,.tbl #[])::E0,M⟩ a ns Y Pk:=⟨ϱ,hR,hT,⟨U,j0,di⟩,j1,λO e=>el O λu hu=>e u (.tail _ (.tail _ hu)),λu hu bS=>by
  rcases ϕ.mp hu with z | hu
  .rw [z];exact λy=>by cases y
  rcases ϕ.mp hu with z | z
  .rw [z];exact λy=>by cases y
  .exact hQ u z bS,fn⟩
 have l9:LJ C CS CH CL CV K ⟨m,fa,pa,qa,o,⟨0,5,P1,A6,Y⟩,W.l,(fa,.lst (U.map V.int))::(Pk,.tbl #[])::E0,M⟩ (upd H8 qa (.dT [])) d' x':=let z:=l8.same n s9;⟨z.g,z.e,z.hp,z.cl,z.rc,z.eW⟩
 exact ⟨_,d',x',ϱ,Z,l9,⟨ae,l8.g.ow.free n9,(λ_ z=>nomatch z)⟩,Jq.fst fs,fs.en,λv O z=>z⟩
def yD{val:Int->Int}{n:Nat}(F:Fun K "step_done" "PlusStep.step_done" cB f fd):FnOk P w K mg base CX0 5 f fd ["self","hand","value_of"] (fT P w K mg CW val n .plus base):=by
 refine F.ok gZ (λvs H Q E h=>?_) (λl A e s H vs Q E o h=>?_)
 .obtain ⟨v,g,b,i,_,j,d,_⟩:=h
  exact d.elim
 .obtain ⟨v,g,b,i,_,j,d,_⟩:=h
  exact d.elim
def yE{val:Int->Int}{n:Nat}(F:Fun K "step_done" "NeedStep.step_done" cC f fd):FnOk P w K mg base CX0 5 f fd ["self","hand","value_of"] (fT P w K mg CW val n .need base):=by
 refine F.ok hJ (λvs H Q E h=>?_) (λl A e s H vs Q E o h=>?_)
 .obtain ⟨v,g,b,i,_,j,d,_⟩:=h
  exact d.elim
 .obtain ⟨v,g,b,i,_,j,d,_⟩:=h
  exact d.elim
end
end K55
namespace L2
open PySem PySem.Spec PyProof.Rows PySem.W Lo
def uw{P:ê}{w:è}{K:ä}{mg mb:ā}{CX:CXT}{k:Nat}{fa a:é}{i:à (Addr×é)}{fd:ç}{x:Str}{sp:Sp}{f:ë}{vs:ü}{Y:ù}
  (KX:K.In f.heap)(av:f.heap.Ns mainGlobals mg)(hb:f.heap.Ns builtinsNs mb)(aR:∀x:Str,x≠"__name__"->mb x=bootBuiltins x)(Z:f.heap.NoLimit)(hg:f.gens=#[])
  (J:f.heap.get? a=some {cls:=.type "list",data:=.seq vs.toArray})(hi:IntsAre vs Y)(hl:Y.length<=sizeLine)(hr:Room k callerA)
  (hC:∀t∈i,codeHdIn K t.1 t.2=true)(hT1:∀t∈i,f.heap.get? t.2=some (tabObj #[]))(hK:noTabs K=true)(hB:BB mg f.heap)
  (F:∀base:ã,K.In base->BB mg base->FnOk P w K mg base CX k fa fd [x] sp)(L:∀(s:ë) (u:å),BindsTo s fd ⟨[u],[]⟩ [(x,u)])
  (aS:∀H:Hp,SqL K H a (Y.map V.int)->(∀b∈i.map Prod.snd,H b=some (.tbl #[]))->sp [.ref a] H (λv _=>v=.bl true) λ_ _ _=>False)
  (aZ:∀H e s',CX [] H f (λ_ _ _=>False) e s'->False) :
  codeAny (model P w) callerA (.call (.ref fa) ⟨[.ref a],[]⟩) (λr s'=>r=.ok (.ret (.bool true))/\OldK f.heap s'.heap/\s'.os=f.os/\AllBare s'.gens) f:=by
 have rv:=pK hi
 have Q:=hi.length
 have G:∀{b:é},b∈i.map Prod.snd->f.heap.get? b=some (tabObj #[]):=λ{b} z=>by
  obtain ⟨t,ht,e⟩:=ϑ.mp z
  rw [← e]
  exact hT1 t ht
 have y:¬(a∈i.map Prod.snd):=λz=>by
  rw [G z] at J
  cases J
 have kP:∀{b:é},b∈i.map Prod.snd->K.lookup b=none:=λ{b} z=>by
  cases q:K.lookup b with
  | none=>rfl
  | some o =>
   have h2:=ě.mp hK (b,o) (mem_of_lookupK q)
   have e:=KX _ _ q
   rw [G z] at e
   cases e
   exact absurd (show false=true from h2) Ÿ
 have U:∀{b:é},b∈i.map Prod.snd->∃cc,f.heap.TableAt cc b #[]:=λ{b} z=>by
  obtain ⟨t,ht,e⟩:=ϑ.mp z
  rw [← e]
  exact ⟨t.1,(codeHd_of_K KX (hC t ht)).tab (hT1 t ht)⟩
 have D:∀H:Hp,SqL K H a (Y.map V.int)->(∀b,b∈i.map Prod.snd->H b=some (.tbl #[]))->HOk P w H f.heap->(∀b,H b≠none->b=a\/(b∈i.map Prod.snd))->(H a≠none->K.lookup a=none)->(∀u,H a=some u->∃o xs,u=.frz o (.lst xs)) ->
   codeAny (model P w) callerA (.call (.ref fa) ⟨[.ref a],[]⟩) (λr s'=>r=.ok (.ret (.bool true))/\OldK f.heap s'.heap/\s'.os=f.os/\AllBare s'.gens) f:=by
  intro H hS hP X hA ak ap
  have g:∀{b:é} {o:Obj},f.heap.get? b=some o->H b=none->(pD f.heap H).get? b=some o:=λe n=>yY e n
  have a7:∀{b:é} {o:Obj},f.heap.get? b=some o->(o.cls≠.type "list")->o.cls≠.none->H b=none:=λ{b o} e d1 d2=>by
   cases q:H b with
   | none=>rfl
   | some u =>
    rcases hA b (by rw [q];simp) with e' | e'
    .subst e'
     rw [J] at e
     cases e
     exact absurd rfl d1
    .rw [G e'] at e
     cases e
     exact absurd rfl d2
  have a8:∀{b:é} {o:Obj} {es:Array DictEntry} {ep:Nat},f.heap.get? b=some o->o.data=.dict es ep->H b=none:=λ{b o es ep} e d=>by
   cases q:H b with
   | none=>rfl
   | some u =>
    rcases hA b (by rw [q];simp) with e' | e'
    .subst e'
     rw [J] at e
     cases e
     cases (show Data.seq vs.toArray _=Data.dict es ep from d)
    .rw [G e'] at e
     cases e
     cases (show Data.fields #[]=Data.dict es ep from d)
  have I:∀{b:é} {m:ā},f.heap.Ns b m->(pD f.heap H).Ns b m:=λ{b m} ⟨o,es,ep,e,d,r⟩=>⟨o,es,ep,g e (a8 e d),d,r⟩
  have W:K.In (pD f.heap H):=λb o e=>g (KX b o e) (by
   cases q:H b with
   | none=>rfl
   | some u =>
    rcases hA b (by rw [q];simp) with e' | e'
    .subst e'
     rw [ak (by rw [q];simp)] at e
     cases e
    .rw [kP e'] at e
     cases e)
  have hM:Mod K mg (pD f.heap H):=⟨W,I av,⟨mb,I hb,aR⟩,let ⟨mc,h1,h2⟩:=Z;⟨mc,I h1,h2⟩⟩
  have ab:BB mg (pD f.heap H):=by
   obtain ⟨bm,ob,b1,b2,b3,b4,b5,b6⟩:=hB
   exact ⟨bm,ob,b1,b2,g b3 (a7 b3 (by rw [b4];decide) (by rw [b4];nofun)),b4,b5,b6⟩
  have e0:Env0 P w K mg (pD f.heap H) callerA [] f H:=⟨ϱ,hM,λb o e=>AG e,Nat.le_of_eq (wD _ _),trivial,λb hb=>absurd (show b∈([]:û) from hb) (by simp),X,.of_eq hg⟩
  refine Ė ((F _ W ab).run callerA [] f H ⟨[.ref a],[]⟩ [.ref a] [.ref a] _ _ hr e0 (L f (.ref a)) (.cons rfl .nil) (aS H hS hP)) λr s' h=>?_
  cases r with
  | error e=>exact (aZ H e s' h).elim
  | ok fl =>
   cases fl with
   | next=>exact False.elim h
   | brk=>exact False.elim h
   | cont=>exact False.elim h
   | ret u =>
    obtain ⟨v,H',os,O,un,C,r',q⟩:=h
    have q':v=.bl true:=q
    subst q'
    obtain rfl:u=Value.bool true:=r'
    have j:∀b o,f.heap.get? b=some o->¬(b∈i.map Prod.snd)->s'.heap.get? b=some o:=λb o e nP=>by
     cases q:H b with
     | none=>exact un.keep b o e q (by intro z;exact absurd (show b∈([]:û) from z) (by simp)) (by simp)
     | some u =>
      rcases hA b (by rw [q];simp) with e' | e'
      .subst e'
       obtain ⟨ob,xs,rfl⟩:=ap u q
       have z2:=un.frzs b ob _ q
       obtain ⟨e1,_⟩:=X b _ q
       obtain ⟨e2,_⟩:=C b _ z2
       rw [e] at e1
       cases e1
       exact e2
      .exact absurd e' nP
    have tP:∀{b:é},b∈i.map Prod.snd->∃more,s'.heap.get? b=some {cls:=.none,data:=.fields (#[]++more)}:=λ{b} z=>by
     obtain ⟨more,eP⟩:=un.tbls b #[] (hP b z)
     exact ⟨more,C b _ eP⟩
    refine ⟨ϱ,⟨λb o e=>?_,λb o e=>?_⟩,os,O⟩
    .by_cases z:b∈i.map Prod.snd
     .rw [G z] at e
      cases e
      obtain ⟨more,t⟩:=tP z
      obtain ⟨_,tc⟩:=U z
      exact .inr (.inl ⟨tc.isCodeTable,ϱ,#[],more,ϱ,t⟩)
     .exact .inl (j b o e z)
    .by_cases z:b∈i.map Prod.snd
     .obtain ⟨more,t⟩:=tP z
      exact ⟨_,t⟩
     .exact ⟨o,j b o e z⟩
 cases hk:K.lookup a with
 | some o =>
  have e:=KX a o hk
  rw [J] at e
  cases e
  refine D (λb=>if b∈i.map Prod.snd then some (.tbl #[]) else none) (.inr ⟨_,vs.toArray,_,hk,ϱ,ϱ,ϱ,by rw [List.size_toArray,Q];exact hl,by simpa using rv⟩) (λb z=>if_pos z) (λb u z=>?_) (λb z=>?_) (λz=>absurd (if_neg y) z) λu z=>?_
  .by_cases hb:b∈i.map Prod.snd
   .have l:=(Ź hb).symm.trans z
    cases l
    exact G hb
   .have l:=(ž hb).symm.trans z
    cases l
  .by_cases hb:b∈i.map Prod.snd
   .exact .inr hb
   .exact absurd (ž hb) z
  .have l:=(ž y).symm.trans z
   cases l
 | none =>
  refine D (λb=>if b∈i.map Prod.snd then some (.tbl #[]) else if b=a then some (.frz {cls:=.type "list",data:=.seq vs.toArray} (.lst (Y.map V.int))) else none) (.inl (.inr ⟨{cls:=.type "list",data:=.seq vs.toArray},(ž y).trans (Ź rfl)⟩)) (λb z=>Ź z) (λb u z=>?_) (λb z=>?_) (λ_=>hk) λu z=>?_
  .by_cases hb:b∈i.map Prod.snd
   .have l:=(Ź hb).symm.trans z
    cases l
    exact G hb
   .have z1:=(ž hb).symm.trans z
    by_cases hb:b=a
    .have l:=(Ź hb).symm.trans z1
     cases l
     subst hb
     exact ⟨J,by rw [ν];exact hl,vs,_,rv,J⟩
    .have l:=(ž hb).symm.trans z1
     cases l
  .by_cases hb:b∈i.map Prod.snd
   .exact .inr hb
   .by_cases hb':b=a
    .exact .inl hb'
    .exact absurd ((ž hb).trans (ž hb')) z
  .have z1:=((ž y).trans (Ź rfl)).symm.trans z
   cases z1
   exact ⟨_,_,ϱ⟩
def vN{l:OpenLaw}{n k:Nat}{q:ê}{loose:ú}{XP:(ā)->ã->Prop}{YP:è->ã->Prop}{d:DefRec}{K:Params->ä}{sp:è->û->Sp}{x:Str}
  (hn:l.most=some n)(O:n<=sizeLine)(P:d.params.defaults=[])(hr:Room k callerA)(hY:∀(w:è) (h:ã),YP w h->(K w.params).In h)
  (F:∀(w:è) (mg:ā) (C:é) (h:ã),YP w h->(K w.params).In h->h.Ns mainGlobals mg->mg d.name=some (.ref C) ->
   ∃(I:ç) (y:à (Addr×é)),(∀(s:ë) (u:å),BindsTo s I ⟨[u],[]⟩ [(x,u)])/\(∀t∈y,codeHdIn (K w.params) t.1 t.2=true)/\(∀t∈y,h.get? t.2=some (tabObj #[]))/\noTabs (K w.params)=true /\
    ∀base:ã,(K w.params).In base->BB mg base->FnOk l.prog w (K w.params) mg base CX0 k C I [x] (sp w (y.map Prod.snd)))
  (Q:∀(w:è) (W:û) (H:Hp) (a:é) (D:ù),D.length<=n->SqL (K w.params) H a (D.map V.int)->(∀b∈W,H b=some (.tbl #[]))->sp w W [.ref a] H (λv _=>v=.bl true) λ_ _ _=>False) :
  WalkO q loose XP YP l.row.toRowW d [] (λf vs=>PySem.call f vs):=by
 refine Att.sW hn P λw s₀ s₁ mg mb C o pm cd a1 a vs D G Y ho hd a2 L r j i hg=>?_
 have U:=hY w _ Y
 obtain ⟨I,y,hb,X,J,Z,hF⟩:=F w mg C _ Y U G.T.g L
 exact uw U G.T.g G.T.b G.T.builtins G.T.nolimit hg r j (Λ i O) hr X J Z G.T.bmain hF hb (λH hS h1=>Q w _ H a D i hS h1) λH e s' z=>z
end L2
namespace K55
open PySem L2 Lo St
def kmk(a b c:é):Kd->é
 | .read=>a
 | .mean=>b
 | .change=>c
def wmk(a b c d e f g:é):Wd->é
 | .take=>a
 | .mean=>b
 | .sum=>c
 | .give=>d
 | .add=>e
 | .plus=>f
 | .need=>g
abbrev bmV:ü:=[.type "ValueError",.type "Exception",.type "BaseException",.type "object"]
section
variable {K:ä}{f:é}{x q:Str}{st:â}{fd:ç}
abbrev BdF(x q:Str)(st:â)(us:ü)(ps:ú):Prop:=∀(kV doc pm:å) (an:Option é) (cdv ct:å),bindArgs (PySem.W.fnOf x q (defArgs st) (defBody st) (defScope st) .none kV doc pm an cdv ct) ⟨us,[]⟩=pure (ps.zip us)
def FnB(x q:Str)(st:â)(ps:ú):Prop:=∀us:ü,us.length=ps.length->BdF x q st us ps
def Cu(P:ü->Prop):Nat->Prop
 | 0=>P []
 | n+1=>∀u,Cu (λus=>P (u::us)) n
def Dh:∀{n:Nat} {P:ü->Prop},Cu P n->∀us:ü,us.length=n->P us:=by
 intro n
 induction n with
 | zero=>intro P h us e;rw [List.eq_nil_of_length_eq_zero e];exact h
 | succ n ih =>
  intro P h us e
  cases us with
  | nil=>cases e
  | cons u us=>exact ih (P:=λus=>P (u::us)) (h u) us (Nat.succ.inj e)
def fb{ps:ú}(h:Cu (λus=>BdF x q st us ps) ps.length):FnB x q st ps:=Dh h
end
def FnX(K:ä)(f:é)(x q:Str)(st:â)(ps:ú):Prop:=PySem.W.isFn K (.ref f)=true/\∃fd,Fun K x q st f fd/\Binds K fd ps []
def fnx{K:ä}{f:é}{x q:Str}{st:â}{ps:ú}{oc kV dc pm cd ct:å}{od an:Option é}{sl:Array (î)}(b:FnB x q st ps)(l:K.lookup f=some ⟨oc,od,.func (PySem.W.fnOf x q (defArgs st) (defBody st) (defScope st) .none kV dc pm an cd ct),sl⟩)(c:PySem.W.codeIn K cd q=true)(k:PySem.W.keepIn K (.ref f)=true)(j:PySem.W.isFn K (.ref f)=true):FnX K f x q st ps:=⟨j,_,qZ l c k,(qZ l c k).binds λa e c d g h us hl=>b us hl a e c d g h⟩
open PySem.W (readsIn findCls fnOf codeIn handedIn findIn nsIn keepIn isFn plainGet hasDictIn plainOver makesIn mroIn kitOne specialIn takesIn excIn mg_of mg_none_of codeHdIn tabObj noTabs)
abbrev XF(K:ä)(C:é)(m:Str)(f:é):Prop:=PySem.W.findIn K (.ref C) m=some (some (.ref f))
abbrev X0(K:ä)(C:é)(m:Str):Prop:=PySem.W.findIn K (.ref C) m=some none
abbrev XN(K:ä)(m:Str)(f:é):Prop:=PySem.W.nsIn K mainGlobals m=some (some (.ref f))
abbrev Xn(K:ä)(m:Str):Prop:=PySem.W.nsIn K mainGlobals m=some none
def pj{K:ä}{C D f:é}{m:Str}(a:XF K C m f)(b:X0 K D m):C≠D:=λe=>by
 subst e
 have:=(show _=_ from a).symm.trans (show _=_ from b)
 cases this
structure Ck(K:ä)(C:é):Prop where
 c:Cls K C
 m:PySem.W.makesIn K C=true
 k:PySem.W.keepIn K (.ref C)=true
section
variable {P:ê}{w:è}{K:ä}{mg:ā}{base:ã}{k:Nat}{C f:é}{x:Str}{ps:ú}{sp:Sp}{fd:ç}
def gmk(a:XF K C x f)(j:PySem.W.isFn K (.ref f)=true)(e:PySem.W.keepIn K (.ref f)=true)(b:Binds K fd ps [])(o:FnOk P w K mg base CX0 k f fd ps sp):GM P w K mg base CX0 k C x ps sp:=⟨f,fd,o,b,⟨a,j,e⟩⟩
def gfk(e:PySem.W.keepIn K (.ref f)=true)(m:mg x=some (.ref f))(b:Binds K fd ps [])(o:FnOk P w K mg base CX0 k f fd ps sp):GF P w K mg base CX0 k x ps sp:=⟨f,fd,o,b,e,m⟩
end
def all_mk {l : PySem.W.OpenLaw} {w : è} {K : ä} {h : ã} {mg : Str → î} {fa CR hq C hr F hs fi ft u x j r6 hu hv hw hx WA o ca b6 WB cb ba WD cd cf bd WE ch bg WF cm cp bl WG cs Y bm WN ct bp CY CL g4 g5 g6 g7 g8 g9 ga gd ge H go gt gA cv gM gS h2 CH h3 h4 h5 h6 h7 y h8 ha bw cx hc hd he hg hh hi hy hz hA hC hD hE hF hG hI hK hL hM hP hQ hR fZ hS dT aS b0 b1 b2 r7 cz cF d0 d1 : é} (X : K.In h) (G : h.Ns mainGlobals mg) (Gk : mg "law" = some (.ref fa))
     {hT hY Gm r9:Option é} {i0 Gn:Array (î)} {i1 i2 i3 i7 a7 i8 Go ra rb rc dV rd:å} {b O a8 d2 ab d3 f:Tok} {ri:Array DictEntry} {Gp:Nat} {rk:Array DictEntry} {Gq:Nat} {oS o0 o1 o2:Option é} {sS s0 s1 s2:Array (î)} {vS v0 v1 v2:Nat} {t0 t1 t2 t3 t4 t5:Tok} {ro:Option é} {rp:Array (î)} {hj:ì} {rr:Option é} {rs:Array (î)} {hk:ì}
  (nR:XN K "Read" CR)
 (ia:Ck K CR)
  (Gr:X0 K CR "first")
  (Gu:X0 K CR "last")
  (ic:XF K CR "kind" hq)
  (Gv:FnX K hq "kind" "Read.kind" iE ["self"])
  (nM:XN K "Mean" C)
 (ih:Ck K C)
  (Gw:X0 K C "first")
  (Gx:X0 K C "last")
  (ij:XF K C "kind" hr)
  (Gy:FnX K hr "kind" "Mean.kind" iF ["self"])
  (nC:XN K "Change" F)
 (is:Ck K F)
  (Gz:X0 K F "first")
  (GA:X0 K F "last")
  (it:XF K F "kind" hs)
  (GB:FnX K hs "kind" "Change.kind" f8 ["self"])
  (GC:XF K CR "__init__" fi)
  (GD:XF K C "__init__" fi)
  (GE:XF K F "__init__" fi)
  (li:FnX K fi "__init__" "Lock.__init__" iH ["self","first","last"])
  (GG:XF K CR "told" ft)
  (GH:XF K C "told" ft)
  (GJ:XF K F "told" ft)
  (lt:FnX K ft "told" "Lock.told" iG ["self"])
  (iv:XF K CR "beside" u)
  (ix:XF K C "beside" u)
  (iy:XF K F "beside" u)
  (rt:FnX K u "beside" "Lock.beside" f7 ["self","other"])
  (iA:XF K CR "covers" x)
  (iW:XF K C "covers" x)
  (j7:XF K F "covers" x)
  (ru:FnX K x "covers" "Lock.covers" f6 ["self","other"])
  (GL:XN K "Reader" j)
 (d4:Ck K j)
  (GN:X0 K j "text")
  (GO:X0 K j "place")
  (GP:XF K j "__init__" r6)
  (GQ:FnX K r6 "__init__" "Reader.__init__" jb ["self","text"])
  (GR:XF K j "passes" hu)
  (GS:FnX K hu "passes" "Reader.passes" gV ["self","sign"])
  (GT:XF K j "read_any" hv)
  (GU:FnX K hv "read_any" "Reader.read_any" fM ["self","deep"])
  (GV:XF K j "read_below" hw)
  (GW:FnX K hw "read_below" "Reader.read_below" eX ["self"])
  (GX:XF K j "read_number" hx)
  (GY:FnX K hx "read_number" "Reader.read_number" d8 ["self"])
  (GZ:XN K "TakeStep" WA)
 (d5:Ck K WA)
  (rv:X0 K WA "where")
  (rx:X0 K WA "cell")
  (ry:X0 K WA "low")
  (rz:X0 K WA "high")
  (s3:X0 K WA "amount")
  (j8:XF K WA "__init__" o)
  (s4:FnX K o "__init__" "CellStep.__init__" eT ["self","where","cell"])
  (jn:XF K WA "lock" ca)
  (s5:FnX K ca "lock" "TakeStep.lock" eK ["self"])
  (jq:XF K WA "step_done" b6)
  (s6:FnX K b6 "step_done" "TakeStep.step_done" cA ["self","hand","value_of"])
  (H0:XN K "MeanStep" WB)
 (d6:Ck K WB)
  (s7:X0 K WB "where")
  (s8:X0 K WB "cell")
  (s9:X0 K WB "low")
  (sc:X0 K WB "high")
  (si:X0 K WB "amount")
  (jw:XF K WB "__init__" o)
  (k0:XF K WB "lock" cb)
  (sl:FnX K cb "lock" "MeanStep.lock" eQ ["self"])
  (k1:XF K WB "step_done" ba)
  (sm:FnX K ba "step_done" "MeanStep.step_done" d9 ["self","hand","value_of"])
  (H2:XN K "SumStep" WD)
 (d7:Ck K WD)
  (sn:X0 K WD "where")
  (sp:X0 K WD "cell")
  (sv:X0 K WD "low")
  (sw:X0 K WD "high")
  (sx:X0 K WD "amount")
  (k2:XF K WD "__init__" cd)
  (sA:FnX K cd "__init__" "SumStep.__init__" fy ["self","where","low","high"])
  (k3:XF K WD "lock" cf)
  (t6:FnX K cf "lock" "SumStep.lock" fx ["self"])
  (k4:XF K WD "step_done" bd)
  (t7:FnX K bd "step_done" "SumStep.step_done" bx ["self","hand","value_of"])
  (H3:XN K "GiveStep" WE)
 (da:Ck K WE)
  (t9:X0 K WE "where")
  (tc:X0 K WE "cell")
  (td:X0 K WE "low")
  (te:X0 K WE "high")
  (tg:X0 K WE "amount")
  (k5:XF K WE "__init__" o)
  (k6:XF K WE "lock" ch)
  (th:FnX K ch "lock" "GiveStep.lock" eR ["self"])
  (k7:XF K WE "step_done" bg)
  (ti:FnX K bg "step_done" "GiveStep.step_done" cD ["self","hand","value_of"])
  (H4:XN K "AddStep" WF)
 (dc:Ck K WF)
  (tk:X0 K WF "where")
  (tl:X0 K WF "cell")
  (tn:X0 K WF "low")
  (to:X0 K WF "high")
  (tr:X0 K WF "amount")
  (k8:XF K WF "__init__" cm)
  (tt:FnX K cm "__init__" "AddStep.__init__" fD ["self","where","cell","amount"])
  (kb:XF K WF "lock" cp)
  (tu:FnX K cp "lock" "AddStep.lock" fz ["self"])
  (kc:XF K WF "step_done" bl)
  (tv:FnX K bl "step_done" "AddStep.step_done" cL ["self","hand","value_of"])
  (H5:XN K "PlusStep" WG)
 (dg:Ck K WG)
  (tx:X0 K WG "where")
  (ty:X0 K WG "cell")
  (tA:X0 K WG "low")
  (tP:X0 K WG "high")
  (tR:X0 K WG "amount")
  (kd:XF K WG "__init__" cs)
  (tS:FnX K cs "__init__" "PlusStep.__init__" eN ["self","amount"])
  (kk:XF K WG "lock" Y)
  (u2:FnX K Y "lock" "Step.lock" iC ["self"])
  (ks:XF K WG "step_done" bm)
  (u3:FnX K bm "step_done" "PlusStep.step_done" cB ["self","hand","value_of"])
  (H6:XN K "NeedStep" WN)
 (dk:Ck K WN)
  (ui:X0 K WN "where")
  (uk:X0 K WN "cell")
  (uv:X0 K WN "low")
  (v3:X0 K WN "high")
  (v4:X0 K WN "amount")
  (kt:XF K WN "__init__" ct)
  (v5:FnX K ct "__init__" "NeedStep.__init__" eO ["self","amount"])
  (kv:XF K WN "lock" Y)
  (kw:XF K WN "step_done" bp)
  (vl:FnX K bp "step_done" "NeedStep.step_done" cC ["self","hand","value_of"])
  (H7:XN K "CellStep" CY)
  (H8:specialIn K (.ref CY) "__getattribute__"=some (some (.builtin "type.__getattribute__")))
  (H9:readsIn K CY (.type "type")=true)
  (Hc:findCls K (.ref CY) (.type "type") "__init__"=some (.val (.ref o)))
  (Hd:handedIn (.ref o)=true)
  (nL:XN K "Locks" CL)
 (kA:Ck K CL)
  (nP:X0 K CL "pairs")
  (kB:X0 K CL "kind")
  (vu:X0 K CL "keep")
  (vw:X0 K CL "value_at")
  (w0:XF K CL "__init__" g4)
  (w1:FnX K g4 "__init__" "Locks.__init__" gP ["self"])
  (w2:XF K CL "ask" g5)
  (w3:FnX K g5 "ask" "Locks.ask" eB ["self","p","lock"])
  (w4:XF K CL "hinderer" g6)
  (w5:FnX K g6 "hinderer" "Locks.hinderer" dL ["self","place"])
  (w6:XF K CL "waiting_pairs" g7)
  (w7:FnX K g7 "waiting_pairs" "Locks.waiting_pairs" bf ["self"])
  (w8:XF K CL "waiting_place" g8)
  (wa:FnX K g8 "waiting_place" "Locks.waiting_place" cg ["self","p"])
  (we:XF K CL "free" g9)
  (wh:FnX K g9 "free" "Locks.free" bz ["self","p"])
  (wi:XF K CL "held_pairs" ga)
  (wk:FnX K ga "held_pairs" "Locks.held_pairs" bE ["self"])
  (wo:XF K CL "held" gd)
  (ws:FnX K gd "held" "Locks.held" db ["self"])
  (wt:XF K CL "waiting" ge)
  (x0:FnX K ge "waiting" "Locks.waiting" b7 ["self"])
  (nS:XN K "Stand" H)
 (kC:Ck K H)
  (He:X0 K H "cells")
  (Hf:X0 K H "begins")
  (Hg:X0 K H "worked")
  (Hh:X0 K H "readies")
  (Hj:X0 K H "ends")
  (Hk:X0 K H "walks")
  (Hl:X0 K H "overs")
  (x1:XF K H "__init__" go)
  (x2:FnX K go "__init__" "Stand.__init__" gL ["self","cells"])
  (dl:XF K H "keep" gt)
  (x3:FnX K gt "keep" "Stand.keep" gK ["self","row"])
  (x4:XF K H "changes_of" gA)
  (x5:FnX K gA "changes_of" "Stand.changes_of" cU ["self","row"])
  (x6:XF K H "cell_at" cv)
  (x7:FnX K cv "cell_at" "Stand.cell_at" eM ["self","cell"])
  (x8:XF K H "cells_told" gM)
  (x9:FnX K gM "cells_told" "Stand.cells_told" cV ["self"])
  (xb:XF K H "news" gS)
  (xd:FnX K gS "news" "Stand.news" gJ ["self"])
  (xe:XF K H "bound" h2)
  (xs:FnX K h2 "bound" "Stand.bound" cN ["self"])
  (nH:XN K "Sheet" CH)
 (Q:Ck K CH)
  (Hm:X0 K CH "stand")
  (Ho:X0 K CH "rows")
  (Hq:X0 K CH "sent")
  (Hr:X0 K CH "latest")
  (kD:X0 K CH "kind")
  (xv:X0 K CH "keep")
  (xN:X0 K CH "value_at")
  (bA:XF K CH "__init__" h3)
  (ya:FnX K h3 "__init__" "Sheet.__init__" gO ["self","stand"])
  (ys:XF K CH "row" h4)
  (yv:FnX K h4 "row" "Sheet.row" iD ["self","row"])
  (z0:XF K CH "send" h5)
  (z1:FnX K h5 "send" "Sheet.send" gN ["self","to","word","p","more"])
  (z2:XF K CH "rows_told" h6)
  (z3:FnX K h6 "rows_told" "Sheet.rows_told" c9 ["self"])
  (z6:XF K CH "letters_told" h7)
  (z7:FnX K h7 "letters_told" "Sheet.letters_told" bj ["self"])
  (nV:XN K "Works" y)
 (kE:Ck K y)
  (Hs:X0 K y "stand")
  (Ht:X0 K y "home")
  (Hu:X0 K y "many")
  (Hv:X0 K y "locks")
  (Hw:X0 K y "drafts")
  (Hx:X0 K y "answers")
  (Hy:X0 K y "pending")
  (za:XF K y "__init__" h8)
  (zh:FnX K h8 "__init__" "Works.__init__" gH ["self","stand","home","many"])
  (zl:XF K y "work" ha)
  (zs:FnX K ha "work" "Works.work" gG ["self","sheet","p","i","hand","text"])
  (zu:XF K y "do_step" bw)
  (zz:isFn K (.ref bw)=true)
  (A0:K.lookup bw=some ⟨i1,hT,.func (fnOf "do_step" "Works.do_step" (defArgs aX) (defBody aX) (defScope aX) .none i2 i3 i7 hY a7 i8),i0⟩)
  (A6:codeIn K a7 "Works.do_step"=true)
  (hm:keepIn K (.ref bw)=true)
  (dp:XF K y "value_at" cx)
  (At:FnX K cx "value_at" "Works.value_at" dH ["self","p","cell"])
  (BT:XF K y "send_did" hc)
  (C2:FnX K hc "send_did" "Works.send_did" dJ ["self","sheet","p","i"])
  (CB:XF K y "is_bound" hd)
  (CN:FnX K hd "is_bound" "Works.is_bound" bQ ["self","p"])
  (CW:XF K y "ended" he)
  (CX:FnX K he "ended" "Works.ended" fY ["self","sheet","p"])
  (D0:XF K y "ready" hg)
  (DE:FnX K hg "ready" "Works.ready" cM ["self","sheet","p","houses"])
  (E1:XF K y "held" hh)
  (E5:FnX K hh "held" "Works.held" gI ["self"])
  (E6:XF K y "waiting" hi)
  (E7:FnX K hi "waiting" "Works.waiting" eJ ["self"])
  (Hz:XN K "lock_of" hy)
  (HA:FnX K hy "lock_of" "lock_of" ko ["told"])
  (HB:XN K "is_whole" hz)
  (HC:FnX K hz "is_whole" "is_whole" nu ["thing"])
  (HD:XN K "read_thing" hA)
  (HE:FnX K hA "read_thing" "read_thing" jC ["text"])
  (HF:XN K "is_sign" hC)
  (HH:FnX K hC "is_sign" "is_sign" pO ["sign"])
  (HI:XN K "read_step" hD)
  (HJ:FnX K hD "read_step" "read_step" dY ["text"])
  (HL:XN K "read_number" hE)
  (HM:FnX K hE "read_number" "read_number" fV ["word","letter"])
  (HN:XN K "made_step" hF)
  (HP:FnX K hF "made_step" "made_step" ig ["word","numbers"])
  (HQ:XN K "made_sum" hG)
  (HR:FnX K hG "made_sum" "made_sum" jh ["where","low","high"])
  (HT:XN K "_law_cell_at" hI)
  (HU:FnX K hI "_law_cell_at" "_law_cell_at" fm ["_law_script","_law_k"])
  (HX:XN K "_law_number" hK)
  (HY:FnX K hK "_law_number" "_law_number" fW ["_law_cell"])
  (HZ:XN K "_law_step" hL)
  (I0:FnX K hL "_law_step" "_law_step" ii ["_law_cell","_law_many"])
  (I1:XN K "_law_hand" hM)
  (I2:FnX K hM "_law_hand" "_law_hand" ik ["_law_cells","_law_hand_here","_law_text"])
  (I3:XN K "_law_first" hP)
  (I4:FnX K hP "_law_first" "_law_first" gw ["_law_works","_law_stand","_law_p","_law_script","_law_many"])
  (I5:XN K "_law_asked" hQ)
  (I6:FnX K hQ "_law_asked" "_law_asked" cY ["_law_works","_law_stand","_law_p","_law_i","_law_hand_here","_law_text"])
  (I7:XN K "_law_ended" hR)
  (I8:FnX K hR "_law_ended" "_law_ended" bR ["_law_works","_law_stand","_law_p","_law_outcome","_law_asked_here","_law_ends"])
  (aZ:XN K "law" fZ)
  (lZ:K.lookup fZ=some ⟨Go,Gm,.func (fnOf "law" "law" (defArgs eV) (defBody eV) (defScope eV) .none ra rb rc r9 dV rd),Gn⟩)
  (cZ:codeIn K dV "law"=true)
  (eZ:keepIn K (.ref fZ)=true)
  (i:Xn K "isinstance")
  (ds:Xn K "int")
  (bB:Xn K "bool")
  (dx:Xn K "str")
  (dy:Xn K "len")
  (Z:Xn K "range")
  (dz:Xn K "tuple")
  (e1:Xn K "list")
  (kG:Xn K "any")
  (dA:Xn K "all")
  (kH:Xn K "max")
  (bG:Xn K "sorted")
  (dB:Xn K "sum")
  (e2:Xn K "dict")
  (kI:Xn K "ord")
  (d:nsIn K mainGlobals "MOST_FIGURES_things"=some (some (.int 400 b)))
  (U:nsIn K mainGlobals "MOST_DEEP"=some (some (.int 8 O)))
  (ak:nsIn K mainGlobals "LONGEST"=some (some (.int 100000 a8)))
  (dC:nsIn K mainGlobals "BLANK"=some (some (.int 32 d2)))
  (ap:nsIn K mainGlobals "PERCENT"=some (some (.int 37 ab)))
  (dG:nsIn K mainGlobals "TILDE"=some (some (.int 126 d3)))
  (g:nsIn K mainGlobals "MOST_FIGURES_steps"=some (some (.int 40 f)))
  (I9:XN K "SHAPES" hS)
  (Ia:K.lookup hS=some ⟨.type "dict",none,.dict ri Gp,#[]⟩)
  (Ib:(hS==sysModules)=false)
  (Ic:PyProof.Rows.KTD.rowsLook zx ri.toList mw=true)
  (Id:XN K "RANKS" dT)
  (Ie:K.lookup dT=some ⟨.type "dict",none,.dict rk Gq,#[]⟩)
  (If:(dT==sysModules)=false)
  (Ig:PyProof.Rows.KTD.rowsLook zx rk.toList nK=true)
  (E8:XN K "SHARING" aS)
  (lS:K.lookup aS=some ⟨.type "tuple",oS,.seq #[.ref b0,.ref b1,.ref b2] vS,sS⟩)
  (E9:K.lookup b0=some ⟨.type "tuple",o0,.seq #[.str "read" t0,.str "read" t1] v0,s0⟩)
  (Eq:K.lookup b1=some ⟨.type "tuple",o1,.seq #[.str "read" t2,.str "mean" t3] v1,s1⟩)
  (Es:K.lookup b2=some ⟨.type "tuple",o2,.seq #[.str "mean" t4,.str "read" t5] v2,s2⟩)
  (Ih:XN K "NoThing" r7)
  (Ii:excIn K r7 bmV "ValueError.__new__"=true)
  (hcc1:a7=.ref cz)
  (Ku:K.lookup cz=some ⟨.type "code",ro,.fields hj,rp⟩)
  (hPt1:hj[11]?=some (.ref cF))
  (F0:codeHdIn K cz cF=true)
  (hT1:h.get? cF=some (tabObj #[]))
  (hcc2:dV=.ref d0)
  (Kv:K.lookup d0=some ⟨.type "code",rr,.fields hk,rs⟩)
  (hPt2:hk[11]?=some (.ref d1))
  (F1:codeHdIn K d0 d1=true)
  (hT2:h.get? d1=some (tabObj #[]))
  (hNe:[cF,d1].Nodup)
  (np:AI K=true)
  (hN:noTabs K=true) :
  ∃(fd:ç) (Ts:à (Addr×é)),(∀(s:ë) (v:å),BindsTo s fd ⟨[v],[]⟩ [("_law_script",v)])/\(∀t∈Ts,PySem.W.codeHdIn K t.1 t.2=true)/\(∀t∈Ts,h.get? t.2=some (PySem.W.tabObj #[]))/\PySem.W.noTabs K=true/\∀base:ã,K.In base->BB mg base->FnOk l.prog w K mg base CX0 10 fa fd ["_law_script"] (mM K (Ts.map Prod.snd)):=by
 have e:=Gk.symm.trans (PySem.W.mg_of X G aZ)
 cases e
 obtain ⟨F4,J9,kS,F5⟩:=Gv
 obtain ⟨F6,Ja,kX,F7⟩:=Gy
 obtain ⟨F8,Jb,kY,F9⟩:=GB
 obtain ⟨ji,di,Fi,bi⟩:=li
 obtain ⟨jt,dt,Ft,bt⟩:=lt
 have T:TxK K (kmk CR C F):=⟨λk=>match k with | .read=>ia.c | .mean=>ih.c | .change=>is.c,λk=>match k with | .read=>Gr | .mean=>Gw | .change=>Gz,λk=>match k with | .read=>Gu | .mean=>Gx | .change=>GA⟩
 have bC:∀k,mg (kdN k)=some (.ref (kmk CR C F k)):=λk=>match k with | .read=>Œ X G nR | .mean=>Œ X G nM | .change=>Œ X G nC
 obtain ⟨bN,Ik,I,bP⟩:=rt
 obtain ⟨c0,Il,J,c1⟩:=ru
 obtain ⟨Fe,dri,Ff,Fg⟩:=GQ
 obtain ⟨Fh,Jd,kZ,Fj⟩:=GS
 obtain ⟨Fk,dra,l0,Fl⟩:=GU
 obtain ⟨Fm,Je,l2,Fn⟩:=GW
 obtain ⟨Fo,Jf,l3,l4⟩:=GY
 obtain ⟨c2,Io,e3,ar⟩:=s4
 obtain ⟨l5,Ip,e4,l6⟩:=s5
 obtain ⟨l7,e5,e6,l8⟩:=s6
 obtain ⟨l9,Iq,e7,la⟩:=sl
 obtain ⟨lb,e9,ea,lc⟩:=sm
 obtain ⟨ld,Ir,le,lh⟩:=sA
 obtain ⟨lj,Is,eb,lk⟩:=t6
 obtain ⟨ll,ec,ed,lm⟩:=t7
 obtain ⟨ln,Iu,ee,lq⟩:=th
 obtain ⟨lr,ef,eg,lu⟩:=ti
 obtain ⟨lv,Iv,lw,lx⟩:=tt
 obtain ⟨lz,Iw,eh,lI⟩:=tu
 obtain ⟨ma,ei,ej,mb⟩:=tv
 obtain ⟨mc,Ix,me,mk⟩:=tS
 obtain ⟨ek,Iy,as,el⟩:=u2
 obtain ⟨mm,em,eo,mn⟩:=u3
 obtain ⟨mp,Iz,ms,mu⟩:=v5
 obtain ⟨mA,ep,eq,mB⟩:=vl
 have W:TxW K (wmk WA WB WD WE WF WG WN):=⟨λk=>match k with | .take=>d5.c | .mean=>d6.c | .sum=>d7.c | .give=>da.c | .add=>dc.c | .plus=>dg.c | .need=>dk.c,λk=>match k with | .take=>rv | .mean=>s7 | .sum=>sn | .give=>t9 | .add=>tk | .plus=>tx | .need=>ui,λk=>match k with | .take=>rx | .mean=>s8 | .sum=>sp | .give=>tc | .add=>tl | .plus=>ty | .need=>uk,λk=>match k with | .take=>ry | .mean=>s9 | .sum=>sv | .give=>td | .add=>tn | .plus=>tA | .need=>uv,λk=>match k with | .take=>rz | .mean=>sc | .sum=>sw | .give=>te | .add=>to | .plus=>tP | .need=>v3,λk=>match k with | .take=>s3 | .mean=>si | .sum=>sx | .give=>tg | .add=>tr | .plus=>tR | .need=>v4⟩
 obtain ⟨mG,IA,mN,mP⟩:=w1
 obtain ⟨mR,IB,er,mX⟩:=w3
 obtain ⟨n0,IC,et,n1⟩:=w5
 obtain ⟨n2,ID,eu,n3⟩:=w7
 obtain ⟨n4,IE,ev,n5⟩:=wa
 obtain ⟨n6,IF,ew,n7⟩:=wh
 obtain ⟨n8,IG,ey,n9⟩:=wk
 obtain ⟨na,IH,ez,nb⟩:=ws
 obtain ⟨nc,II,eA,nf⟩:=x0
 obtain ⟨nh,IJ,ni,nk⟩:=x2
 obtain ⟨nl,IK,eD,nm⟩:=x3
 obtain ⟨nn,IL,eH,no⟩:=x5
 obtain ⟨nq,IM,eI,nr⟩:=x7
 obtain ⟨ns,IN,eL,nv⟩:=x9
 obtain ⟨nw,IO,eP,nx⟩:=xd
 obtain ⟨ny,IP,eS,nz⟩:=xs
 obtain ⟨av,IQ,nA,aR⟩:=ya
 obtain ⟨nB,IR,eW,nD⟩:=yv
 obtain ⟨nE,IS,f0,nF⟩:=z1
 obtain ⟨nG,IT,f1,nI⟩:=z3
 obtain ⟨nJ,IU,f2,nT⟩:=z7
 obtain ⟨nW,IV,nX,nY⟩:=zh
 obtain ⟨nZ,IW,f3,o3⟩:=zs
 have fv:=qZ (st:=aX) A0 A6 hm
 have pb:=fv.binds (ps:=["self","sheet","p","waited"]) λ_ _ _ _ _ _ us hl=>match us,hl with | [_,_,_,_],_=>rfl
 obtain ⟨o4,IX,f4,o5⟩:=At
 obtain ⟨o7,IY,f5,o8⟩:=C2
 obtain ⟨oa,IZ,fc,ob⟩:=CN
 obtain ⟨oc,J0,ff,od⟩:=CX
 obtain ⟨oe,J1,fn,oi⟩:=DE
 obtain ⟨op,J2,fp,or⟩:=E5
 obtain ⟨os,J3,fr,ov⟩:=E7
 have L:TxL K (kmk CR C F) CL:=⟨kA.c,nP,λk=>match k with | .read=>pj ic kB | .mean=>pj ij kB | .change=>pj it kB⟩
 have hH:∀k,kmk CR C F k≠CH:=λk=>match k with | .read=>pj ic kD | .mean=>pj ij kD | .change=>pj it kD
 have n:Nq (kmk CR C F) H CH CL y:=⟨⟨pj dl xv,pj dl vu⟩,⟨pj dp xN,pj dp vw⟩,λk=>⟨hH k,L.ne k⟩⟩
 have D:TxD K H:=⟨kC.c,He,Hf,Hg,Hh,Hj,Hk,Hl⟩
 have DH:TxH K CH:=⟨Q.c,Hm,Ho,Hq,Hr⟩
 have TV:TxV K y:=⟨kE.c,Hs,Ht,Hu,Hv,Hw,Hx,Hy⟩
 obtain ⟨Jg,Jh,ow,Fp⟩:=HA
 have FG:mg "lock_of"=some (.ref hy):=Œ X G Hz
 obtain ⟨Ji,Jj,oA,Fq⟩:=HC
 have FH:mg "is_whole"=some (.ref hz):=Œ X G HB
 obtain ⟨Jk,Jl,oD,Fr⟩:=HE
 have FI:mg "read_thing"=some (.ref hA):=Œ X G HD
 obtain ⟨Jm,Jn,oL,Fs⟩:=HH
 have FJ:mg "is_sign"=some (.ref hC):=Œ X G HF
 obtain ⟨Jo,Jp,oW,Fu⟩:=HJ
 have FK:mg "read_step"=some (.ref hD):=Œ X G HI
 obtain ⟨Jr,Js,p1,Fv⟩:=HM
 have FL:mg "read_number"=some (.ref hE):=Œ X G HL
 obtain ⟨Jt,Ju,p2,Fw⟩:=HP
 have FM:mg "made_step"=some (.ref hF):=Œ X G HN
 obtain ⟨Jv,Jx,p3,Fx⟩:=HR
 have FN:mg "made_sum"=some (.ref hG):=Œ X G HQ
 obtain ⟨Jy,Jz,p4,Fy⟩:=HU
 have FO:mg "_law_cell_at"=some (.ref hI):=Œ X G HT
 obtain ⟨JA,JB,p5,FA⟩:=HY
 have FP:mg "_law_number"=some (.ref hK):=Œ X G HX
 obtain ⟨JC,JD,p6,FB⟩:=I0
 have FQ:mg "_law_step"=some (.ref hL):=Œ X G HZ
 obtain ⟨JE,JF,p7,FC⟩:=I2
 have FR:mg "_law_hand"=some (.ref hM):=Œ X G I1
 obtain ⟨JG,JH,p8,FD⟩:=I4
 have FS:mg "_law_first"=some (.ref hP):=Œ X G I3
 obtain ⟨JI,JJ,p9,FE⟩:=I6
 have FT:mg "_law_asked"=some (.ref hQ):=Œ X G I5
 obtain ⟨JK,JL,pa,FF⟩:=I8
 have FU:mg "_law_ended"=some (.ref hR):=Œ X G I7
 have FZ:=qZ (st:=eV) lZ cZ eZ
 have B:TxB mg:=⟨Ũ X G i,Ũ X G ds,Ũ X G bB,Ũ X G dx,Ũ X G dy,Ũ X G Z,Ũ X G dz,Ũ X G e1,Ũ X G kG,Ũ X G dA,Ũ X G kH,Ũ X G bG⟩
 have SS:TxS K mg:=⟨⟨aS,b0,b1,b2,Œ X G E8,D9 lS,yP E9,yP Eq,yP Es⟩⟩
 have RR:TxR K mg:=⟨⟨dT,Œ X G Id,xi Ie If Ig⟩⟩
 have TT:K55T.Tx K mg j:=⟨d4.c,GN,GO,Œ X G GL,Ũ X G i,Ũ X G ds,Ũ X G bB,Ũ X G dx,Ũ X G dy,Ũ X G kI,Ũ X G dA,Ũ X G Z,⟨_,Œ X G d⟩,⟨_,Œ X G U⟩,⟨_,Œ X G ak⟩,⟨_,Œ X G dC⟩,⟨_,Œ X G ap⟩,⟨_,Œ X G dG⟩⟩
 refine ⟨fnOf "law" "law" (defArgs eV) (defBody eV) (defScope eV) .none ra rb rc r9 dV rd,[(cz,cF),(d0,d1)],(λs v=>.of_eq rfl),Et F0 F1,Et hT1 hT2,hN,λbase _ hB=>?_⟩
 have GK:∀k,GM l.prog w K mg base CX0 1 (kmk CR C F k) "kind" ["self"] (h9 k):=λk=>match k with | .read=>⟨hq,_,D2 kS,F5,⟨ic,F4,kS.kp⟩⟩ | .mean=>⟨hr,_,D3 kX,F7,⟨ij,F6,kX.kp⟩⟩ | .change=>⟨hs,_,D4 kY,F9,⟨it,F8,kY.kp⟩⟩
 have Mk:∀k,Mk K (kmk CR C F k) fi:=λk=>match k with | .read=>⟨ia.m,GC,ji,ia.k⟩ | .mean=>⟨ih.m,GD,ji,ih.k⟩ | .change=>⟨is.m,GE,ji,is.k⟩
 have Gt:∀k,GM l.prog w K mg base CX0 2 (kmk CR C F k) "told" ["self"] (fR (kmk CR C F)):=λk=>match k with | .read=>⟨ft,_,qX Ft T GK,bt,⟨GG,jt,Ft.kp⟩⟩ | .mean=>⟨ft,_,qX Ft T GK,bt,⟨GH,jt,Ft.kp⟩⟩ | .change=>⟨ft,_,qX Ft T GK,bt,⟨GJ,jt,Ft.kp⟩⟩
 have GI:=yt (P:=l.prog) (w:=w) (mg:=mg) (base:=base) Fi T
 have dN:=yG (P:=l.prog) (w:=w) (mg:=mg) (base:=base) e3 W
 have WI:∀q,WI l.prog w K mg base (wmk WA WB WD WE WF WG WN) q:=λq=>match q with | .take=>⟨o,_,_,⟨d5.m,j8,c2,d5.k⟩,(dN.imp λ_ _ _ _ z=>rl rfl z).mono ζ,ar,Œ X G GZ⟩ | .mean=>⟨o,_,_,⟨d6.m,jw,c2,d6.k⟩,(dN.imp λ_ _ _ _ z=>rl rfl z).mono ζ,ar,Œ X G H0⟩ | .sum=>⟨cd,_,_,⟨d7.m,k2,ld,d7.k⟩,(yj le W).mono ζ,lh,Œ X G H2⟩ | .give=>⟨o,_,_,⟨da.m,k5,c2,da.k⟩,(dN.imp λ_ _ _ _ z=>rl rfl z).mono ζ,ar,Œ X G H3⟩ | .add=>⟨cm,_,_,⟨dc.m,k8,lv,dc.k⟩,yK lw W (Œ X G H7) ⟨H8,H9,Hc,Hd,e3.kp⟩ dN ar,lx,Œ X G H4⟩ | .plus=>⟨cs,_,_,⟨dg.m,kd,mc,dg.k⟩,(ym me W).mono ζ,mk,Œ X G H5⟩ | .need=>⟨ct,_,_,⟨dk.m,kt,mp,dk.k⟩,(yn ms W).mono ζ,mu,Œ X G H6⟩
 have pl:∀k,GM l.prog w K mg base CX0 2 ((kmk CR C F) k) "beside" ["self","other"] (jy (kmk CR C F)):=λk=>match k with | .read=>⟨u,_,kx I T SS GK,bP,⟨iv,bN,I.kp⟩⟩ | .mean=>⟨u,_,kx I T SS GK,bP,⟨ix,bN,I.kp⟩⟩ | .change=>⟨u,_,kx I T SS GK,bP,⟨iy,bN,I.kp⟩⟩
 have pn:∀k,GM l.prog w K mg base CX0 2 ((kmk CR C F) k) "covers" ["self","other"] (jv (kmk CR C F)):=λk=>match k with | .read=>⟨x,_,ku J T RR GK,c1,⟨iA,c0,J.kp⟩⟩ | .mean=>⟨x,_,ku J T RR GK,c1,⟨iW,c0,J.kp⟩⟩ | .change=>⟨x,_,ku J T RR GK,c1,⟨j7,c0,J.kp⟩⟩
 have Hi:=K55T.Ax (P:=l.prog) (w:=w) (mg:=mg) (base:=base) Ff TT
 have Hp:=K55T.An (P:=l.prog) (w:=w) (mg:=mg) (base:=base) kZ TT
 have Hn:=K55T.Ct (P:=l.prog) (w:=w) (mg:=mg) (base:=base) l3 TT
 have po:i9 K j "read_number" hx:=⟨GX,Fo,l3.kp⟩
 have FX:i9 K j "passes" hu:=⟨GR,Fh,kZ.kp⟩
 have FY:i9 K j "read_below" hw:=⟨GV,Fm,l2.kp⟩
 have G0:i9 K j "read_any" hv:=⟨GT,Fk,l0.kp⟩
 have Hb:=K55T.yJ l2 TT Hn l4 po
 have Ha:=K55T.CI l0 TT Hp Fj FX Hb Fn FY Hn l4 po
 have HG:=K55T.Ak (P:=l.prog) (w:=w) (mg:=mg) (base:=base) oL TT
 have HW:=K55T.ye (P:=l.prog) (w:=w) (mg:=mg) (base:=base) oA TT
 have r:=@gmk l.prog w K mg base
 have gg:=@gfk l.prog w K mg base
 have G1:=gg oA.kp FH Fq (HW)
 have G2:=gg oD.kp FI Fr (K55T.Am oD TT ⟨d4.m,GP,Fe,d4.k⟩ HG Fs oL.kp FJ Hi Fg Ha Fl G0)
 have G3:=gg p3.kp FN Fx (Ap p3 (WI .sum))
 have G4:=gg p2.kp FM Fw (yo p2 WI G3)
 have G5:=gg p1.kp FL Fv (Al p1 B (Œ X G Ih) Ii θ ⟨_,Œ X G g⟩ G2 G1)
 have pr:=gg oW.kp FK Fu (yk oW B (Œ X G I9) (xi Ia Ib Ic) G5 G4)
 have G6:=gg ow.kp FG Fp (wm ow T bC Mk GI bi)
 have Gl:∀q,GM l.prog w K mg base CX0 3 ((wmk WA WB WD WE WF WG WN) q) "lock" ["self"] (eY (wmk WA WB WD WE WF WG WN) K q):=λq=>match q with | .take=>⟨ca,_,yp e4 W T bC Mk GI bi Gt,l6,⟨jn,l5,e4.kp⟩⟩ | .mean=>⟨cb,_,yr e7 W T bC Mk GI bi Gt,la,⟨k0,l9,e7.kp⟩⟩ | .sum=>⟨cf,_,Aq eb W T bC Mk GI bi Gt,lk,⟨k3,lj,eb.kp⟩⟩ | .give=>⟨ch,_,yw ee W T bC Mk GI bi Gt,lq,⟨k6,ln,ee.kp⟩⟩ | .add=>⟨cp,_,Au eh W T bC Mk GI bi Gt,lI,⟨kb,lz,eh.kp⟩⟩ | .plus=>⟨Y,_,(sg (.inl rfl) as).mono ζ,el,⟨kk,ek,as.kp⟩⟩ | .need=>⟨Y,_,(sg (.inr rfl) as).mono ζ,el,⟨kv,ek,as.kp⟩⟩
 have G7:=wl (P:=l.prog) (w:=w) (mg:=mg) (base:=base) mN L
 have b5:=r w4 n0 et.kp n1 (AA et B T L pl)
 have pu:=r wi n8 ey.kp n9 (yA ey B L b5)
 have fA:=r w6 n2 eu.kp n3 (yg eu B L b5)
 have pw:=r w8 n4 ev.kp n5 (wg ev B L b5)
 have px:=r w2 mR er.kp mX (CG er B T L pn b5 pw)
 have py:=r we n6 ew.kp n7 (AC ew L fA)
 have pz:=r wo na ez.kp nb (AB ez T L pu Gt)
 have qa:=r wt nc eA.kp nf (uf eA T L fA Gt)
 have G8:=wj (P:=l.prog) (w:=w) (mg:=mg) (base:=base) (CH:=CH) (CL:=CL) ni B D
 have dS:=yz (P:=l.prog) (w:=w) (mg:=mg) (base:=base) (CL:=CL) nA DH
 have qn:=r x4 nn eH.kp no (CF eH D)
 have qs:=r dl nl eD.kp nm (Av eD D n.s qn)
 have fB:=r x8 ns eL.kp nv (yH eL B D)
 have fC:=r xb nw eP.kp nx (Ao eP B D)
 have fG:=r xe ny eS.kp nz (yI eS D)
 have c3:=r ys nB eW.kp nD (Ay eW D DH n.s qs fC)
 have fI:=r z0 nE f0.kp nF (yx (CL:=CL) f0 DH)
 have fN:=r z2 nG f1.kp nI (yy f1 B DH)
 have fP:=r z6 nJ f2.kp nT (Az f2 D DH fC)
 have G9:∀Bh:ã,GM l.prog w K mg Bh CX0 1 H "cell_at" ["self","cell"] (jx H):=λBh=>⟨cv,_,wq eI D,nr,⟨x6,nq,eI.kp⟩⟩
 have HV:∀Bh:ã,K.In Bh->GM l.prog w K mg Bh CX0 2 y "value_at" ["self","p","cell"] (js H y):=λBh _=>⟨cx,_,yi f4 D TV (G9 Bh),o5,⟨dp,o4,f4.kp⟩⟩
 have HS:∀(q:Wd) (val:Int->Int) (n:Nat) (Bh:ã),n<=1000->K.In Bh->FnOk l.prog w K mg Bh CX0 5 ((wmk b6 ba bd bg bl bm bp) q) ((λq:Wd=>match q with | .take=>e5 | .mean=>e9 | .sum=>ec | .give=>ef | .add=>ei | .plus=>em | .need=>ep) q) ["self","hand","value_of"] (fT l.prog w K mg (wmk WA WB WD WE WF WG WN) val n q Bh):=λq val n Bh hn _=>match q with | .take=>yC (.inl rfl) e6 gY rfl rfl W | .mean=>yC (.inr rfl) ea hO rfl rfl W | .sum=>AD ed W B (Ũ X G dB) hn | .give=>yF eg W | .add=>AE ej W | .plus=>yD eo | .need=>yE eq
 have mS:∀q,i9 K ((wmk WA WB WD WE WF WG WN) q) "step_done" ((wmk b6 ba bd bg bl bm bp) q):=λq=>match q with | .take=>⟨jq,l7,e6.kp⟩ | .mean=>⟨k1,lb,ea.kp⟩ | .sum=>⟨k4,ll,ed.kp⟩ | .give=>⟨k7,lr,eg.kp⟩ | .add=>⟨kc,ma,ej.kp⟩ | .plus=>⟨ks,mm,eo.kp⟩ | .need=>⟨kw,mA,eq.kp⟩
 have bS:∀q,Binds K ((λq:Wd=>match q with | .take=>e5 | .mean=>e9 | .sum=>ec | .give=>ef | .add=>ei | .plus=>em | .need=>ep) q) ["self","hand","value_of"] []:=λq=>match q with | .take=>l8 | .mean=>lc | .sum=>lm | .give=>lu | .add=>mb | .plus=>mn | .need=>mB
 have Ga:=yh nX D TV n ⟨kA.m,w0,mG,kA.k⟩ (Œ X G nL) G7 mP fG
 have fS:=r CB oa fc.kp ob (CA fc D TV fG)
 have qx:=r BT o7 f5.kp o8 (CD f5 DH TV n fI)
 have g2:=r zu zz hm pb (wn (cc:=cz) fv (Ũ X G e2) W TV DH n hB hcc1 F0 pr HV HS mS bS c3 qx)
 have c4:=r zl nZ f3.kp o3 (Aj f3 W TV L n fS px G6 pr Gl g2)
 have r0:=r CW oc ff.kp od (yB ff TV L n np py g2)
 have g3:=r E1 op fp.kp or (yf fp TV L pz)
 have c5:=r E6 os fr.kp ov (yd fr TV L qa)
 have r1:=r D0 oe fn.kp oi (yl fn B TV DH n fS g3 c3 fI)
 have r2:=gg p4.kp FO Fy (AF p4 B)
 have hp:=gg p5.kp FP FA (As p5)
 have r3:=gg p6.kp FQ FB (yq p6 B hp)
 have r4:=gg p7.kp FR FC (yu p7 B (Ũ X G dB))
 have Gb:=gg p8.kp FS FD (Cv p8 B TV n ⟨Q.m,bA,av,Q.k⟩ (Œ X G nH) dS aR r2 hp r3 c4 r1)
 have Gc:=gg p9.kp FT FE (Cz p9 B D TV DH n ⟨Q.m,bA,av,Q.k⟩ (Œ X G nH) dS aR c5 fN fP fB r4 c4)
 have Ge:=gg pa.kp FU FF (Cw pa B D TV DH n np ⟨Q.m,bA,av,Q.k⟩ (Œ X G nH) dS aR c5 fN fP fB r4 c3 r0)
 exact Cy (cc:=d0) FZ B TV n hNe hB hcc2 F1 ⟨kC.m,x1,nh,kC.k⟩ (Œ X G nS) G8 nk ⟨kE.m,za,nW,kE.k⟩ (Œ X G nV) Ga nY ⟨Q.m,bA,av,Q.k⟩ (Œ X G nH) dS aR r2 hp r3 Gb Gc Ge c4 g3 c5
def walk{l:PySem.W.OpenLaw}{q:ê}{loose:ú}{XP:(ā)->ã->Prop}{YP:è->ã->Prop}{d:DefRec}{K:Params->ä}(hn:l.most=some 63)(hdf:d.params.defaults=[])
  (hY:∀(w:è) (h:ã),YP w h->(K w.params).In h)
  (F:∀(w:è) (mg:ā) (fa:é) (h:ã),YP w h->(K w.params).In h->h.Ns mainGlobals mg->mg d.name=some (.ref fa) ->
   ∃(fd:ç) (Ts:à (Addr×é)),(∀(s:ë) (u:å),BindsTo s fd ⟨[u],[]⟩ [("_law_script",u)])/\(∀t∈Ts,PySem.W.codeHdIn (K w.params) t.1 t.2=true)/\(∀t∈Ts,h.get? t.2=some (PySem.W.tabObj #[]))/\PySem.W.noTabs (K w.params)=true /\
    ∀base:ã,(K w.params).In base->BB mg base->FnOk l.prog w (K w.params) mg base CX0 10 fa fd ["_law_script"] (mM (K w.params) (Ts.map Prod.snd))) :
  PySem.W.WalkO q loose XP YP l.row.toRowW d [] (λf vs=>PySem.call f vs) :=
 L2.vN (n:=63) (k:=10) (x:="_law_script") (sp:=λw Ps=>mM (K w.params) Ps) hn ζ hdf ⟨ϱ,ζ,ζ⟩ hY F λw Ps H a ns hl hS hP=>⟨a,ns,ϱ,hS,hl,hP,λ_=>rfl⟩
end K55
open PySem PySem.W PyProof.Rows
set_option maxRecDepth 100000 in
set_option maxHeartbeats 0 in
theorem PySem.Challenge.cw_pactroom_k55_who_waited_goes_on_holds : PySem.Challenge.rw_pactroom_k55_who_waited_goes_on.Holds := by
 w_on;o_law
 refine holds_open (q:=Q.qv) (loose:=Q.lo) (Xt:=Q.Xt) (XP:=XL Q.qv Q.lvv) (Yf:=Hook.obs (kmHook Q.Kf Q.Ka Q.ke [771,1053])) (Ya:=Hook.val (kmHook Q.Kf Q.Ka Q.ke [771,1053])) (YP:=Hook.says (kmHook Q.Kf Q.Ka Q.ke [771,1053])) (N:=17376) Q.left (Hook.of (kmHook Q.Kf Q.Ka Q.ke [771,1053])) (Hook.keeps (kmHook Q.Kf Q.Ka Q.ke [771,1053])) (λs e=>xl_of s (Bool.and_eq_true_iff.mp e).1) XL.keeps (by rfl) (by rfl) (by rfl) (λs e=>recFacts_of (Bool.and_eq_true_iff.mp e).2) (by rfl) (by first | assumption | decide +kernel) (by decide +kernel) ⟨rfl,rfl,rfl,rfl,rfl,by decide +kernel⟩ ?hw ?hc
 (case hw=>w_witness2)
 k_fill
 refine K55.walk (l:=PySem.Challenge.rw_pactroom_k55_who_waited_goes_on) rfl rfl (λw h Y=>PySem.W.km_in_of Y) ?F
 case F =>
  intro w f g h Y d G b
  apply K55.all_mk d G b
  all_goals first | (delta K55.XF;k_is) | (delta K55.X0;k_is) | (delta K55.XN;k_is) | (delta K55.Xn;k_is) | exact ⟨⟨by k_is,by k_is,by k_is,by k_is⟩,by k_is,by k_is⟩ | (case hcc1=>exact rfl) | (case hPt1=>exact rfl) | (case hT1=>exact PySem.W.km_tabs_of Y _ (by k_mem)) | (case hcc2=>exact rfl) | (case hPt2=>exact rfl) | (case hT2=>exact PySem.W.km_tabs_of Y _ (by k_mem)) | (case hNe=>decide) | k_is | exact K55.fnx (by (apply K55.fb;first | exact λ_ _ _ _ _ _=>rfl | exact λ_ _ _ _ _ _ _=>rfl | exact λ_ _ _ _ _ _ _ _=>rfl | exact λ_ _ _ _ _ _ _ _ _=>rfl | exact λ_ _ _ _ _ _ _ _ _ _=>rfl | exact λ_ _ _ _ _ _ _ _ _ _ _=>rfl | exact λ_ _ _ _ _ _ _ _ _ _ _ _=>rfl)) (by k_is) (by k_is) (by k_is) (by k_is) | kit_is | k_exc | kernel_rfl | skip
