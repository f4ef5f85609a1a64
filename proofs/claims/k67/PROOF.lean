import PyProof.Rows.All
import Wide.All
import OpenK.AllK
import Wide.FinOn
import Lean
import PyProof.EqAt
import PyProof.EqKinds
import PyProof.TupleCall
import PySem.Challenge.RW_talkcourt_k67_webs_good_and_spoilt
set_option Elab.async false
set_option linter.all false
set_option maxRecDepth 100000
set_option maxHeartbeats 8000000
theorem zzN:¬ (false=true):=Bool.false_ne_true
theorem zzB:(false=true)=False:=Bool.false_eq_true
theorem zzC {α:Type _} {a:α} {l:List α}:(a::l).length=l.length+1:=rfl
theorem zzL {α:Type _}:([]:List α).length=0:=rfl
theorem zzA (n:Nat):0+n=n:=Nat.zero_add n
theorem zzM {α β:Type _} {l:List α} {f:α->β}:(l.map f).length=l.length:=List.length_map f
theorem zzP {α β:Type _} {b:β} {l:List α} {f:α->β} (h:b∈l.map f):∃ a,a∈l/\f a=b:=List.mem_map.mp h
theorem zzS {α:Type _} {l:List α}:l.toArray.size=l.length:=List.size_toArray
theorem zzR (n:Nat):n<=n:=Nat.le_refl n
theorem zzO {α:Type _} {a b:α} (h:a∈[b]):a=b:=List.mem_singleton.mp h
theorem zzT {α:Type _} {a:α} {l:List α}:a∈a::l:=List.mem_cons_self
theorem zzU {α β:Type _} {a:α} {l:List α} {f:α->β}:(a::l).map f=f a::l.map f:=rfl
theorem zzV {α β:Type _} {f:α->β}:([]:List α).map f=[]:=rfl
theorem zzW {α:Type _} {l l':List α}:(l++l').length=l.length+l'.length:=List.length_append
open PySem renaming wpAny_bind→Za, wpAny_pure→Zc, wpAny_field→Zu, wpAny_newObj_type→ZA, wpAny_call_entry→ZC, sizeLine_eq→ZD, wpAny_truthy_bool→ZE, wpAny_Call_Name_kw→ZH, wpAny_callSpecial?_slot→ZJ, wpAny_holding→ZK, builtinLookup_eq_fast→ZL, wpAny_setField→ZM, wpAny_mono→ZN, wpAny_seqItems→Z5, wpAny_setField_rec→Z8, codeAny_builtin→Zaa, typeLookup_type→Zab, wpAny_loadPart_at→Zag, wpAny_setState_of→Zah, plainId_quiet→Zal, wpAny_specialOf→Zat, wpAny_isSubtype_exc→ZaA, wpAny_updateSeq→ZaB, wpAny_isInstance→ZaF, wpAny_attempt→ZaK, isSubtype_type→ZaN, wpAny_passesOwn→ZaT, wpAny_rule→ZaU, codeAny_mono→ZaV, mem_of_lookup→Za0, wpAny_getItem_str_slice→Za1, wpAny_of_eq→Za7, wpAny_typeOf→Za8, codeAny_call_builtin→Zbb, wpAny_binaryOp_repeat_ref→Zbd, codeAny_of_tree→Zbt, tupleKind_room_in1→Zbu, call_meets→Zbz, wpAny_pyIter_list→ZbA, wpAny_pyIter_slot→ZbB, wpAny_askSetting→ZbH, codeAny_extend_loopS→ZbK, wpAny_updateSeq_pair→ZbL, typeIs_int→ZbM, post_val_or_str→ZbP, wpAny_execs_nil→ZbQ, wpAny_pyIter_tuple→ZbY, wpAny_runValue→Zb1, wpAny_call→Zb7, wpAny_sequenceKey→Zb8, wpAny_setEpoch_of→Zb9, wpAny_onRaise→Zcd, wpAny_standAt→Zce, entryFor_of_tree→Zck, noFill_tuple_add→Zcl, wpAny_load→Zct, callType_codes→Zcu, entryFor_alias→Zcv, isSubtype_stop→Zcw, wpAny_loadPart→Zcx, wpAny_newTuple→Zcy, wpAny_letGo→Zcz, seq_tuple_add→ZcE
open PySem.Heap renaming get?_push_of_some→Zb, get?_push_size→Zd, lt_size→Zf, get?_update_other→Zm, get?_update_self→Zr, size_push→ZF, get?_some_iff→ZbS
open List renaming getElem?_eq_getElem→Ze, getElem?_eq_some_iff→Zg, length_cons→Zh, getElem?_map→Zj, mem_cons→Zk, mem_cons_of_mem→Zo, length_nil→Zs, not_mem_nil→Zt, mem_of_getElem?→Zv, mem_append_right→Zw, mem_singleton→Zx, lookup_cons→ZB, all_eq_true→ZI, append_nil→ZO, getElem?_cons_succ→ZR, cons_append→ZT, getElem?_cons_zero→ZW, find?_cons→ZY, nil_append→ZZ, contains_iff_mem→Z2, mem_append→Z3, mem_append_left→Z7, length_take→Zac, length_range→Zae, map_map→Zaf, map_append→Zai, nodup_cons→Zaj, take_succ_eq_append_getElem→Zam, getElem?_append_right→Zan, replicate_succ→Zao, all_cons→Zaq, getElem?_append_left→Zar, getElem?_eq_none→Zas, getElem_mem→Zau, length_drop→Zav, getElem?_set_ne→Zaw, mem_range→Zax, getElem?_set_self→ZaC, getD_eq_getElem?_getD→ZaE, any_cons→ZaG, getElem_range→ZaH, pairwise_cons→ZaI, set_cons_zero→ZaJ, getElem?_eq_none_iff→ZaL, mem_iff_getElem→ZaO, flatten_cons→ZaQ, reverse_cons→ZaR, filterMap_cons→ZaY, zip_cons_cons→Za2, length_filter_le→Za4, isEmpty_map→Zbe, length_reverse→Zbh, map_congr_left→Zbi, contains_eq_any_beq→Zbk, forIn_cons→Zbp, getElem?_replicate→Zbq, set_cons_succ→Zbr, find?_cons_of_neg→Zbv, take_of_length_le→Zbw, forIn_nil→ZbC, filterMap_append→ZbE, length_replicate→ZbF, length_dropLast→ZbI, length_set→ZbN, all_map→ZbT, any_map→ZbU, mem_filterMap→ZbV, nodup_nil→ZbZ, take_sublist→Zb5, filter_cons→Zch, map_reverse→Zci, take_length→Zcj, mem_filter→Zcn, of_mem_zip→Zco, map_drop→ZcD
open Nat renaming lt_of_lt_of_le→Zi, ne_of_lt→Zl, le_trans→Zy, zero_le→ZX, ne_of_gt→Z1, lt_irrefl→Zad, lt_succ_of_lt→Zaz, le_of_lt→Za5, not_lt_zero→Za6, lt_succ_self→Zbf, le_succ→Zbj, lt_trans→ZbW, le_of_eq→Zcp
open Array renaming length_toList→Zn, getElem?_toList→ZQ, getElem?_eq_some_iff→Z6, getElem?_eq_getElem→Z9, toList_append→ZaW
open Bool renaming and_eq_true→Zp, not_true→ZG, not_false→Z4, not_eq_true'→ZaP, true_and→Zbm, eq_false_iff→Zb2, beq_comm→ZcA, false_or→ZcB
open Option renaming map_eq_some_iff→Zq, join_some→Z0, isSome_iff_exists→ZaS, isSome_map→Zb6
open Option.some renaming inj→Zz
open PyProof.Rows renaming callWith_type1→ZP, slot_tuple_getitem→ZV
open PySem.Around renaming under_plainId→ZS
open Int renaming toNat_natCast→ZU
open PySem.F renaming called_set→Zak, slot_tuple_iterator_next→ZaD, slot_dict_getitem→ZaM, plain_list_iadd→ZaZ, slot_int_rmul→Za3, slot_dict_contains→Zba, plain_extend_loop→Zbc, plain_extend_loop→Zbg, args_tuple_add_2→Zbl, slot_zip_next→Zbo, entry_tuple_add→Zbs, slot_tuple_add→Zbx, slot_tuple_mul→ZbG, called_tuple→ZbJ, args_int_rmul_2→Zb3, entry_int_rmul→Zcf, slot_int_index→Zcg, fills_int_mul→Zcm
open PySem.W renaming mg_none_of→Zap, callWith_K0→ZbO, callWith_K→ZbX, kia_one→Zcr, looks_findIn→Zcs
open PyProof.Rows.F renaming plain_set_update_loop→Zay
open PySem.Heap.SameBut renaming update→ZaX, refl→Zb4
open PySem.Str renaming length_append→Za9, cps_append→ZbD
open PySem.Calls renaming spliced_cons→Zbn, spliced_nil→Zby
open PySem.Code renaming quiet_builtin→ZbR
open PySem.Value.type renaming inj→Zb0
open PySem.Moved renaming trans→Zca
open PySem.Paired renaming length→Zcb
open PySem.Value.ref renaming inj→Zcc
open PySem.PassesOwn renaming never→Zcq
open PyProof.Rows.IsTup renaming new→ZcC
noncomputable section
namespace L2
open PySem PySem.Spec PyProof.Rows
abbrev yM:=Sum Int Str
def rY:yM->Value->Bool
 | .inl k,v=>Value.isInt k v
 | .inr x,v=>Value.isStrOf x v
def keyH (w:World):yM->Int
 | .inl k=>hashInt k
 | .inr x=>hashStr w x
theorem yF:∀ {k:yM} {v:Value},rY k v=true->(∃ i t,k=Sum.inl i/\v=Value.int i t)\/(∃ x t,k=Sum.inr x/\v=Value.str x t)
 | .inl i,v,h=>by
  obtain ⟨t,e⟩:=Value.isInt_shape (k:=i) (v:=v) h;exact .inl ⟨i,t,rfl,e⟩
 | .inr x,v,h=>by
  obtain ⟨t,e⟩:=Value.isStrOf_shape (x:=x) (v:=v) h;exact .inr ⟨x,t,rfl,e⟩
theorem zcj (i:Int) (t:Tok):rY (.inl i) (.int i t)=true:=by simp [rY,Value.isInt]
theorem zch (x:Str) (t:Tok):rY (.inr x) (.str x t)=true:=by simp [rY,Value.isStrOf]
theorem zi2 (a b:Int):decide ((Sum.inl a:yM)=Sum.inl b)=(a==b):=by
 by_cases e:a=b
 .subst e;simp
 .have h:¬ (Sum.inl a:yM)=Sum.inl b:=fun q=>e (Sum.inl.inj q);rw [decide_eq_false h];exact (beq_eq_false_iff_ne.mpr e).symm
theorem ziZ (a b:Str):decide ((Sum.inr a:yM)=Sum.inr b)=decide (a=b):=by
 by_cases e:a=b
 .subst e;simp
 .have h:¬ (Sum.inr a:yM)=Sum.inr b:=fun q=>e (Sum.inr.inj q);rw [decide_eq_false h,decide_eq_false e]
theorem zi1 (a:Int) (b:Str):decide ((Sum.inl a:yM)=Sum.inr b)=false:=decide_eq_false (fun q=>nomatch q)
theorem zi0 (a:Str) (b:Int):decide ((Sum.inr a:yM)=Sum.inl b)=false:=decide_eq_false (fun q=>nomatch q)
def xK (prog:Program) (w:World):PySem.KeyKind prog w yM where
 is:=rY
 hash:=keyH w
 inj:=fun v a b ha hb=>by
  rcases yF ha with ⟨i,t,rfl,rfl⟩|⟨x,t,rfl,rfl⟩
  .rcases yF hb with ⟨j,u,rfl,e⟩|⟨y,u,rfl,e⟩
   .injection e with e1 _;rw [e1]
   .exact nomatch e
  .rcases yF hb with ⟨j,u,rfl,e⟩|⟨y,u,rfl,e⟩
   .exact nomatch e
   .injection e with e1 _;rw [e1]
 byValue:=fun k v h=>by
  rcases yF h with ⟨i,t,rfl,rfl⟩|⟨x,t,rfl,rfl⟩<;>rfl
 pyHash:=fun hv h=>by
  rcases yF hv with ⟨i,t,rfl,rfl⟩|⟨x,t,rfl,rfl⟩
  .exact wpAny_pyHash_int h
  .exact wpAny_pyHash_str h
 eqBool:=fun hu hv h=>by
  rcases yF hu with ⟨i,t,rfl,rfl⟩|⟨x,t,rfl,rfl⟩
  .rcases yF hv with ⟨j,u,rfl,rfl⟩|⟨y,u,rfl,rfl⟩
   .rw [zi2] at h;exact wpAny_eqBool_int h
   .rw [zi1] at h;exact SeqAt.EqAt.int_str i t y u _ _ _ _ h
  .rcases yF hv with ⟨j,u,rfl,rfl⟩|⟨y,u,rfl,rfl⟩
   .rw [zi0] at h;exact SeqAt.EqAt.str_int x t j u _ _ _ _ h
   .rw [ziZ] at h;exact wpAny_eqBool_str h
 «strs»:=fun k x t v h=>by
  rcases yF h with ⟨i,u,rfl,e⟩|⟨y,u,rfl,e⟩
  .exact nomatch e
  .injection e with e1 _
   subst e1;cases v<;>rfl
theorem zag (prog:Program) (w:World) (i:Int) (t:Tok):(xK prog w).is (.inl i) (.int i t)=true:=zcj i t
theorem zaf (prog:Program) (w:World) (x:Str) (t:Tok):(xK prog w).is (.inr x) (.str x t)=true:=zch x t
end L2
namespace L2
open PySem PySem.Spec PyProof.Rows
inductive V where
 |non|bl (b:Bool)|int (i:Int)|str (x:Str)|byt (b:Array UInt8)|flt (b:UInt64)|ref (a:Addr)|ty (n:String)
 deriving DecidableEq
def zB:V->Value->Prop
 | .non,u=>u=Value.none
 | .bl b,u=>u=Value.bool b
 | .int i,u=>∃ t,u=Value.int i t
 | .str x,u=>∃ t,u=Value.str x t
 | .byt b,u=>∃ t,u=Value.bytes b t
 | .flt b,u=>∃ t,u=Value.float b t
 | .ref a,u=>u=Value.ref a
 | .ty n,u=>u=Value.type n
abbrev zE:List V->List Value->Prop:=Paired zB
theorem zE.length {xs:List V} {us:List Value} (r:zE xs us):xs.length=us.length:=Zcb r
theorem zE.get:∀ {xs:List V} {us:List Value} {i:Nat} {x:V},zE xs us->xs[i]?=some x->∃ u,us[i]?=some u/\zB x u
 |_,_,_,_,.nil,e=>by simp at e
 |_,_,0,_,.cons r _,e=>by simp at e;subst e;exact ⟨_,rfl,r⟩
 |_,_,i+1,x,.cons _ t,e=>by
  obtain ⟨u,h1,h2⟩:=zE.get (i:=i) (x:=x) t (by simpa using e);exact ⟨u,by simpa using h1,h2⟩
theorem zE.set {x:V} {u:Value} (r:zB x u):∀ {xs:List V} {us:List Value} (i:Nat),zE xs us->zE (xs.set i x) (us.set i u)
 |_,_,_,.nil=>.nil
 |_,_,0,.cons _ t=>.cons r t
 |_,_,i+1,.cons q t=>.cons q (zE.set r i t)
theorem zE.append:∀ {xs ys:List V} {us ws:List Value},zE xs us->zE ys ws->zE (xs++ys) (us++ws)
 |_,_,_,_,.nil,s=>s
 |_,_,_,_,.cons r t,s=>.cons r (zE.append t s)
theorem zE.take:∀ {xs:List V} {us:List Value} (n:Nat),zE xs us->zE (xs.take n) (us.take n)
 |_,_,0,_=>.nil
 |_,_,_+1,.nil=>.nil
 |_,_,n+1,.cons r t=>.cons r (zE.take n t)
theorem zE.drop:∀ {xs:List V} {us:List Value} (n:Nat),zE xs us->zE (xs.drop n) (us.drop n)
 |_,_,0,r=>r
 |_,_,_+1,.nil=>.nil
 |_,_,n+1,.cons _ t=>zE.drop n t
theorem zE.none_of:∀ {xs:List V} {us:List Value} {i:Nat},zE xs us->xs[i]?=none->us[i]?=none:=fun {xs us i} r e=>by
 have h1:=r.length;have h2:xs.length<=i:=ZaL.mp e;exact ZaL.mpr (by omega)
def uA:Option V->Option Value->Prop
 |some v,some u=>zB v u
 |none,none=>True
 |_,_=>False
def KV {κ:Type}:List (κ×V)->List (κ×Value)->Prop:=Paired fun (p:κ×V) (q:κ×Value)=>p.1=q.1/\zB p.2 q.2
def kV:yM->V
 | .inl i=>.int i
 | .inr x=>.str x
inductive HO where
  |lst (xs:List V)
  |tup (xs:List V)
  |dK (kvs:List (yM×V))|dT (kvs:List (List yM×V))
  |set (S:Int->Bool) (n:Nat)
  |ins (C dx:Addr) (fs:List (Str×V))
  |own (x:Addr)
  |xd (fs:List (Str×V))
  |met (f x:Addr)
  |rng (lo hi:Int)
  |frz (o:Obj) (u:HO)
  |tbl (ps:Array Value)
  |ext (φ:Heap->Prop)
abbrev Hp:=Addr->Option HO
def yH (H:Hp) (a:Addr) (o:HO):Hp:=fun b=>if b=a then some o else H b
theorem yO {H:Hp} {a:Addr} {o:HO}:yH H a o a=some o:=by unfold yH;rw [if_pos rfl]
theorem zR {H:Hp} {a b:Addr} {o:HO} (h:b≠a):yH H a o b=H b:=by unfold yH;rw [if_neg h]
theorem zfu {H:Hp} {a:Addr} {o u:HO}:yH (yH H a o) a u=yH H a u:=by
 funext b;unfold yH;split<;>rfl
theorem ne_of {H:Hp} {a b:Addr} {o u:HO} (h:H a=some o) (h':H b=some u) (d:o≠u):a≠b:=by
 intro e;subst e;rw [h] at h';exact d (Zz h')
theorem yR {H:Hp} {a b:Addr} {o:HO} (h:H a=some o) (h':H b=none):a≠b:=by
 intro e;subst e;rw [h] at h';cases h'
section
variable (P : Program) (w : World)
def xR (H:Hp) (h:Heap) (a:Addr):HO->Prop
 | .lst xs=>xs.length<=sizeLine/\∃ (its:List Value) (n:Nat),zE xs its/\h.get? a=some { cls:=.type "list", data:=.seq its.toArray n }
 | .tup xs=>xs.length<=sizeLine/\∃ its:List Value,zE xs its/\IsTup h a its.toArray
 | .dK kvs=>kvs.length<=sizeLine/\(a==sysModules)=false/\∃ vs,KV kvs vs/\h.DictOf (xK P w) a vs
 | .dT kvs=>kvs.length<=sizeLine/\(a==sysModules)=false/\∃ xs:List (List yM×Addr×Value),
   Paired (fun (p:List yM×V) (q:List yM×Addr×Value)=>p.1=q.1/\H q.2.1=some (.tup (p.1.map kV))/\zB p.2 q.2.2) kvs xs /\
   ∃ o es ep,h.get? a=some o/\o.ExactDict/\o.data=.dict es ep/\es.toList=xs.map (entryOfKey (tupleKind (xK P w)))/\(xs.map (·.1)).Nodup
 | .set S n=>h.SetOf (intKind P w) a S n
 | .ins C dx fs=>H dx=some (.own a)/\fs.length<=1000/\dx≠a/\h.get? a=some (PySem.W.instObj C dx) /\
   ∃ mA,h.Ns1 dx mA/\(∀ f,uA (fs.lookup f) (mA f))/\PySem.Within mA (fs.map (·.1))
 | .own _=>∃ o,h.get? a=some o
 | .xd fs=>∃ mA,h.Ns1 a mA/\∀ f,uA (fs.lookup f) (mA f)
 | .rng lo hi=>∃ t u v,h.get? a=some { cls:=.type "range", data:=.fields #[.int lo t,.int hi u,.int 1 v] }
 | .frz o u=>h.get? a=some o/\xR H h a u
 | .tbl ps=>h.get? a=some { cls:=.none,data:=.fields ps }
 | .met f x=>h.get? a=some (PySem.W.methodObj (.ref f) (.ref x))
 | .ext φ=>φ h/\(∃ o,h.get? a=some o)/\∀ h1 h2:Heap,φ h1->(∀ o,h1.get? a=some o->h2.get? a=some o)->φ h2
def vS (H:Hp) (h:Heap):Prop:=∀ a o,H a=some o->xR P w H h a o
end
section
variable {P : Program} {w : World} {H H' : Hp} {h h' : Heap} {a : Addr} {o : HO}
theorem xR.lt (x:xR P w H h a o):a<h.objs.size:=by
 cases o with
 |lst xs=>obtain ⟨_,_,_,_,e⟩:=x;exact Zf e
 |tup xs=>obtain ⟨_,_,_,p⟩:=x;exact p.lt
 |dK kvs=>obtain ⟨_,_,_,_,o,_,_,e,_⟩:=x;exact Zf e
 |dT kvs=>obtain ⟨_,_,_,_,o,_,_,e,_⟩:=x;exact Zf e
 |set S n=>obtain ⟨o,_,_,_,e,_⟩:=x;exact Zf e
 |ins C dx fs=>obtain ⟨_,_,_,e,_⟩:=x;exact Zf e
 |own y=>obtain ⟨_,e⟩:=x;exact Zf e
 |xd fs=>obtain ⟨_,⟨_,_,_,e,_⟩,_⟩:=x;exact Zf e
 |rng lo hi=>obtain ⟨_,_,_,e⟩:=x;exact Zf e
 |frz ob u=>obtain ⟨e,_⟩:=x;exact Zf e
 |tbl ps=>exact Zf (show h.get? a=some _ from x)
 |met f y=>exact Zf (show h.get? a=some _ from x)
 |ext φ=>obtain ⟨_,⟨_,e⟩,_⟩:=x;exact Zf e
theorem Paired.mapP {α β:Type} {F G:α->β->Prop}:∀ {l₁:List α} {l₂:List β},Paired F l₁ l₂->(∀ a b,F a b->G a b)->Paired G l₁ l₂
 |_,_,.nil,_=>.nil
 |_,_,.cons r t,f=>.cons (f _ _ r) (Paired.mapP t f)
theorem xR.stay (x:xR P w H h a o) (k:∀ b u,(b=a\/H b=some (.own a))->h.get? b=some u->h'.get? b=some u)
  (ho:∀ b,H b=some (.own a)->H' b=some (.own a)) (ht:∀ b xs,H b=some (.tup xs)->H' b=some (.tup xs)):xR P w H' h' a o:=by
 induction o with
 |lst xs=>obtain ⟨z,its,n,r,e⟩:=x;exact ⟨z,its,n,r,k _ _ (.inl rfl) e⟩
 |tup xs=>obtain ⟨z,its,r,ob,e,c⟩:=x;exact ⟨z,its,r,ob,k _ _ (.inl rfl) e,c⟩
 |dK kvs=>obtain ⟨z,y,vs,r,ob,es,ep,e,c⟩:=x;exact ⟨z,y,vs,r,ob,es,ep,k _ _ (.inl rfl) e,c⟩
 |dT kvs =>
  obtain ⟨z,y,xs,r,ob,es,ep,e,c⟩:=x;exact ⟨z,y,xs,Paired.mapP r fun p q z=>⟨z.1,ht _ _ z.2.1,z.2.2⟩,ob,es,ep,k _ _ (.inl rfl) e,c⟩
 |set S n=>obtain ⟨ob,es,ep,t,e,c⟩:=x;exact ⟨ob,es,ep,t,k _ _ (.inl rfl) e,c⟩
 |ins C dx fs =>
  obtain ⟨d,z,ne,e,mA,⟨od,es,ep,e2,c⟩,r⟩:=x;exact ⟨ho _ d,z,ne,k _ _ (.inl rfl) e,mA,⟨od,es,ep,k _ _ (.inr d) e2,c⟩,r⟩
 |own y=>obtain ⟨ob,e⟩:=x;exact ⟨ob,k _ _ (.inl rfl) e⟩
 |xd fs=>obtain ⟨mA,⟨od,es,ep,e,c⟩,r⟩:=x;exact ⟨mA,⟨od,es,ep,k _ _ (.inl rfl) e,c⟩,r⟩
 |rng lo hi=>obtain ⟨t,u,v,e⟩:=x;exact ⟨t,u,v,k _ _ (.inl rfl) e⟩
 |frz ob u ih=>obtain ⟨e,q⟩:=x;exact ⟨k _ _ (.inl rfl) e,ih q⟩
 |tbl ps =>
  have e:h.get? a=some { cls:=.none,data:=.fields ps }:=x;show h'.get? a=some { cls:=.none,data:=.fields ps };exact k a _ (.inl rfl) e
 |met f y =>
  have e:h.get? a=some (PySem.W.methodObj (.ref f) (.ref y)):=x;show h'.get? a=some (PySem.W.methodObj (.ref f) (.ref y));exact k a _ (.inl rfl) e
 |ext φ=>obtain ⟨p,⟨o,e⟩,st⟩:=x;exact ⟨st _ _ p fun o q=>k _ _ (.inl rfl) q,⟨o,k _ _ (.inl rfl) e⟩,st⟩
theorem vS.lt (x:vS P w H h) (e:H a=some o):a<h.objs.size:=(x a o e).lt
theorem vS.fresh (x:vS P w H h) (e:h.objs.size<=a):H a=none:=by
 cases q:H a with
 |none=>rfl
 |some u=>exact absurd (Zi (x.lt q) e) (Zad _)
theorem vS.kept (x:vS P w H h) (k:∀ b u,h.get? b=some u->h'.get? b=some u):vS P w H h':=fun a o e =>
 (x a o e).stay (fun b u _ q=>k b u q) (fun _ q=>q) fun _ _ q=>q
theorem vS.laid (x:vS P w H h) (k:∀ b u,h.get? b=some u->h'.get? b=some u) (hp:h.objs.size<=a) (new:xR P w (yH H a o) h' a o):vS P w (yH H a o) h':=fun b u e=>by
 have hn:=x.fresh hp
 by_cases hb:b=a
 .subst hb;rw [yO] at e;cases e;exact new
 .rw [zR hb] at e;exact (x b u e).stay (fun c v _ q=>k c v q) (fun c q=>by rw [zR (yR q hn)];exact q) fun c xs q=>by rw [zR (yR q hn)];exact q
end
def Rd (H:Hp) (a:Addr) (u:HO):Prop:=H a=some u\/∃ o,H a=some (.frz o u)
theorem Rd.ok {P:Program} {w:World} {H:Hp} {h:Heap} {a:Addr} {u:HO} (r:Rd H a u) (x:vS P w H h):xR P w H h a u:=by
 rcases r with r|⟨o,r⟩
 .exact x a u r
 .obtain ⟨_,q⟩:=x a _ r;exact q
def Mut:Option HO->Prop
 |some (.lst _)=>True
 |some (.dK _)=>True
 |some (.dT _)=>True
 |some (.set _ _)=>True
 |some (.ins _ _ _)=>True
 |some (.ext _)=>True
 |_=>False
section
variable {P : Program} {w : World} {H : Hp} {h h' : Heap} {x e : Addr} {o' : HO}
theorem vS.write (ok:vS P w H h) (mu:Mut (H x)) (he:e=x\/H e=some (.own x)) (k:∀ b u,b≠e->h.get? b=some u->h'.get? b=some u) (heo:∃ u,h'.get? e=some u)
  (new:xR P w (yH H x o') h' x o'):vS P w (yH H x o') h':=fun b u q=>by
 have nown:∀ c y,H c=some (.own y)->c≠x:=fun c y r z=>by subst z;rw [r] at mu;exact mu
 have ntup:∀ c xs,H c=some (.tup xs)->c≠x:=fun c xs r z=>by subst z;rw [r] at mu;exact mu
 by_cases hb:b=x
 .subst hb;rw [yO] at q;cases q;exact new
 .rw [zR hb] at q
  by_cases hbe:b=e
  .have q':H b=some (.own x):=by
    rcases he with z|z
    .exact absurd (hbe.trans z) hb
    .rw [hbe];exact z
   rw [q] at q';cases q';obtain ⟨v,hv⟩:=heo;exact ⟨v,by rw [hbe];exact hv⟩
  .refine (ok b u q).stay (fun c v hc r=>k c v ?_ r) (fun c r=>by rw [zR (nown c b r)];exact r) fun c xs r=>by rw [zR (ntup c xs r)];exact r
   rcases hc with rfl|hc
   .exact hbe
   .rintro rfl;rcases he with z|z
    .exact nown c b hc z
    .rw [hc] at z;cases z;exact hb rfl
end
structure Un (fs ex:List Addr) (H H':Hp) (h h':Heap):Prop where
 keep:∀ b o,h.get? b=some o->H b=none->b∉fs->b∉ex->h'.get? b=some o
 slot:∀ b o,h.get? b=some o->H b=none->b∈fs->b∉ex->∃ sl,h'.get? b=some { o with slots:=sl }
 free:∀ b o,h.get? b=some o->H b=none->b∉ex->H' b=none
 there:∀ b o,h.get? b=some o->b∉ex->∃ o',h'.get? b=some o'
 tups:∀ b xs,H b=some (.tup xs)->H' b=some (.tup xs)
 frzs:∀ b o u,H b=some (.frz o u)->H' b=some (.frz o u)
 tbls:∀ b ps,H b=some (.tbl ps)->∃ more,H' b=some (.tbl (ps++more))
section
variable {fs fs' ex ex' : List Addr} {H H1 H2 : Hp} {h h1 h2 h' : Heap} {a x e : Addr} {o : HO}
theorem Un.any (u:Un fs ex H H1 h h1) {b:Addr} {ob:Obj} (q:h.get? b=some ob) (n:H b=none) (hx:b∉ex):∃ sl,h1.get? b=some { ob with slots:=sl }:=by
 by_cases hb:b∈fs
 .exact u.slot b ob q n hb hx
 .exact ⟨ob.slots,u.keep b ob q n hb hx⟩
theorem Un.kept (k:∀ b u,h.get? b=some u->h'.get? b=some u):Un fs ex H H h h' :=
 ⟨fun b ob q _ _ _=>k b ob q,fun b ob q _ _ _=>⟨ob.slots,k b ob q⟩,fun _ _ _ n _=>n,fun b ob q _=>⟨ob,k b ob q⟩,fun _ _ q=>q,fun _ _ _ q=>q,fun _ ps q=>⟨#[],by rw [q];simp⟩⟩
theorem Un.refl:Un fs ex H H h h:=Un.kept fun _ _ q=>q
theorem Un.laid (k:∀ b u,h.get? b=some u->h'.get? b=some u) (hp:h.objs.size<=a) (hn:H a=none):Un fs ex H (yH H a o) h h' where
 keep:=fun b u q _ _ _=>k b u q
 slot:=fun b u q _ _ _=>⟨u.slots,k b u q⟩
 free:=fun b u q n _=>by rw [zR (Zl (Zi (Zf q) hp))];exact n
 there:=fun b u q _=>⟨u,k b u q⟩
 tups:=fun b xs q=>by rw [zR (yR q hn)];exact q
 frzs:=fun b u xs q=>by rw [zR (yR q hn)];exact q
 tbls:=fun b ps q=>⟨#[],by rw [zR (yR q hn),q];simp⟩
theorem Un.write (mu:Mut (H x)) (he:e=x\/H e=some (.own x)) (k:∀ b u,b≠e->h.get? b=some u->h'.get? b=some u) (heo:∃ u,h'.get? e=some u):Un fs ex H (yH H x o) h h':=by
 have hx:∀ b,H b=none->b≠x:=fun b n z=>by subst z;rw [n] at mu;exact mu
 have hb:∀ b,H b=none->b≠e:=fun b n z=>by
  subst z;rcases he with r|r
  .exact hx b n r
  .rw [n] at r;cases r
 have hm:∀ b u,H b=some u->¬ Mut (some u)->b≠x:=fun b u q nm z=>by subst z;rw [q] at mu;exact nm mu
 refine ⟨fun b u q n _ _=>k b u (hb b n) q,fun b u q n _ _=>⟨u.slots,k b u (hb b n) q⟩,fun b u q n _=>by rw [zR (hx b n)];exact n,fun b u q _=>?_,
  fun b xs q=>by rw [zR (hm b _ q fun z=>z)];exact q,fun b u xs q=>by rw [zR (hm b _ q fun z=>z)];exact q,fun b ps q=>⟨#[],by rw [zR (hm b _ q fun z=>z),q];simp⟩⟩
 by_cases hbe:b=e
 .subst hbe;exact heo
 .exact ⟨u,k b u hbe q⟩
end
def trk (h:Heap) (H:Hp):List Addr:=(List.range h.objs.size).filter fun a=>(H a).isSome
def cY (h:Heap) (H:Hp):Heap:=PySem.W.hideAll h (trk h H)
theorem zcr (h:Heap) (H:Hp):(cY h H).objs.size=h.objs.size:=PySem.W.hideAll_size _ _
theorem zec {h:Heap} {H:Hp} {b:Addr} {o:Obj} (e:h.get? b=some o) (n:H b=none):(cY h H).get? b=some o :=
 PySem.W.hideAll_get _ e fun hm=>by
  have q:(H b).isSome=true:=(Zcn.mp hm).2;rw [n] at q;simp at q
theorem zgd {h:Heap} {H:Hp} {b:Addr} {o:Obj} (e:(cY h H).get? b=some o):h.get? b=some o/\H b=none:=by
 have e':h.get? b=some o:=PySem.W.of_hideAll (trk h H) e;refine ⟨e',?_⟩
 cases q:H b with
 |none=>rfl
 |some x =>
  have hm:b∈trk h H:=Zcn.mpr ⟨Zax.mpr (Zf e'),by simp [q]⟩;have z:(cY h H).get? b=none:=PySem.W.hideAll_none (trk h H) hm;rw [z] at e;cases e
def zhh (g h:Heap) (L:Addr):List (Addr×Obj):=(List.range h.objs.size).filterMap fun a=>if a=L\/(g.get? a).isSome=true then none else (h.get? a).map fun o=>(a,o)
def rest (g h:Heap) (L d:Addr):List (Addr×Obj):=(zhh g h L).filter fun p=>decide (p.1≠d)
end L2
namespace L2
open PySem PySem.Spec PyProof.Rows
structure Mod (K:PySem.W.Frag) (mg:Str->Option Value) (base:Heap):Prop where
 kin:K.In base
 glob:base.Ns mainGlobals mg
 blt:∃ mb,base.Ns builtinsNs mb/\∀ x:Str,x ≠ "__name__" -> mb x=bootBuiltins x
 nolimit:base.NoLimit
structure Cx where
 prog:Program
 w:World
 K:PySem.W.Frag
 mg:Str->Option Value
 base:Heap
 A:Around
 N:List Str
 s₀:Shared
 H₀:Hp
 env:Env
 outer:List Env
 stack:List Env
 ex:List Addr
 fn:Str->Bool
 calm:Bool
 pn:List (Addr×Obj)
 xe:Value->Shared->Prop
def rH (l:List Env):List Addr:=l.filterMap (·.frame)
abbrev Cx.fs (X:Cx):List Addr:=rH X.outer
def Vis (sc:Scope) (x:Str):Prop:=sc.names.lookup x=some .local\/sc.names.lookup x=some .cell\/sc.names.lookup x=some .free
def Loc (sc:Scope) (x:Str):Prop:=sc.names.lookup x=some .local\/sc.names.lookup x=some .cell
def Look (env:Env) (h:Heap) (m:Str->Option Value) (x:Str) (u:Value):Prop :=
 (env.kindOf x=some .local/\m x=some u)\/((env.kindOf x=some .cell\/env.kindOf x=some .free)/\∃ c,env.cells.lookup x=some c/\h.IsCell c (some u))
structure Cx.Ok (X:Cx):Prop where
 mod:Mod X.K X.mg X.base
 kind:X.env.scope.kind=.function
 glob:X.env.globals=mainGlobals
 blt:X.env.builtins=builtinsNs
 above:X.s₀.heap.objs.size<=X.env.locals
 inj:∀ x y c,X.env.cells.lookup x=some c->X.env.cells.lookup y=some c->x=y
 has:∀ x,(X.env.kindOf x=some .cell\/X.env.kindOf x=some .free)->∃ c,X.env.cells.lookup x=some c
 cab:∀ x c,X.fn x=true->X.env.cells.lookup x=some c->X.s₀.heap.objs.size<=c
 hd:X.calm=true->X.A.handled=none
 frames:X.A.frames=some X.stack
 stk:X.stack=X.outer\/(X.stack=X.env::X.outer/\X.env.frame=some X.env.locals)
 exf:∀ b∈X.ex,b≠X.env.locals/\∀ x c,X.env.cells.lookup x=some c->c≠b
 bs:∀ b o,X.base.get? b=some o->X.s₀.heap.get? b=some o/\X.H₀ b=none
 bsz:X.base.objs.size<=X.s₀.heap.objs.size
 noex:∀ b o,X.base.get? b=some o->b∉X.ex
 exfs:∀ b∈X.ex,b∉X.fs
 funs:X.s₀.heap.FunFrames X.base X.outer
 frf:∀ b∈X.fs,X.H₀ b=none
structure Inv (X:Cx) (pins:List (Addr×Obj)) (σ:List (Option V)) (H:Hp) (s:Shared):Prop where
 ok:X.Ok
 os:s.os=X.s₀.os
 bare:AllBare s.gens
 base:Un X.fs X.ex X.H₀ H X.s₀.heap s.heap
 loc:∃ m,s.heap.Ns X.env.locals m/\∀ (i:Nat) (x:Str) (v:V),X.N[i]?=some x->σ[i]?=some (some v)->Vis X.env.scope x->∃ u,zB v u/\Look X.env s.heap m x u
 cell:∀ x c,X.env.cells.lookup x=some c->∃ v,s.heap.IsCell c v
 free:H X.env.locals=none
 freeC:∀ x c,X.env.cells.lookup x=some c->H c=none
 pin:∀ p∈X.pn++pins,s.heap.get? p.1=some p.2/\H p.1=none/\p.1≠X.env.locals/\p.1∉X.fs/\∀ v,p.2.data≠.cell v
 hok:vS X.prog X.w H s.heap
 len:σ.length=X.N.length
section
variable {X : Cx} {pins : List (Addr × Obj)} {σ : List (Option V)} {H H' : Hp} {s : Shared} {h' : Heap}
theorem Cx.Ok.nofr (ok:X.Ok) {b:Addr} {o:Obj} (e:X.base.get? b=some o):b∉X.fs:=fun hb=>by
 have:=(ok.funs.mem hb).1;rw [e] at this;cases this
theorem Inv.bs (I:Inv X pins σ H s):∀ b o,X.base.get? b=some o->s.heap.get? b=some o/\H b=none:=fun b o e =>
 ⟨I.base.keep b o (I.ok.bs b o e).1 (I.ok.bs b o e).2 (I.ok.nofr e) (I.ok.noex b o e),I.base.free b o (I.ok.bs b o e).1 (I.ok.bs b o e).2 (I.ok.noex b o e)⟩
theorem Inv.bk (I:Inv X pins σ H s):∀ b o,X.base.get? b=some o->s.heap.get? b=some o:=fun b o e=>(I.bs b o e).1
theorem Inv.mod (I:Inv X pins σ H s):Mod X.K X.mg X.base:=I.ok.mod
theorem Inv.kIn (I:Inv X pins σ H s):X.K.In s.heap:=I.ok.mod.kin.keeps I.bk
theorem Inv.lt (I:Inv X pins σ H s):X.env.locals<s.heap.objs.size:=let ⟨_,hn,_⟩:=I.loc;hn.lt
theorem Inv.sz (I:Inv X pins σ H s):X.s₀.heap.objs.size<=s.heap.objs.size:=Zy I.ok.above (Za5 I.lt)
theorem Inv.nofs (I:Inv X pins σ H s) {a:Addr} (h:s.heap.objs.size<=a):a∉X.fs:=fun hb=>by
 obtain ⟨_,o,ho,_⟩:=I.ok.funs.mem hb;exact absurd (Zi (Zf ho) (Zy I.sz h)) (Zad _)
theorem Inv.cne (I:Inv X pins σ H s):∀ x c,X.env.cells.lookup x=some c->c≠X.env.locals:=fun x c e z=>by
 obtain ⟨v,o,ho,hd⟩:=I.cell x c e;obtain ⟨m,⟨o',es,ep,ho',hd',_⟩,_⟩:=I.loc;rw [z,ho'] at ho;cases ho;rw [hd'] at hd;cases hd
theorem Inv.funs (I:Inv X pins σ H s):s.heap.FunFrames X.base X.outer:=by
 have all:∀ (l:List Env),(∀ b∈rH l,b∈X.fs)->X.s₀.heap.FunFrames X.base l->s.heap.FunFrames X.base l:=by
  intro l
  induction l with
  |nil=>intro _ _;trivial
  |cons env r ih =>
   intro hs hl;obtain ⟨hk,⟨L,o,hf,hn,ho,hd⟩,hr⟩:=hl;have hL:L∈X.fs:=hs L (by unfold rH;rw [ZaY,hf];exact zzT);obtain ⟨sl,e⟩:=I.base.slot L o ho (I.ok.frf L hL) hL fun z=>I.ok.exfs L z hL;exact ⟨hk,⟨L,_,hf,hn,e,hd⟩,ih (fun b hb=>hs b (by unfold rH;rw [ZaY,hf];exact Zo _ hb)) hr⟩
 exact all X.outer (fun _ hb=>hb) I.ok.funs
theorem Inv.stack (I:Inv X pins σ H s):s.heap.FunFrames X.base X.stack:=by
 rcases I.ok.stk with e|⟨e,hf⟩
 .rw [e];exact I.funs
 .rw [e];obtain ⟨m,hn,_⟩:=I.loc;refine .cons (by rw [I.ok.kind];decide) hf hn ?_ I.funs;exact Heap.get?_none_of_le (Zy I.ok.bsz I.ok.above)
theorem Inv.stkSub (I:Inv X pins σ H s):∀ b∈rH X.stack,b∈X.env.locals::X.fs:=fun b hb=>by
 rcases I.ok.stk with e|⟨e,hf⟩
 .rw [e] at hb;exact Zo _ hb
 .rw [e] at hb;unfold rH at hb;rw [ZaY,hf] at hb;exact hb
theorem Inv.stkFree (I:Inv X pins σ H s):∀ b∈rH X.stack,H b=none:=fun b hb=>by
 rcases Zk.mp (I.stkSub b hb) with e|hb
 .rw [e];exact I.free
 .obtain ⟨_,o,ho,_⟩:=I.ok.funs.mem hb;exact I.base.free b o ho (I.ok.frf b hb) fun z=>I.ok.exfs b z hb
theorem Inv.step {g':Array GenState} {t':Nat} {d':Drawn} {ch:List Addr} (I:Inv X pins σ H s)
  (hch:∀ b∈ch,(b∈X.ex\/X.s₀.heap.objs.size<=b)/\b≠X.env.locals/\(∀ x c,X.env.cells.lookup x=some c->c≠b)/\∀ p∈X.pn++pins,p.1≠b)
  (keep:∀ b o,b≠X.env.locals->b∉X.fs->b∉ch->s.heap.get? b=some o->H b=none->h'.get? b=some o)
  (slot:∀ b o,b≠X.env.locals->b∈X.fs->b∉ch->s.heap.get? b=some o->H b=none->∃ sl,h'.get? b=some { o with slots:=sl }) (free:∀ b o,b∉ch->s.heap.get? b=some o->H b=none->H' b=none)
  (there:∀ b o,b∉ch->s.heap.get? b=some o->∃ o',h'.get? b=some o')
  (tups:∀ b xs,H b=some (.tup xs)->H' b=some (.tup xs)) (frzs:∀ b o u,H b=some (.frz o u)->H' b=some (.frz o u)) (tbls:∀ b ps,H b=some (.tbl ps)->∃ more,H' b=some (.tbl (ps++more)))
  (ns:∀ m,s.heap.Ns X.env.locals m->h'.Ns X.env.locals m) (hok:vS X.prog X.w H' h') (hg:AllBare g') :
  Inv X pins σ H' { s with heap:=h',gens:=g',drawn:=d',toks:=t' }:=by
 have neL:∀ b o,X.s₀.heap.get? b=some o->b≠X.env.locals:=fun b o e=>Zl (Zi (Zf e) I.ok.above)
 have neC:∀ b o,X.s₀.heap.get? b=some o->b∉X.ex->b∉ch:=fun b o e hx hb=>by
  rcases (hch b hb).1 with z|z
  .exact hx z
  .exact absurd (Zi (Zf e) z) (Zad _)
 have cellK:∀ x c,X.env.cells.lookup x=some c->∀ v,s.heap.IsCell c v->h'.IsCell c v:=fun x c e v ⟨o,ho,hd⟩=>by
  have nch:c∉ch:=fun z=>(hch c z).2.2.1 x c e rfl
  by_cases hc:c∈X.fs
  .obtain ⟨sl,q⟩:=slot c o (I.cne x c e) hc nch ho (I.freeC x c e);exact ⟨_,q,hd⟩
  .exact ⟨o,keep c o (I.cne x c e) hc nch ho (I.freeC x c e),hd⟩
 refine ⟨I.ok,I.os,hg,⟨fun b o e n hb hx=>?_,fun b o e n hb hx=>?_,fun b o e n hx=>?_,fun b o e hx=>?_,fun b xs e=>tups b xs (I.base.tups b xs e),fun b o xs e=>frzs b o xs (I.base.frzs b o xs e),fun b ps e=>?_⟩,?_,fun x c e=>?_,?_,fun x c e=>?_,fun p hp=>?_,hok,I.len⟩
 .exact keep b o (neL b o e) hb (neC b o e hx) (I.base.keep b o e n hb hx) (I.base.free b o e n hx)
 .obtain ⟨sl,e1⟩:=I.base.slot b o e n hb hx;obtain ⟨sl',e2⟩:=slot b _ (neL b o e) hb (neC b o e hx) e1 (I.base.free b o e n hx);exact ⟨sl',e2⟩
 .obtain ⟨o',e1⟩:=I.base.there b o e hx;exact free b o' (neC b o e hx) e1 (I.base.free b o e n hx)
 .obtain ⟨o',e1⟩:=I.base.there b o e hx;exact there b o' (neC b o e hx) e1
 .obtain ⟨m1,e1⟩:=I.base.tbls b ps e;obtain ⟨m2,e2⟩:=tbls b _ e1;exact ⟨m1++m2,by rw [e2,Array.append_assoc]⟩
 .obtain ⟨m,hn,hl⟩:=I.loc;refine ⟨m,ns m hn,fun i x v e1 e2 e3=>?_⟩;obtain ⟨u,r,l⟩:=hl i x v e1 e2 e3;refine ⟨u,r,?_⟩;rcases l with l|⟨k,c,e,z⟩
  .exact .inl l
  .exact .inr ⟨k,c,e,cellK x c e _ z⟩
 .obtain ⟨v,z⟩:=I.cell x c e;exact ⟨v,cellK x c e v z⟩
 .obtain ⟨m,⟨o,_,_,ho,_⟩,_⟩:=I.loc;exact free _ o (fun z=>(hch _ z).2.1 rfl) ho I.free
 .obtain ⟨v,o,ho,hd⟩:=I.cell x c e;exact free c o (fun z=>(hch c z).2.2.1 x c e rfl) ho (I.freeC x c e)
 .obtain ⟨e,n,ne,nf,d⟩:=I.pin p hp;have nch:p.1∉ch:=fun z=>(hch p.1 z).2.2.2 p hp rfl;exact ⟨keep p.1 p.2 ne nf nch e n,free p.1 p.2 nch e n,ne,nf,d⟩
theorem Inv.un {t':Nat} (I:Inv X pins σ H s) (u:Un X.fs [] H H' s.heap h') (hok:vS X.prog X.w H' h'):Inv X pins σ H' { s with heap:=h',toks:=t' }:=by
 obtain ⟨m,⟨o,es,ep,ho,r⟩,_⟩:=id I.loc;obtain ⟨sl,hL⟩:=u.any ho I.free (by simp)
 exact I.step (g':=s.gens) (d':=s.drawn) (ch:=[]) (fun _ z=>nomatch z) (fun b o _ hb _ e n=>u.keep b o e n hb (by simp)) (fun b o _ hb _ e n=>u.slot b o e n hb (by simp)) (fun b o _ e n=>u.free b o e n (by simp)) (fun b o _ e=>u.there b o e (by simp)) u.tups u.frzs u.tbls (fun m' hm=>by
  obtain ⟨o',es',ep',ho',r'⟩:=hm;rw [ho] at ho';cases ho';exact ⟨_,es',ep',hL,r'⟩) hok I.bare
theorem Inv.call {g':Array GenState} {t':Nat} {d':Drawn} {ch:List Addr} (I:Inv X pins σ H s) (u:Un (rH X.stack) ch H H' s.heap h') (hok:vS X.prog X.w H' h') (hg:AllBare g')
  (hch:∀ b∈ch,(b∈X.ex\/X.s₀.heap.objs.size<=b)/\b≠X.env.locals/\(∀ x c,X.env.cells.lookup x=some c->c≠b)/\∀ p∈X.pn++pins,p.1≠b) :
  Inv X pins σ H' { s with heap:=h',gens:=g',drawn:=d',toks:=t' }:=by
 obtain ⟨m,⟨o,es,ep,ho,r⟩,_⟩:=id I.loc;obtain ⟨sl,hL⟩:=u.any ho I.free fun z=>(hch _ z).2.1 rfl
 exact I.step (ch:=ch) hch (fun b o hL hb hc e n=>u.keep b o e n (fun z=>(Zk.mp (I.stkSub b z)).elim hL hb) hc) (fun b o _ _ hc e n=>u.any e n hc) (fun b o hc e n=>u.free b o e n hc) (fun b o hc e=>u.there b o e hc) u.tups u.frzs u.tbls (fun m' hm=>by
  obtain ⟨o',es',ep',ho',r'⟩:=hm;rw [ho] at ho';cases ho';exact ⟨_,es',ep',hL,r'⟩) hok hg
theorem Inv.turned {t':Nat} {it:Addr} (I:Inv X pins σ H s) (k:∀ b o,b≠it->s.heap.get? b=some o->h'.get? b=some o) (hn:H it=none) (hL:it≠X.env.locals)
  (h1:it∈X.ex\/X.s₀.heap.objs.size<=it) (h2:∀ x c,X.env.cells.lookup x=some c->c≠it) (h3:∀ p∈X.pn++pins,p.1≠it):Inv X pins σ H { s with heap:=h',toks:=t' }:=by
 have nit:∀ b u,H b=some u->b≠it:=fun b u e z=>by rw [z,hn] at e;cases e
 refine I.step (g':=s.gens) (d':=s.drawn) (ch:=[it]) (fun b hb=>?_) (fun b o _ _ hc e _=>k b o (fun z=>hc (by simp [z])) e) (fun b o _ _ hc e _=>⟨o.slots,k b o (fun z=>hc (by simp [z])) e⟩) (fun _ _ _ _ n=>n)
  (fun b o hc e=>⟨o,k b o (fun z=>hc (by simp [z])) e⟩) (fun _ _ e=>e) (fun _ _ _ e=>e) (fun b ps e=>⟨#[],by rw [e];simp⟩) (fun m hm=>?_) (fun b u e=>?_) I.bare
 .have e:b=it:=by simpa using hb
  subst e;exact ⟨h1,hL,h2,h3⟩
 .obtain ⟨o,es,ep,ho,r⟩:=hm;exact ⟨o,es,ep,k _ o (Ne.symm hL) ho,r⟩
 .refine (I.hok b u e).stay (fun c v hc q=>k c v ?_ q) (fun _ q=>q) fun _ _ q=>q;rcases hc with z|z
  .rw [z];exact nit b u e
  .exact nit c _ z
theorem Inv.tok (I:Inv X pins σ H s) (t:Nat):Inv X pins σ H { s with toks:=t }:=I.un (h':=s.heap) (t':=t) Un.refl I.hok
theorem Inv.kept {t':Nat} (I:Inv X pins σ H s) (k:∀ b u,s.heap.get? b=some u->h'.get? b=some u):Inv X pins σ H { s with heap:=h',toks:=t' }:=I.un (Un.kept k) (I.hok.kept k)
theorem Inv.laid {a:Addr} {o:HO} {t':Nat} (I:Inv X pins σ H s) (k:∀ b u,s.heap.get? b=some u->h'.get? b=some u) (hp:s.heap.objs.size<=a) (new:xR X.prog X.w (yH H a o) h' a o) :
  Inv X pins σ (yH H a o) { s with heap:=h',toks:=t' }:=I.un (Un.laid k hp (I.hok.fresh hp)) (I.hok.laid k hp new)
theorem Inv.write {x e:Addr} {o:HO} {t':Nat} (I:Inv X pins σ H s) (mu:Mut (H x)) (he:e=x\/H e=some (.own x)) (k:∀ b u,b≠e->s.heap.get? b=some u->h'.get? b=some u) (heo:∃ u,h'.get? e=some u)
  (new:xR X.prog X.w (yH H x o) h' x o):Inv X pins σ (yH H x o) { s with heap:=h',toks:=t' }:=I.un (Un.write mu he k heo) (I.hok.write mu he k heo new)
theorem Inv.pins_of {pins':List (Addr×Obj)} (I:Inv X pins σ H s) (h:∀ p∈pins',s.heap.get? p.1=some p.2/\H p.1=none/\p.1≠X.env.locals/\p.1∉X.fs/\∀ v,p.2.data≠.cell v):Inv X pins' σ H s :=
 ⟨I.ok,I.os,I.bare,I.base,I.loc,I.cell,I.free,I.freeC,fun p hp=>(Z3.mp hp).elim (fun z=>I.pin p (Z7 _ z)) (h p),I.hok,I.len⟩
theorem pI {N:List Str} (hN:N.Nodup) {i j:Nat} {x:Str} (a:N[i]?=some x) (b:N[j]?=some x):i=j:=by
 obtain ⟨h1,e1⟩:=Zg.mp a;obtain ⟨h2,e2⟩:=Zg.mp b;exact (List.getElem_inj hN).mp (e1.trans e2.symm)
theorem gO {M:Model} {A:Around} {E:Value->Shared->Prop} {i:Nat} {x:Str} {v:V} {u:Value} {Q:Unit->Shared->Prop} (I:Inv X pins σ H s) (hN:X.N.Nodup) (hi:X.N[i]?=some x) (hx:Loc X.env.scope x) (r:zB v u)
  (h:∀ s',Inv X pins (σ.set i (some v)) H s'->(∃ a,Heap.SameBut a s.heap s'.heap/\(a=X.env.locals\/X.env.cells.lookup x=some a))->Q () s') (hf:X.fn x=true\/X.env.scope.names.lookup x=some .local:=by first|exact .inl rfl|exact .inr rfl|assumption):wpAny M A (storeName X.env x u) Q E s:=by
 obtain ⟨m,hn,hl⟩:=id I.loc;have hcls:(X.env.scope.kind==.class || (X.env.scope.kind==.module&&X.env.locals != X.env.globals))=false:=by rw [I.ok.kind];rfl
 have hiσ:i<σ.length:=by rw [I.len];exact (Zg.mp hi).1
 have cne:=I.cne
 have tracked:∀ {a:Addr} {h':Heap},(∃ o,s.heap.get? a=some o/\H a=none)->Heap.SameBut a s.heap h'->vS X.prog X.w H h':=fun {a h'} ha hs b ob e=>by
  obtain ⟨_,_,hfree⟩:=ha;refine (I.hok b ob e).stay (fun c w' hc q=>(hs.2 c ?_).trans q) (fun _ q=>q) fun _ _ q=>q;rintro rfl;rcases hc with rfl|hc
  .rw [hfree] at e;cases e
  .rw [hfree] at hc;cases hc
 rcases hx with hk|hk
 .refine wpAny_storeName_local hk hn (fun h' hn' hs=>?_) hcls;obtain ⟨oL,_,_,hoL,_⟩:=id hn;refine h _ ⟨I.ok,I.os,I.bare,⟨fun b o e n hb hx=>?_,fun b o e n hb hx=>?_,I.base.free,fun b o e hx=>?_,I.base.tups,I.base.frzs,I.base.tbls⟩,⟨_,hn',fun j y v' e1 e2 e3=>?_⟩,fun y c e=>?_,I.free,I.freeC,fun p hp=>?_,tracked ⟨oL,hoL,I.free⟩ hs,by simpa using I.len⟩ ⟨_,hs,.inl rfl⟩
  .exact (hs.2 b (Zl (Zi (Zf e) I.ok.above))).trans (I.base.keep b o e n hb hx)
  .obtain ⟨sl,e1⟩:=I.base.slot b o e n hb hx;exact ⟨sl,(hs.2 b (Zl (Zi (Zf e) I.ok.above))).trans e1⟩
  .obtain ⟨o',e1⟩:=I.base.there b o e hx;exact ⟨o',(hs.2 b (Zl (Zi (Zf e) I.ok.above))).trans e1⟩
  .by_cases hj:j=i
   .subst hj;rw [hi] at e1;cases e1;rw [ZaC hiσ] at e2;cases e2;exact ⟨u,r,.inl ⟨hk,by simp⟩⟩
   .rw [Zaw (Ne.symm hj)] at e2;obtain ⟨u',r',q⟩:=hl j y v' e1 e2 e3;refine ⟨u',r',?_⟩;rcases q with ⟨k,e⟩|⟨k,c,e,z⟩
    .refine .inl ⟨k,?_⟩;have:y≠x:=fun e=>hj (pI hN e1 (e▸hi));simp [this,e]
    .exact .inr ⟨k,c,e,z.sameBut hs (cne y c e)⟩
  .obtain ⟨w',z⟩:=I.cell y c e;exact ⟨w',z.sameBut hs (cne y c e)⟩
  .obtain ⟨e,n,ne,nf,d⟩:=I.pin p hp;exact ⟨(hs.2 p.1 ne).trans e,n,ne,nf,d⟩
 .have hfn:X.fn x=true:=by
   rcases hf with z|z
   .exact z
   .rw [z] at hk;cases hk
  obtain ⟨c,hc⟩:=I.ok.has x (.inl hk);obtain ⟨w',z⟩:=I.cell x c hc;refine wpAny_storeName_cell I.ok.kind hk hc z (fun h' hc' hs=>?_);obtain ⟨oc,hoc,hocd⟩:=id z;refine h { s with heap:=h' } ⟨I.ok,I.os,I.bare,⟨fun b o e n hb hx=>?_,fun b o e n hb hx=>?_,I.base.free,fun b o e hx=>?_,I.base.tups,I.base.frzs,I.base.tbls⟩,⟨m,hn.sameBut hs (Ne.symm (cne x c hc)),fun j y v' e1 e2 e3=>?_⟩,fun y c' e=>?_,I.free,I.freeC,fun p hp=>?_,tracked ⟨oc,hoc,I.freeC x c hc⟩ hs,by simpa using I.len⟩ ⟨c,hs,.inr hc⟩
  .exact (hs.2 b (Zl (Zi (Zf e) (I.ok.cab x c hfn hc)))).trans (I.base.keep b o e n hb hx)
  .obtain ⟨sl,e1⟩:=I.base.slot b o e n hb hx;exact ⟨sl,(hs.2 b (Zl (Zi (Zf e) (I.ok.cab x c hfn hc)))).trans e1⟩
  .obtain ⟨o',e1⟩:=I.base.there b o e hx;exact ⟨o',(hs.2 b (Zl (Zi (Zf e) (I.ok.cab x c hfn hc)))).trans e1⟩
  .by_cases hj:j=i
   .subst hj;rw [hi] at e1;cases e1;rw [ZaC hiσ] at e2;cases e2;exact ⟨u,r,.inr ⟨.inl hk,c,hc,hc'⟩⟩
   .rw [Zaw (Ne.symm hj)] at e2;obtain ⟨u',r',q⟩:=hl j y v' e1 e2 e3;refine ⟨u',r',?_⟩;rcases q with q|⟨k,c',e,z'⟩
    .exact .inl q
    .refine .inr ⟨k,c',e,z'.sameBut hs ?_⟩;rintro rfl;exact hj (pI hN e1 (I.ok.inj _ _ _ e hc▸hi))
  .by_cases hcc:c'=c
   .subst hcc;exact ⟨_,hc'⟩
   .obtain ⟨w2,z2⟩:=I.cell y c' e;exact ⟨w2,z2.sameBut hs hcc⟩
  .obtain ⟨e,n,ne,nf,d⟩:=I.pin p hp;refine ⟨(hs.2 p.1 ?_).trans e,n,ne,nf,d⟩;intro q;rw [q,hoc] at e;have q':oc=p.2:=Zz e;exact d w' (by rw [← q'];exact hocd)
theorem pR {M:Model} {A:Around} {E:Value->Shared->Prop} {i:Nat} {x:Str} {v:V} {u:Value} {Q:Unit->Shared->Prop} (I:Inv X pins σ H s) (hN:X.N.Nodup) (hi:X.N[i]?=some x) (hx:Loc X.env.scope x) (r:zB v u)
  (h:∀ s',Inv X pins (σ.set i (some v)) H s'->Q () s') (hf:X.fn x=true\/X.env.scope.names.lookup x=some .local:=by first|exact .inl rfl|exact .inr rfl|assumption):wpAny M A (storeName X.env x u) Q E s :=
 gO I hN hi hx r (fun s' I' _=>h s' I') hf
theorem Inv.call' {s':Shared} {ch:List Addr} (I:Inv X pins σ H s) (ho:s'.os=s.os) (u:Un (rH X.stack) ch H H' s.heap s'.heap) (hok:vS X.prog X.w H' s'.heap) (hg:AllBare s'.gens)
  (hch:∀ b∈ch,(b∈X.ex\/X.s₀.heap.objs.size<=b)/\b≠X.env.locals/\(∀ x c,X.env.cells.lookup x=some c->c≠b)/\∀ p∈X.pn++pins,p.1≠b):Inv X pins σ H' s':=by
 obtain ⟨h',g',d',t',o'⟩:=s';have e:o'=s.os:=ho;subst e;exact I.call (g':=g') (t':=t') (d':=d') u hok hg hch
end
abbrev XK:=Value->Option Addr->Hp->Prop
abbrev St:=List (Option V)
abbrev VK:=V->Hp->Prop
abbrev TE:=St->Hp->VK->Prop
abbrev TT:=St->Hp->(Bool->Hp->Prop)->Prop
abbrev TA:=St->Hp->(List V->Hp->Prop)->Prop
structure Ends where
 nx:St->Hp->Prop
 rt:VK
 bk:St->Hp->Prop:=fun _ _=>False
 ct:St->Hp->Prop:=fun _ _=>False
abbrev TS:=Ends->St->Hp->Prop
def EP (X:Cx) (pins:List (Addr×Obj)) (σ:St) (Q:VK) (u:Value) (s':Shared):Prop:=∃ v H',Inv X pins σ H' s'/\zB v u/\Q v H'
def TP (X:Cx) (pins:List (Addr×Obj)) (σ:St) (Q:Bool->Hp->Prop) (b:Bool) (s':Shared):Prop:=∃ H',Inv X pins σ H' s'/\Q b H'
def AP (X:Cx) (pins:List (Addr×Obj)) (σ:St) (Q:List V->Hp->Prop) (us:List Value) (s':Shared):Prop:=∃ vs H',Inv X pins σ H' s'/\zE vs us/\Q vs H'
def SP (X:Cx) (pins:List (Addr×Obj)) (D:Ends) (f:Flow) (s':Shared):Prop :=
 match f with
 | .next=>∃ σ' H',Inv X pins σ' H' s'/\D.nx σ' H'
 | .brk=>∃ σ' H',Inv X pins σ' H' s'/\D.bk σ' H'
 | .cont=>∃ σ' H',Inv X pins σ' H' s'/\D.ct σ' H'
 | .ret u=>∃ v σ' H',Inv X pins σ' H' s'/\zB v u/\D.rt v H'
def PE (X:Cx) (e:Expr) (t:TE):Prop :=
 ∀ (pins:List (Addr×Obj)) (s:Shared) (σ:St) (H:Hp) (Q:VK),Inv X pins σ H s->t σ H Q->wpAny (model X.prog X.w) X.A (eval e X.env) (EP X pins σ Q) X.xe s
def PT (X:Cx) (e:Expr) (t:TT):Prop :=
 ∀ (pins:List (Addr×Obj)) (s:Shared) (σ:St) (H:Hp) (Q:Bool->Hp->Prop),Inv X pins σ H s->t σ H Q->wpAny (model X.prog X.w) X.A (isTrue e X.env (eval e X.env)) (TP X pins σ Q) X.xe s
def PW (X:Cx) (e:Expr) (t:TT):Prop :=
 ∀ (whole:Sem Value) (pins:List (Addr×Obj)) (s:Shared) (σ:St) (H:Hp) (Q:Bool->Hp->Prop),Inv X pins σ H s->t σ H Q->wpAny (model X.prog X.w) X.A (isTrue e X.env whole) (TP X pins σ Q) X.xe s
theorem PW.pt {X:Cx} {e:Expr} {t:TT} (h:PW X e t):PT X e t:=h _
def PA (X:Cx) (es:List Expr) (t:TA):Prop :=
 ∀ (pos:Pos) (pins:List (Addr×Obj)) (s:Shared) (σ:St) (H:Hp) (Q:List V->Hp->Prop),Inv X pins σ H s->t σ H Q->wpAny (model X.prog X.w) X.A (spliced (backTo pos (starEach es X.env))) (AP X pins σ Q) X.xe s
def PS (X:Cx) (st:Stmt) (t:TS):Prop :=
 ∀ (pins:List (Addr×Obj)) (s:Shared) (σ:St) (H:Hp) (D:Ends),Inv X pins σ H s->t D σ H->wpAny (model X.prog X.w) X.A (exec st X.env) (SP X pins D) X.xe s
def mR (X:Cx) (st:List Stmt) (t:TS):Prop :=
 ∀ (pins:List (Addr×Obj)) (s:Shared) (σ:St) (H:Hp) (D:Ends),Inv X pins σ H s->t D σ H->wpAny (model X.prog X.w) X.A (execs st X.env) (SP X pins D) X.xe s
theorem yG {α:Type} {t:Sem α} {Q Q':α->Shared->Prop} {M:Model} {A:Around} {E:Value->Shared->Prop} {s:Shared} (h:wpAny M A t Q E s) (hQ:∀ a s,Q a s->Q' a s):wpAny M A t Q' E s:=ZN h hQ fun _ _ x=>x
end L2
namespace L2
open PySem PySem.Spec PyProof.Rows
section
variable {X : Cx}
theorem bin {a b:Expr} {ta tb:TE} (ha:PE X a ta) (hb:PE X b tb) {pins:List (Addr×Obj)} {s:Shared} {σ:St} {H:Hp} {R:V->V->Hp->Prop} (I:Inv X pins σ H s) (h:ta σ H fun x H1=>tb σ H1 fun y H2=>R x y H2)
  {α:Type} {Q:α->Shared->Prop} {f:Value->Value->Sem α}
  (hf:∀ v u s2 x y H2,Inv X pins σ H2 s2->zB x v->zB y u->R x y H2->wpAny (model X.prog X.w) X.A (f v u) Q X.xe s2) :
  wpAny (model X.prog X.w) X.A (eval a X.env) (fun v s₁=>wpAny (model X.prog X.w) X.A (eval b X.env) (fun u s₂=>wpAny (model X.prog X.w) X.A (f v u) Q X.xe s₂) X.xe s₁) X.xe s:=by
 refine yG (ha pins s σ H _ I h) fun v s1 ⟨x,H1,I1,r1,q1⟩=>?_;refine yG (hb pins s1 σ H1 _ I1 q1) fun u s2 ⟨y,H2,I2,r2,q2⟩=>?_;exact hf v u s2 x y H2 I2 r1 r2 q2
def tVar (i:Nat):TE:=fun σ H Q=>∃ v,σ[i]?=some (some v)/\Q v H
def tC (v:V):TE:=fun _ H Q=>Q v H
theorem dI {i:Nat} {x:Str} {pos:Pos} (hN:X.N[i]?=some x) (hv:Vis X.env.scope x) (hd:(x==("__debug__" : Str))=false:=by decide) (hcd:(x==("__classdict__" : Str))=false:=by decide):PE X (.Name x pos) (tVar i):=by
 intro pins s σ H Q I h;obtain ⟨v,e,h⟩:=h;obtain ⟨m,hn,hl⟩:=I.loc;obtain ⟨u,r,l⟩:=hl i x v hN e hv;have fin:EP X pins σ Q u s:=⟨v,H,I,r,h⟩;rcases l with ⟨hk,hm⟩|⟨hk,c,hc,hcell⟩
 .exact wpAny_Name (wpAny_loadName_local I.ok.kind hk hn hm fin) hd
 .rcases hk with hk|hk
  .exact wpAny_Name (wpAny_loadName_cell I.ok.kind hk hc hcell fin) hd
  .exact wpAny_Name (wpAny_loadName_free I.ok.kind hk hc hcell fin hcd) hd
theorem zir {i j pos}:PE X (.Constant (.int i) j pos) (tC (.int i)):=fun _ _ _ H _ I h=>wpAny_Constant_int ⟨.int i,H,I.tok _,⟨_,rfl⟩,h⟩
theorem pe_bl {b j pos}:PE X (.Constant (.bool b) j pos) (tC (.bl b)):=fun _ _ _ H _ I h=>Constant_bool ⟨.bl b,H,I,rfl,h⟩
theorem zio {j pos}:PE X (.Constant .none j pos) (tC .non):=fun _ _ _ H _ I h=>Constant_none ⟨.non,H,I,rfl,h⟩
theorem zeT {x j pos}:PE X (.Constant (.str x) j pos) (tC (.str x)):=fun _ _ _ H _ I h=>Calls.Constant_str ⟨.str x,H,I.tok _,⟨_,rfl⟩,h⟩
def Gl (X:Cx) (x:Str):Prop:=X.env.kindOf x=some .globalImplicit
theorem qN {E:Value->Shared->Prop} {pins:List (Addr×Obj)} {s:Shared} {σ:St} {H:Hp} {x:Str} {u:Value} {pos:Pos} {Q:Value->Shared->Prop} (I:Inv X pins σ H s) (hg:Gl X x) (hm:X.mg x=some u) (h:Q u s)
  (hd:(x==("__debug__" : Str))=false:=by decide):wpAny (model X.prog X.w) X.A (eval (.Name x pos) X.env) Q E s :=
 Calls.Name_function_global I.ok.kind hg (Calls.loadGlobal_global (by rw [I.ok.glob];exact I.mod.glob.keeps I.bk) hm h) hd
theorem qW {E:Value->Shared->Prop} {pins:List (Addr×Obj)} {s:Shared} {σ:St} {H:Hp} {x:Str} {u:Value} {pos:Pos} {Q:Value->Shared->Prop} (I:Inv X pins σ H s) (hg:Gl X x) (hm:X.mg x=none) (hv:bootBuiltins x=some u) (h:Q u s)
  (hn:x ≠ "__name__" := by decide) (hd:(x==("__debug__" : Str))=false:=by decide):wpAny (model X.prog X.w) X.A (eval (.Name x pos) X.env) Q E s:=by
 obtain ⟨mb,h1,h2⟩:=I.mod.blt;exact Calls.Name_function_global I.ok.kind hg (Calls.loadGlobal_builtin (by rw [I.ok.glob];exact I.mod.glob.keeps I.bk) hm (by rw [I.ok.blt];exact h1.keeps I.bk) ((h2 x hn).trans hv) h) hd
theorem zf2 {x:Str} {v:V} {u:Value} {pos:Pos} (hg:Gl X x) (hm:X.mg x=some u) (r:zB v u) (hd:(x==("__debug__" : Str))=false:=by decide):PE X (.Name x pos) (tC v) :=
 fun _ _ _ H _ I h=>qN I hg hm ⟨v,H,I,r,h⟩ hd
theorem zf7 {x:Str} {v:V} {u:Value} {pos:Pos} (hg:Gl X x) (hm:X.mg x=none) (hv:bootBuiltins x=some u) (r:zB v u) (hn:x ≠ "__name__" := by decide) (hd:(x==("__debug__" : Str))=false:=by decide):PE X (.Name x pos) (tC v) :=
 fun _ _ _ H _ I h=>qW I hg hm hv ⟨v,H,I,r,h⟩ hn hd
variable {a b : Expr} {ta tb : TE} {pos : Pos}
variable {tA tB' : TT} {rest : List Expr}
def tAnd (t u:TT):TT:=fun σ H Q=>t σ H fun c H1=>if c=true then u σ H1 Q else Q false H1
def tOr (t u:TT):TT:=fun σ H Q=>t σ H fun c H1=>if c=true then Q true H1 else u σ H1 Q
def tNot (t:TT):TT:=fun σ H Q=>t σ H fun c H1=>Q (!c) H1
theorem zfS (ha:PT X a tA):PW X (.BoolOp .And [a] pos) tA:=by
 intro wh pins s σ H Q I h;refine isTrue_and (yG (ha pins s σ H Q I h) fun c s1 e=>?_)
 cases c with
 |true=>exact isTrue_and_nil e
 |false=>exact e
theorem zia (ha:PT X a tA):PW X (.BoolOp .Or [a] pos) tA:=by
 intro wh pins s σ H Q I h;refine isTrue_or (yG (ha pins s σ H Q I h) fun c s1 e=>?_)
 cases c with
 |false=>exact isTrue_or_nil e
 |true=>exact e
theorem zeP (ha:PT X a tA) (hb:PW X (.BoolOp .And (b::rest) pos) tB'):PW X (.BoolOp .And (a::b::rest) pos) (tAnd tA tB'):=by
 intro wh pins s σ H Q I h;refine isTrue_and (yG (ha pins s σ H _ I h) fun c s1 ⟨H1,I1,q1⟩=>?_)
 cases c with
 |true=>exact hb wh pins s1 σ H1 Q I1 q1
 |false=>exact ⟨H1,I1,q1⟩
theorem zib (ha:PT X a tA) (hb:PW X (.BoolOp .Or (b::rest) pos) tB'):PW X (.BoolOp .Or (a::b::rest) pos) (tOr tA tB'):=by
 intro wh pins s σ H Q I h;refine isTrue_or (yG (ha pins s σ H _ I h) fun c s1 ⟨H1,I1,q1⟩=>?_)
 cases c with
 |true=>exact ⟨H1,I1,q1⟩
 |false=>exact hb wh pins s1 σ H1 Q I1 q1
theorem zic (ha:PT X a tA):PT X (.UnaryOp .Not a pos) (tNot tA):=by
 intro pins s σ H Q I h;exact isTrue_not (ha pins s σ H (fun c H1=>Q (!c) H1) I h)
def zhH (ta tb:TE):TE:=fun σ H Q=>ta σ H fun x H1=>∃ c,x=.bl c/\if c=true then tb σ H1 Q else Q (.bl false) H1
def tOrV (ta tb:TE):TE:=fun σ H Q=>ta σ H fun x H1=>∃ c,x=.bl c/\if c=true then Q (.bl true) H1 else tb σ H1 Q
def tNotV (ta:TE):TE:=fun σ H Q=>ta σ H fun x H1=>∃ c,x=.bl c/\Q (.bl (!c)) H1
theorem zeU {op} {t:TE} (h:PE X a t):PE X (.BoolOp op [a] pos) t:=fun pins s σ H Q I hw=>BoolOp_one (h pins s σ H Q I hw)
theorem zeV (ha:PE X a ta) (hb:PE X (.BoolOp .And (b::rest) pos) tb):PE X (.BoolOp .And (a::b::rest) pos) (zhH ta tb):=by
 intro pins s σ H Q I h;refine BoolOp_and (yG (ha pins s σ H _ I h) fun v s1 ⟨x,H1,I1,r1,q1⟩=>?_);obtain ⟨c,rfl,q1⟩:=q1;cases r1;refine ZE ?_
 cases c with
 |true=>exact hb pins s1 σ H1 Q I1 q1
 |false=>exact ⟨.bl false,H1,I1,rfl,q1⟩
theorem zim (ha:PE X a ta) (hb:PE X (.BoolOp .Or (b::rest) pos) tb):PE X (.BoolOp .Or (a::b::rest) pos) (tOrV ta tb):=by
 intro pins s σ H Q I h;refine BoolOp_or (yG (ha pins s σ H _ I h) fun v s1 ⟨x,H1,I1,r1,q1⟩=>?_);obtain ⟨c,rfl,q1⟩:=q1;cases r1;refine ZE ?_
 cases c with
 |false=>exact hb pins s1 σ H1 Q I1 q1
 |true=>exact ⟨.bl true,H1,I1,rfl,q1⟩
theorem zin (ha:PE X a ta):PE X (.UnaryOp .Not a pos) (tNotV ta):=by
 intro pins s σ H Q I h;refine UnaryOp_ (yG (ha pins s σ H _ I h) fun v s1 ⟨x,H1,I1,r1,q1⟩=>?_);obtain ⟨c,rfl,q1⟩:=q1;cases r1;exact not_of (ZE ⟨.bl (!c),H1,I1,rfl,q1⟩)
def tIf (t:TT) (ta tb:TE):TE:=fun σ H Q=>t σ H fun c H1=>if c=true then ta σ H1 Q else tb σ H1 Q
theorem zdJ {c:Expr} (hc:PT X c tA) (ha:PE X a ta) (hb:PE X b tb):PE X (.IfExp c a b pos) (tIf tA ta tb):=by
 intro pins s σ H Q I h;refine wpAny_IfExp (yG (hc pins s σ H _ I h) fun d s1 ⟨H1,I1,q1⟩=>?_)
 cases d with
 |true=>exact ha pins s1 σ H1 Q I1 q1
 |false=>exact hb pins s1 σ H1 Q I1 q1
end
end L2
namespace L2
open PySem PySem.Spec PyProof.Rows
def rQ (K:PySem.W.Frag) (H:Hp) (a:Addr) (xs:List V):Prop :=
 Rd H a (.lst xs) \/
  ∃ (o:Obj) (its:Array Value) (n:Nat),K.lookup a=some o/\o.cls=.type "list" /\ o.dict=none/\o.data=.seq its n/\its.size<=sizeLine/\zE xs its.toList
def tB (K:PySem.W.Frag) (H:Hp) (a:Addr) (xs:List V):Prop :=
 Rd H a (.tup xs) \/
  ∃ (o:Obj) (its:Array Value) (n:Nat),K.lookup a=some o/\o.cls=.type "tuple" /\ o.data=.seq its n/\its.size<=sizeLine/\zE xs its.toList
def absV:Value->Option V
 | .none=>some .non
 | .bool b=>some (.bl b)
 | .int i _=>some (.int i)
 | .str x _=>some (.str x)
 | .bytes b _=>some (.byt b)
 | .float b _=>some (.flt b)
 | .ref a=>some (.ref a)
 | .type n=>some (.ty n)
 |_=>none
theorem zB.abs {x:V} {u:Value} (r:zB x u):absV u=some x:=by
 cases x with
 |non=>cases r;rfl
 |bl _=>cases r;rfl
 |int _=>obtain ⟨t,rfl⟩:=r;rfl
 |str _=>obtain ⟨t,rfl⟩:=r;rfl
 |byt _=>obtain ⟨t,rfl⟩:=r;rfl
 |flt _=>obtain ⟨t,rfl⟩:=r;rfl
 |ref _=>cases r;rfl
 |ty _=>cases r;rfl
theorem zB.inj {x y:V} {u:Value} (r:zB x u) (q:zB y u):x=y:=Zz (r.abs.symm.trans q.abs)
theorem zE.inj:∀ {xs ys:List V} {us:List Value},zE xs us->zE ys us->xs=ys
 |_,_,_,.nil,.nil=>rfl
 |_,_,_,.cons r t,.cons r' t'=>by rw [r.inj r',zE.inj t t']
section
variable {X : Cx} {pins : List (Addr × Obj)} {σ : St} {H : Hp} {s : Shared} {a : Addr} {xs ys : List V}
theorem rQ.of {K:PySem.W.Frag} (h:H a=some (.lst xs)):rQ K H a xs:=.inl (.inl h)
theorem tB.of {K:PySem.W.Frag} (h:H a=some (.tup xs)):tB K H a xs:=.inl (.inl h)
theorem Inv.list (I:Inv X pins σ H s) (h:rQ X.K H a xs):∃ its:List Value,zE xs its/\PlainL s.heap a its.toArray/\xs.length<=sizeLine:=by
 rcases h with h|⟨o,its,n,hk,hc,hd,hs,hz,r⟩
 .obtain ⟨z,its,n,r,e⟩:=h.ok I.hok;exact ⟨its,r,⟨_,n,e,rfl,rfl,rfl⟩,z⟩
 .refine ⟨its.toList,r,⟨o,n,I.kIn a o hk,hc,hd,by simpa using hs⟩,?_⟩;have e:=r.length;simp only [Zn] at e;omega
theorem Inv.tuple (I:Inv X pins σ H s) (h:tB X.K H a xs):∃ its:List Value,zE xs its/\IsTup s.heap a its.toArray/\xs.length<=sizeLine:=by
 rcases h with h|⟨o,its,n,hk,hc,hs,hz,r⟩
 .obtain ⟨z,its,r,p⟩:=h.ok I.hok;exact ⟨its,r,p,z⟩
 .refine ⟨its.toList,r,⟨o,I.kIn a o hk,hc,n,by simpa using hs⟩,?_⟩;have e:=r.length;simp only [Zn] at e;omega
theorem Inv.list_inj (I:Inv X pins σ H s) (h:rQ X.K H a xs) (h':rQ X.K H a ys):xs=ys:=by
 obtain ⟨its,r,⟨o,n,e,_,_,d⟩,_⟩:=I.list h;obtain ⟨its',r',⟨o',n',e',_,_,d'⟩,_⟩:=I.list h';rw [e] at e';cases e';rw [d] at d'
 injection d' with d1 _
 have:its=its':=by simpa using congrArg Array.toList d1
 subst this;exact r.inj r'
theorem Inv.tuple_inj (I:Inv X pins σ H s) (h:tB X.K H a xs) (h':tB X.K H a ys):xs=ys:=by
 obtain ⟨its,r,⟨o,e,_,n,d⟩,_⟩:=I.tuple h;obtain ⟨its',r',⟨o',e',_,n',d'⟩,_⟩:=I.tuple h';rw [e] at e';cases e';rw [d] at d'
 injection d' with d1 _
 have:its=its':=by simpa using congrArg Array.toList d1
 subst this;exact r.inj r'
end
abbrev Cx.wish (X:Cx) (E:Value->Shared->Prop):Cx:={ X with xe:=E }
abbrev Cx.nox (X:Cx):Cx:=X.wish fun _ _=>False
theorem Cx.Ok.wish {X:Cx} (ok:X.Ok) (E:Value->Shared->Prop):(X.wish E).Ok :=
 ⟨ok.mod,ok.kind,ok.glob,ok.blt,ok.above,ok.inj,ok.has,ok.cab,ok.hd,ok.frames,ok.stk,ok.exf,ok.bs,ok.bsz,ok.noex,ok.exfs,ok.funs,ok.frf⟩
theorem Cx.Ok.unwish {X:Cx} {E:Value->Shared->Prop} (ok:(X.wish E).Ok):X.Ok :=
 ⟨ok.mod,ok.kind,ok.glob,ok.blt,ok.above,ok.inj,ok.has,ok.cab,ok.hd,ok.frames,ok.stk,ok.exf,ok.bs,ok.bsz,ok.noex,ok.exfs,ok.funs,ok.frf⟩
section
variable {X : Cx} {pins : List (Addr × Obj)} {σ : St} {H : Hp} {s : Shared} {E : Value → Shared → Prop}
theorem Inv.wish (I:Inv X pins σ H s) (E:Value->Shared->Prop):Inv (X.wish E) pins σ H s:=⟨I.ok.wish E,I.os,I.bare,I.base,I.loc,I.cell,I.free,I.freeC,I.pin,I.hok,I.len⟩
theorem Inv.unwish (I:Inv (X.wish E) pins σ H s):Inv X pins σ H s:=⟨I.ok.unwish,I.os,I.bare,I.base,I.loc,I.cell,I.free,I.freeC,I.pin,I.hok,I.len⟩
theorem SP.unwish {D:Ends} {f:Flow} {s':Shared} (h:SP (X.wish E) pins D f s'):SP X pins D f s':=by
 cases f with
 |next=>obtain ⟨σ',H',I,q⟩:=h;exact ⟨σ',H',I.unwish,q⟩
 |brk=>obtain ⟨σ',H',I,q⟩:=h;exact ⟨σ',H',I.unwish,q⟩
 |cont=>obtain ⟨σ',H',I,q⟩:=h;exact ⟨σ',H',I.unwish,q⟩
 |ret u=>obtain ⟨v,σ',H',I,r,q⟩:=h;exact ⟨v,σ',H',I.unwish,r,q⟩
theorem PT.nox {e:Expr} {t:TT} (h:PT X.nox e t):PT X e t:=fun pins s σ H Q I hw =>
 ZN (h pins s σ H Q (I.wish _) hw) (fun _ _ ⟨H',I',q⟩=>⟨H',I'.unwish,q⟩) fun _ _ z=>False.elim z
theorem mR.nox {st:List Stmt} {t:TS} (h:mR X.nox st t):mR X st t:=fun pins s σ H D I hw =>
 ZN (h pins s σ H D (I.wish _) hw) (fun _ _ q=>q.unwish) fun _ _ z=>False.elim z
end
section
variable {X : Cx} {st : Stmt} {rest : List Stmt} {t u : TS} {e : Expr} {te : TE} {pos : Pos}
def zhD:TS:=fun D σ H=>D.nx σ H
def tSeq (t u:TS):TS:=fun D σ H=>t { D with nx:=u D } σ H
theorem zbQ:mR X [] zhD:=fun _ _ σ H _ I h=>ZbQ ⟨σ,H,I,h⟩
theorem zaq (h1:PS X st t) (h2:mR X rest u):mR X (st::rest) (tSeq t u):=by
 intro pins s σ H D I h;refine wpAny_execs_cons (yG (h1 pins s σ H { D with nx:=u D } I h) fun f s1 q=>?_)
 cases f with
 |next =>
  obtain ⟨σ',H',I',q⟩:=q;exact h2 pins s1 σ' H' D I' q
 |ret v=>exact q
 |brk=>exact q
 |cont=>exact q
theorem zbP (h1:PS X st t):mR X [st] t:=by
 intro pins s σ H D I h;refine wpAny_execs_cons (yG (h1 pins s σ H D I h) fun f s1 q=>?_)
 cases f with
 |next=>exact ZbQ q
 |ret v=>exact q
 |brk=>exact q
 |cont=>exact q
def zhG:TS:=fun D σ H=>D.bk σ H
def tCont:TS:=fun D σ H=>D.ct σ H
theorem zfX:PS X (.Pass pos) zhD:=fun _ _ σ H _ I h=>wpAny_Pass ⟨σ,H,I,h⟩
theorem zdD:PS X (.Break pos) zhG:=fun _ _ σ H _ I h=>wpAny_Break ⟨σ,H,I,h⟩
theorem zad:PS X (.Continue pos) tCont:=fun _ _ σ H _ I h=>wpAny_Continue ⟨σ,H,I,h⟩
theorem Inv.quiet {pins:List (Addr×Obj)} {σ:St} {H:Hp} {s:Shared} (I:Inv X pins σ H s):interactive X.env=false:=by simp [interactive,I.ok.kind]
def tDrop (te:TE):TS:=fun D σ H=>te σ H fun _ H1=>D.nx σ H1
theorem zbR (he:PE X e te) (hs:swapsWith e none pos.line X.env=pure false:=by rfl):PS X (.Expr e pos) (tDrop te):=by
 intro pins s σ H D I h;exact wpAny_Expr_any (yG (he pins s σ H _ I h) fun v s1 ⟨x,H1,I1,r1,q1⟩=>⟨σ,H1,I1,q1⟩) I.quiet hs
def tRet (te:TE):TS:=fun D σ H=>te σ H D.rt
theorem zeQ (he:PE X e te):PS X (.Return (some e) pos) (tRet te):=by
 intro pins s σ H D I h;exact wpAny_Return_some (yG (he pins s σ H _ I h) fun v s1 ⟨x,H1,I1,r1,q1⟩=>⟨x,σ,H1,I1,r1,q1⟩)
def tRetN:TS:=fun D _ H=>D.rt .non H
theorem zfW:PS X (.Return none pos) tRetN:=fun _ _ σ H _ I h=>wpAny_Return_none ⟨.non,σ,H,I,rfl,h⟩
def tIfS (c:TT) (t u:TS):TS:=fun D σ H=>c σ H fun b H1=>if b=true then t D σ H1 else u D σ H1
theorem zif {c:Expr} {a b:List Stmt} {tc:TT} (hc:PT X c tc) (ha:mR X a t) (hb:mR X b u):PS X (.If c a b pos) (tIfS tc t u):=by
 intro pins s σ H D I h;refine wpAny_If (yG (hc pins s σ H _ I h) fun d s1 ⟨H1,I1,q1⟩=>?_)
 cases d with
 |true=>exact ha pins s1 σ H1 D I1 q1
 |false=>exact hb pins s1 σ H1 D I1 q1
def zhE:TS:=fun _ _ _=>False
theorem zdC:PS X st zhE:=fun _ _ _ _ _ _ h=>h.elim
end
abbrev TG:=V->St->Hp->(St->Hp->Prop)->Prop
abbrev TGs:=List V->St->Hp->(St->Hp->Prop)->Prop
def PG (X:Cx) (target:Expr) (t:TG):Prop :=
 ∀ (pins:List (Addr×Obj)) (s:Shared) (σ:St) (H:Hp) (v:V) (u:Value) (Q:St->Hp->Prop),Inv X pins σ H s->zB v u->t v σ H Q ->
  wpAny (model X.prog X.w) X.A (assign target X.env u) (fun _ s'=>∃ σ' H',Inv X pins σ' H' s'/\Q σ' H') X.xe s
def PGs (X:Cx) (ts:List Expr) (t:TGs):Prop :=
 ∀ (pins:List (Addr×Obj)) (s:Shared) (σ:St) (H:Hp) (vs:List V) (us:List Value) (Q:St->Hp->Prop),Inv X pins σ H s->zE vs us->t vs σ H Q ->
  wpAny (model X.prog X.w) X.A (assignInOrder ((assignEach ts X.env).map (·.2)) us) (fun _ s'=>∃ σ' H',Inv X pins σ' H' s'/\Q σ' H') X.xe s
abbrev TSet:=V->V->V->Hp->(Hp->Prop)->Prop
def PSet (X:Cx) (t:TSet):Prop :=
 ∀ (pins:List (Addr×Obj)) (s:Shared) (σ:St) (H:Hp) (o i v:V) (ov iv u:Value) (Q:Hp->Prop),Inv X pins σ H s->zB o ov->zB i iv->zB v u->t o i v H Q ->
  wpAny (model X.prog X.w) X.A (setItem ov iv u) (fun _ s'=>∃ H',Inv X pins σ H' s'/\Q H') X.xe s
section
variable {X : Cx} {pos : Pos}
def zee (i:Nat):TG:=fun v σ H Q=>Q (σ.set i (some v)) H
theorem dJ {i:Nat} {x:Str} (hN:X.N.Nodup) (hi:X.N[i]?=some x) (hx:Loc X.env.scope x) (hf:X.fn x=true\/X.env.scope.names.lookup x=some .local:=by first|exact .inl rfl|exact .inr rfl|assumption):PG X (.Name x pos) (zee i):=by
 intro pins s σ H v u Q I r h;exact wpAny_assign_Name (pR I hN hi hx r (fun s' I'=>⟨_,H,I',h⟩) hf)
def gNil:TGs:=fun vs σ H Q=>vs=[]/\Q σ H
def gCons (t:TG) (u:TGs):TGs:=fun vs σ H Q=>∃ v r,vs=v::r/\t v σ H fun σ' H'=>u r σ' H' Q
theorem zbU:PGs X [] gNil:=by
 intro pins s σ H vs us Q I r h;obtain ⟨e,h⟩:=h;subst e;cases r;exact assignInOrder_nil ⟨σ,H,I,h⟩
theorem pK {e:Expr} {es:List Expr} {t:TG} {u:TGs} (h1:PG X e t) (h2:PGs X es u)
  (hs:(assignEach (e::es) X.env).map (·.2)=assign e X.env::(assignEach es X.env).map (·.2):=by rfl):PGs X (e::es) (gCons t u):=by
 intro pins s σ H vs us Q I r h;obtain ⟨v,vr,e1,h⟩:=h;subst e1
 cases r with
 |cons r rr =>
  rw [hs];refine assignInOrder_cons (yG (h1 pins s σ H _ _ _ I r h) fun _ s1 ⟨σ1,H1,I1,q1⟩=>?_);exact h2 pins s1 σ1 H1 _ _ Q I1 rr q1
def gTup (K:PySem.W.Frag) (n:Nat) (t:TGs):TG:=fun v σ H Q=>∃ a xs,v=.ref a/\tB K H a xs/\xs.length=n/\t xs σ H Q
theorem zik {es:List Expr} {k:Nat} {t:TGs} {n:Nat} (hc:X.calm=true) (h:PGs X es t)
  (hn:(assignEach es X.env).length=n:=by rfl) (hst:(assignEach es X.env).findIdx? (·.1)=none:=by rfl):PG X (.Tuple es k pos) (gTup X.K n t):=by
 intro pins s σ H v u Q I r hw;obtain ⟨a,xs,e1,hq,hl,hw⟩:=hw;subst e1;cases r;obtain ⟨its,rv,ht,hz⟩:=I.tuple hq;refine assign_Tuple_tuple (I.ok.hd hc) ht (by simp [hn,← hl,rv.length]) hst fun h' hx=>?_;have I1:Inv X pins σ H { s with heap:=h' }:=I.kept (t':=s.toks) fun b o e=>hx b o (Zl (Zf e)) e;exact h pins _ σ H xs _ Q I1 (by simpa using rv) hw
def tAsg (te:TE) (g:TG):TS:=fun D σ H=>te σ H fun x H1=>g x σ H1 D.nx
theorem zeS {tg e:Expr} {te:TE} {g:TG} (he:PE X e te) (hg:PG X tg g) (hs:swapsWithSole [tg] e pos.line X.env=pure false:=by rfl) (hw:swappedStores [tg] e X.env=pure none:=by rfl)
  (h1:(assignEach [tg] X.env).map (·.2)=[assign tg X.env]:=by rfl):PS X (.Assign [tg] e pos) (tAsg te g):=by
 intro pins s σ H D I h;refine wpAny_Assign_stores (yG (he pins s σ H _ I h) fun v s1 ⟨x,H1,I1,r1,q1⟩=>?_) hs hw;rw [h1];exact yG (hg pins s1 σ H1 x v _ I1 r1 q1) fun _ s2 q=>q
theorem dL {i:Nat} {x:Str} {e:Expr} {te:TE} {pos':Pos} (hN:X.N.Nodup) (hi:X.N[i]?=some x) (hx:Loc X.env.scope x) (he:PE X e te) (hs:swapsWith e (some (.Name x pos')) pos.line X.env=pure false:=by rfl) (hf:X.fn x=true\/X.env.scope.names.lookup x=some .local:=by first|exact .inl rfl|exact .inr rfl|assumption) :
  PS X (.Assign [.Name x pos'] e pos) (tAsg te (zee i)):=by
 intro pins s σ H D I h;refine wpAny_Assign_Name (yG (he pins s σ H _ I h) fun v s1 ⟨y,H1,I1,r1,q1⟩=>?_) hs;exact pR I1 hN hi hx r1 (fun s2 I2=>⟨_,H1,I2,q1⟩) hf
end
section
variable {X : Cx} {pos : Pos}
def zhC (c:TT) (tb:TS):TS:=fun D σ H=>∃ W:Nat->St->Hp->Prop,(∃ m,W m σ H)/\∀ m σ H,W m σ H ->
 c σ H fun b H1=>if b=true then ∃ N:St->Hp->Prop,(∀ σ' H',N σ' H'->∃ m',m' < m/\W m' σ' H')/\tb { D with nx:=N,ct:=N,bk:=D.nx } σ H1 else D.nx σ H1
theorem zar {c:Expr} {body:List Stmt} {tc:TT} {tb:TS} (hp:PassesOwn (model X.prog X.w) X.A X.env X.xe) (hc:PT X c tc) (hb:mR X body tb):PS X (.While c body [] pos) (zhC tc tb):=by
 intro pins s σ H D I h;obtain ⟨W,⟨m0,w0⟩,turn⟩:=h;refine wpAny_While (codeAny_whileLoop (fun n s'=>∃ σ' H',Inv X pins σ' H' s'/\W n σ' H') ?_ m0 ⟨σ,H,I,w0⟩);rintro n s1 ⟨σ1,H1,I1,w1⟩;refine ZaT hp (yG (hc pins s1 σ1 H1 _ I1 (turn n σ1 H1 w1)) fun b s2 ⟨H2,I2,q2⟩=>?_)
 cases b with
 |true =>
  obtain ⟨N,hN,q2⟩:=q2;rw [if_pos rfl];refine ZaT hp (yG (hb pins s2 σ1 H2 _ I2 q2) fun f s3 q3=>?_)
  cases f with
  |next =>
   obtain ⟨σ3,H3,I3,n3⟩:=q3;obtain ⟨m',hm,w3⟩:=hN σ3 H3 n3;exact ⟨m',hm,σ3,H3,I3,w3⟩
  |cont =>
   obtain ⟨σ3,H3,I3,n3⟩:=q3;obtain ⟨m',hm,w3⟩:=hN σ3 H3 n3;exact ⟨m',hm,σ3,H3,I3,w3⟩
  |brk=>exact q3
  |ret v=>exact q3
 |false =>
  rw [if_neg zzN];exact ZbQ ⟨σ1,H2,I2,q2⟩
end
structure It where
 go:Nat->Hp->Prop
 yld:Nat->Hp->V->Hp->Prop
 stop:Nat->Hp->Prop
def kF (X:Cx) (pins:List (Addr×Obj)) (H:Hp) (b:Addr):Prop :=
 H b=none/\b≠X.env.locals/\b∉X.fs/\(b∈X.ex\/X.s₀.heap.objs.size<=b)/\(∀ x c,X.env.cells.lookup x=some c->c≠b)/\∀ p∈X.pn++pins,p.1≠b
theorem Inv.fpOk {X:Cx} {pins:List (Addr×Obj)} {σ:St} {H H':Hp} {s:Shared} {b:Addr} (I:Inv X pins σ H s) (hb:s.heap.objs.size<=b) (hn:H' b=none):kF X pins H' b:=by
 refine ⟨hn,Z1 (Zi I.lt hb),I.nofs hb,.inr (Zy I.sz hb),fun x c e z=>?_,fun p hp z=>?_⟩
 .obtain ⟨v,q⟩:=I.cell x c e;exact absurd (Zi q.lt (by rw [z];exact hb)) (Zad _)
 .exact absurd (Zi (Zf (I.pin p hp).1) (by rw [z];exact hb)) (Zad _)
structure Turn (P:Program) (w:World) (K:PySem.W.Frag) (tg:Expr) (J:It) (fp:List Addr) (it:Addr) (tn:Nat->Heap->Prop):Prop where
 mem:it∈fp
 obj:∀ i h,tn i h->∀ b∈fp,∃ o,h.get? b=some o/\∀ v,o.data≠.cell v
 keep:∀ i h h',tn i h->(∀ b∈fp,∀ o,h.get? b=some o->h'.get? b=some o)->tn i h'
 item:∀ (X:Cx),X.prog=P->X.w=w->X.K=K->X.calm=true->∀ (i:Nat) (pins:List (Addr×Obj)) (s:Shared) (σ:St) (H:Hp) (E:Value->Shared->Prop),Inv X pins σ H s->(∀ b∈fp,kF X pins H b)->tn i s.heap->J.go i H ->
  wpAny (model P w) X.A (pyNext (.ref it)) (fun r s1=>∃ u,r=some u /\
   wpAny (model P w) X.A (letOwnedTupleGo tg (.ref it) u) (fun _ s2=>∃ x H',Inv X pins σ H' s2/\zB x u/\J.yld i H x H'/\tn (i+1) s2.heap/\∀ b∈fp,H' b=none) E s1) E s
 done:∀ (X:Cx),X.prog=P->X.w=w->X.K=K->X.calm=true->∀ (i:Nat) (pins:List (Addr×Obj)) (s:Shared) (σ:St) (H:Hp) (E:Value->Shared->Prop),Inv X pins σ H s->(∀ b∈fp,kF X pins H b)->tn i s.heap->J.stop i H ->
  wpAny (model P w) X.A (pyNext (.ref it)) (fun r s1=>r=none/\Inv X pins σ H s1) E s
 self:∀ (A:Around) (i:Nat) (s:Shared) (Q:Value->Shared->Prop) (E:Value->Shared->Prop),tn i s.heap->Q (.ref it) s->wpAny (model P w) A (pyIter (.ref it)) Q E s
abbrev TI:=St->Hp->(It->Hp->Prop)->Prop
def PIE (X:Cx) (pins:List (Addr×Obj)) (σ:St) (tg:Expr) (R:It->Hp->Prop) (itv:Value) (s2:Shared):Prop :=
 ∃ (it:Addr) (fp:List Addr) (tn:Nat->Heap->Prop) (J:It) (H':Hp),itv=.ref it/\Inv X pins σ H' s2/\Turn X.prog X.w X.K tg J fp it tn/\tn 0 s2.heap/\(∀ b∈fp,kF X pins H' b)/\R J H'
def PI (X:Cx) (tg iter:Expr) (wi:TI):Prop :=
 ∀ (pins:List (Addr×Obj)) (s:Shared) (σ:St) (H:Hp) (R:It->Hp->Prop),Inv X pins σ H s->wi σ H R ->
  wpAny (model X.prog X.w) X.A (eval iter X.env) (fun v s1=>wpAny (model X.prog X.w) X.A (pyIter v) (PIE X pins σ tg R) X.xe s1) X.xe s
theorem fP {M:Model} {A:Around} {E:Value->Shared->Prop} {s:Shared} {tg:Expr} {it:Addr} {u:Value} {o:Obj} {n:String} {vs:Array Value} {Q:Unit->Shared->Prop} (ho:s.heap.get? it=some o) (hc:o.cls=.type n) (hd:o.data=.fields vs)
    (hn:["enumerate", "zip", "dict_itemiterator", "dict_reverseitemiterator", "odict_iterator", "itertools.zip_longest", "itertools.pairwise"].contains n=false) (hQ:Q () s):wpAny M A (letOwnedTupleGo tg (.ref it) u) Q E s:=by
  unfold letOwnedTupleGo
  cases tg<;>first
    |exact Zc hQ
    | (cases u<;>first
        |exact Zc hQ
        | (refine Za (Zct ho ?_)
           rw [hc,hd];show wpAny M A (if (["enumerate", "zip", "dict_itemiterator", "dict_reverseitemiterator", "odict_iterator", "itertools.zip_longest", "itertools.pairwise"].contains n&&vs[0]?==some (rawInt _))=true then _ else _) Q E s;rw [if_neg (by intro h;rw [hn,Bool.false_and] at h;cases h)];exact Zc hQ))
def Itl (K:PySem.W.Frag) (a:Addr):It :=
 ⟨fun i H=>∃ xs x,rQ K H a xs/\xs[i]?=some x,fun i H x H'=>H'=H/\∀ xs,rQ K H a xs->xs[i]?=some x,fun i H=>∃ xs,rQ K H a xs/\xs.length<=i⟩
def Itt (K:PySem.W.Frag) (a:Addr):It :=
 ⟨fun i H=>∃ xs x,tB K H a xs/\xs[i]?=some x,fun i H x H'=>H'=H/\∀ xs,tB K H a xs->xs[i]?=some x,fun i H=>∃ xs,tB K H a xs/\xs.length<=i⟩
def Itr (lo:Int) (n:Nat):It:=⟨fun i _=>i<n,fun i H x H'=>H'=H/\x=.int (lo+i),fun i _=>n<=i⟩
theorem zbo {P:Program} {w:World} {K:PySem.W.Frag} {tg:Expr} (a it:Addr):Turn P w K tg (Itl K a) [it] it (fun i h=>h.IsListIter it a i) where
 mem:=by simp
 obj:=fun i h st b hb=>by
  have e:b=it:=by simpa using hb
  subst e;obtain ⟨o,e,c,d⟩:=st;exact ⟨o,e,fun v z=>by rw [d] at z;cases z⟩
 keep:=fun i h h' st k=>st.at fun o e=>k it (by simp) o e
 item:=by
  intro X hP hw hK hc i pins s σ H E I hf st hg;subst hP hw hK;obtain ⟨xs,x,hq,hx⟩:=hg;obtain ⟨its,rv,p,hz⟩:=I.list hq;obtain ⟨u,hu,ru⟩:=rv.get hx;obtain ⟨f0,f1,f2,f3,f4,f5⟩:=hf it (by simp);refine wpAny_pyNext_list_item st p.isList (x:=u) (by simpa using hu) fun h' st' sb=>?_;have I1:Inv X pins σ H { s with heap:=h' }:=I.turned (t':=s.toks) (fun b o hb e=>(sb.2 b hb).trans e) f0 f1 f3 f4 f5;obtain ⟨o,e,c,d⟩:=id st';exact ⟨u,rfl,fP (s:={ s with heap:=h' }) e c d (by decide) ⟨x,H,I1,ru,⟨rfl,fun ys hy=>by rw [I.list_inj hy hq];exact hx⟩,st',fun b hb=>(hf b hb).1⟩⟩
 done:=by
  intro X hP hw hK hc i pins s σ H E I hf st hg;subst hP hw hK;obtain ⟨xs,hq,hx⟩:=hg;obtain ⟨its,rv,p,hz⟩:=I.list hq;obtain ⟨f0,f1,f2,f3,f4,f5⟩:=hf it (by simp);have hl:=rv.length;exact wpAny_pyNext_list_end (I.ok.hd hc) st p.isList (by simp;omega) fun h' eb=>⟨rfl,I.turned (t':=s.toks) (fun b o hb e=>eb b o hb e) f0 f1 f3 f4 f5⟩
 self:=fun _ _ _ _ _ st h=>wpAny_pyIter_listiter st h
theorem zaM {P:Program} {w:World} {K:PySem.W.Frag} {tg:Expr} (a it:Addr):Turn P w K tg (Itt K a) [it] it (fun i h=>h.IsTupleIter it a i) where
 mem:=by simp
 obj:=fun i h st b hb=>by
  have e:b=it:=by simpa using hb
  subst e;obtain ⟨o,e,c,d⟩:=st;exact ⟨o,e,fun v z=>by rw [d] at z;cases z⟩
 keep:=fun i h h' st k=>st.at fun o e=>k it (by simp) o e
 item:=by
  intro X hP hw hK hc i pins s σ H E I hf st hg;subst hP hw hK;obtain ⟨xs,x,hq,hx⟩:=hg;obtain ⟨its,rv,p,hz⟩:=I.tuple hq;obtain ⟨u,hu,ru⟩:=rv.get hx;obtain ⟨f0,f1,f2,f3,f4,f5⟩:=hf it (by simp);refine wpAny_pyNext_tuple_item st (show s.heap.IsTuple a its.toArray from p) (x:=u) (by simpa using hu) fun h' st' sb=>?_;have I1:Inv X pins σ H { s with heap:=h' }:=I.turned (t':=s.toks) (fun b o hb e=>(sb.2 b hb).trans e) f0 f1 f3 f4 f5;obtain ⟨o,e,c,d⟩:=id st';exact ⟨u,rfl,fP (s:={ s with heap:=h' }) e c d (by decide) ⟨x,H,I1,ru,⟨rfl,fun ys hy=>by rw [I.tuple_inj hy hq];exact hx⟩,st',fun b hb=>(hf b hb).1⟩⟩
 done:=by
  intro X hP hw hK hc i pins s σ H E I hf st hg;subst hP hw hK;obtain ⟨xs,hq,hx⟩:=hg;obtain ⟨its,rv,p,hz⟩:=I.tuple hq;obtain ⟨f0,f1,f2,f3,f4,f5⟩:=hf it (by simp);have hl:=rv.length;exact wpAny_pyNext_tuple_end (I.ok.hd hc) st (show s.heap.IsTuple a its.toArray from p) (by simp;omega) fun h' eb=>⟨rfl,I.turned (t':=s.toks) (fun b o hb e=>eb b o hb e) f0 f1 f3 f4 f5⟩
 self:=fun _ _ _ _ _ st h=>wpAny_pyIter_tupleiter st h
theorem zaN {P:Program} {w:World} {K:PySem.W.Frag} {tg:Expr} (it:Addr) (lo:Int) (n:Nat):Turn P w K tg (Itr lo n) [it] it (fun i h=>IsRangeIter h it (lo+(i:Nat) * 1) ((n:Int)-(i:Nat)) 1) where
 mem:=by simp
 obj:=fun i h st b hb=>by
  have e:b=it:=by simpa using hb
  subst e
  exact ⟨_,st,fun v z=>by
   have z':Data.fields _=Data.cell v:=z;cases z'⟩
 keep:=fun i h h' st k=>k it (by simp) _ st
 item:=by
  intro X hP hw hK hc i pins s σ H E I hf st hg;subst hP hw hK;obtain ⟨f0,f1,f2,f3,f4,f5⟩:=hf it (by simp);have W:=Walks.range (prog:=X.prog) (w:=X.w) (I.ok.hd hc) it lo 1 n;refine W.item i s _ _ hg st fun v h' tk hv st' kk=>?_;obtain ⟨t,rfl⟩:=hv;have I1:Inv X pins σ H { s with heap:=h',toks:=tk }:=I.turned (fun b o hb e=>kk b o (by simpa using hb) e) f0 f1 f3 f4 f5;refine ⟨_,rfl,fP (s:={ s with heap:=h',toks:=tk }) (n := "range_iterator") st' rfl rfl (by decide) ⟨.int (lo+i),H,I1,⟨t,?_⟩,⟨rfl,rfl⟩,st',fun b hb=>(hf b hb).1⟩⟩;rw [Int.mul_one]
 done:=by
  intro X hP hw hK hc i pins s σ H E I hf st hg;subst hP hw hK;obtain ⟨f0,f1,f2,f3,f4,f5⟩:=hf it (by simp);exact wpAny_pyNext_range_end (I.ok.hd hc) st (by have:n<=i:=hg;omega) fun h' eb=>⟨rfl,I.turned (t':=s.toks) (fun b o hb e=>eb b o hb e) f0 f1 f3 f4 f5⟩
 self:=fun _ _ _ _ _ st h=>wpAny_pyIter_rangeiter st h
end L2
namespace L2
open PySem PySem.Spec PyProof.Rows
section
variable {X : Cx} {tg : Expr}
theorem zan {pins:List (Addr×Obj)} {σ:St} {H:Hp} {s:Shared} {R:It->Hp->Prop} {E:Value->Shared->Prop} {lo hi:Int} {t u v:Tok} {tk:Nat} (I:Inv X pins σ H s) (h1:-(2 ^ 62)<=lo) (h2:lo<2 ^ 62) (h3:-(2 ^ 62)<=hi) (h4:hi<2 ^ 62)
  (q:R (Itr lo (hi-lo).toNat) H):wpAny (model X.prog X.w) X.A (pyIter (.ref s.heap.objs.size)) (PIE X pins σ tg R) E { s with heap:=s.heap.push { cls:=.type "range", data:=.fields #[.int lo t,.int hi u,.int 1 v] },toks:=tk }:=by
 refine wpAny_pyIter_range (IsRange.new ..) (small_one h1 h2 h3 h4) ?_;have I1:Inv X pins σ H { s with heap:=s.heap.push { cls:=.type "range", data:=.fields #[.int lo t,.int hi u,.int 1 v] },toks:=tk }:=I.kept fun b o e=>Zb _ e
 refine ⟨(s.heap.push { cls:=.type "range", data:=.fields #[.int lo t,.int hi u,.int 1 v] }).objs.size,[(s.heap.push { cls:=.type "range", data:=.fields #[.int lo t,.int hi u,.int 1 v] }).objs.size],_,_,H,rfl,
  I1.kept (t':=tk) fun b o e=>Zb _ e,zaN _ lo (hi-lo).toNat,?_,fun b hb=>?_,q⟩
 .have e1:lo+((0:Nat):Int) * 1=lo:=by simp
  have e2:(((hi-lo).toNat:Nat):Int)-((0:Nat):Int)=Builtin.Range.rangeSize lo hi 1:=by rw [rangeSize_one];split<;>omega
  show IsRangeIter _ _ (lo+((0:Nat):Int) * 1) ((((hi-lo).toNat:Nat):Int)-((0:Nat):Int)) 1;rw [e1,e2];exact Zd _ rfl
 .have e:b=(s.heap.push { cls:=.type "range", data:=.fields #[.int lo t,.int hi u,.int 1 v] }).objs.size:=by simpa using hb
  subst e;exact I1.fpOk (zzR _) (I1.hok.fresh (zzR _))
def tFor (wi:TI) (g:TG) (tb:TS):TS:=fun D σ H=>wi σ H fun J H1=>∃ W:Nat->Nat->St->Hp->Prop,(∃ m,W 0 m σ H1)/\∀ i m σ H,W i m σ H ->
 (J.stop i H/\D.nx σ H)\/(J.go i H/\∃ N:St->Hp->Prop,(∀ σ' H',N σ' H'->∃ m',m' < m/\W (i+1) m' σ' H')/\∀ x H',J.yld i H x H'->g x σ H' fun σ2 H2=>tb { D with nx:=N,ct:=N,bk:=D.nx } σ2 H2)
def sU (fp:List Addr) (h:Heap):List (Addr×Obj):=fp.filterMap fun b=>(h.get? b).map fun o=>(b,o)
theorem kO {fp:List Addr} {h:Heap} {b:Addr} {o:Obj} (hb:b∈fp) (e:h.get? b=some o):(b,o)∈sU fp h:=ZbV.mpr ⟨b,hb,by rw [e];rfl⟩
theorem zbZ {fp:List Addr} {h:Heap} {p:Addr×Obj} (hp:p∈sU fp h):p.1∈fp/\h.get? p.1=some p.2:=by
 obtain ⟨b,hb,e⟩:=ZbV.mp hp
 cases q:h.get? b with
 |none=>rw [q] at e;cases e
 |some o =>
  rw [q] at e;have e':(b,o)=p:=Zz e;subst e';exact ⟨hb,q⟩
theorem Inv.pinned {pins:List (Addr×Obj)} {σ:St} {H:Hp} {s:Shared} {fp:List Addr} (I:Inv X pins σ H s) (hf:∀ b∈fp,kF X pins H b) (ho:∀ b∈fp,∃ o,s.heap.get? b=some o/\∀ v,o.data≠.cell v):Inv X (pins++sU fp s.heap) σ H s :=
 I.pins_of fun p hp=>(Z3.mp hp).elim (fun z=>I.pin p (Zw _ z)) fun z=>by
  obtain ⟨hb,e⟩:=zbZ z;obtain ⟨f0,f1,f2,_⟩:=hf p.1 hb;obtain ⟨o,e',d⟩:=ho p.1 hb;rw [e] at e';cases e';exact ⟨e,f0,f1,f2,d⟩
theorem Inv.unpinned {pins pl:List (Addr×Obj)} {σ:St} {H:Hp} {s:Shared} (I:Inv X (pins++pl) σ H s):Inv X pins σ H s:=I.pins_of fun p hp=>I.pin p (Zw _ (Z7 _ hp))
theorem zeR {iter:Expr} {body:List Stmt} {wi:TI} {g:TG} {tb:TS} {pos:Pos} (hp:PassesOwn (model X.prog X.w) X.A X.env X.xe) (hc:X.calm=true) (hi:PI X tg iter wi) (hg:PG X tg g) (hb:mR X body tb)
  (hs:∀ x,foldedSetIterable iter X.env x=pure x:=by intro _;rfl):PS X (.For tg iter body [] pos) (tFor wi g tb):=by
 intro pins s σ H D I h;refine wpAny_For (yG (hi pins s σ H _ I h) fun v s1 h1=>yG h1 fun itv s2 h2=>?_) hs;obtain ⟨it,fp,tn,J,H2,e,I2,T,st2,f2,W,⟨m0,w0⟩,turn⟩:=h2;subst e;have stat:∀ {H':Hp},(∀ b∈fp,H' b=none)->∀ b∈fp,kF X pins H' b:=fun hn b hb=>⟨hn b hb,(f2 b hb).2⟩;refine codeAny_forLoop_any (fun n s'=>∃ i σ' H',Inv X pins σ' H' s'/\tn i s'.heap/\(∀ b∈fp,H' b=none)/\W i n σ' H') ?_ m0 ⟨0,σ,H2,I2,st2,fun b hb=>(f2 b hb).1,w0⟩;rintro n s3 ⟨i,σ3,H3,I3,st3,fr3,w3⟩;rcases turn i n σ3 H3 w3 with ⟨stop,qn⟩|⟨go,N,hN,step⟩
 .refine ZaT hp (yG (T.done X rfl rfl rfl hc i pins s3 σ3 H3 X.xe I3 (stat fr3) st3 stop) fun r s4 ⟨hr,I4⟩=>?_);subst hr;exact ZbQ ⟨σ3,H3,I4,qn⟩
 .refine ZaT hp (yG (T.item X rfl rfl rfl hc i pins s3 σ3 H3 X.xe I3 (stat fr3) st3 go) fun r s4 ⟨u,hr,h4⟩=>?_);subst hr;refine ZaT hp (yG h4 fun _ s5 ⟨x,H5,I5,r5,y5,st5,fr5⟩=>?_);have I5':=I5.pinned (stat fr5) (T.obj _ _ st5);refine ZaT hp (yG (hg _ s5 σ3 H5 x u _ I5' r5 (step x H5 y5)) fun _ s6 ⟨σ6,H6,I6,q6⟩=>?_);refine ZaT hp (yG (hb _ s6 σ6 H6 _ I6 q6) fun f s7 q7=>?_)
  have again:∀ {σ7:St} {H7:Hp},Inv X (pins++sU fp s5.heap) σ7 H7 s7->N σ7 H7->∃ m,m<n/\∃ i σ' H',Inv X pins σ' H' s7/\tn i s7.heap/\(∀ b∈fp,H' b=none)/\W i m σ' H':=fun {σ7 H7} I7 n7=>by
   obtain ⟨m',hm,w7⟩:=hN σ7 H7 n7;refine ⟨m',hm,i+1,σ7,H7,I7.unpinned,T.keep _ _ _ st5 fun b hb o e=>(I7.pin (b,o) (Zw _ (Zw _ (kO hb e)))).1,fun b hb=>?_,w7⟩;obtain ⟨o,e,d⟩:=T.obj _ _ st5 b hb;exact (I7.pin (b,o) (Zw _ (Zw _ (kO hb e)))).2.1
  cases f with
  |next=>obtain ⟨σ7,H7,I7,n7⟩:=q7;exact again I7 n7
  |cont=>obtain ⟨σ7,H7,I7,n7⟩:=q7;exact again I7 n7
  |brk=>obtain ⟨σ7,H7,I7,q7⟩:=q7;exact ⟨σ7,H7,I7.unpinned,q7⟩
  |ret v=>obtain ⟨x7,σ7,H7,I7,r7,q7⟩:=q7;exact ⟨x7,σ7,H7,I7.unpinned,r7,q7⟩
end
end L2
namespace L2
open PySem PySem.Spec PyProof.Rows
abbrev R2:=V->V->Hp->VK->Prop
def kX (X:Cx) (f:Value->Value->Sem Value) (r:R2):Prop :=
 ∀ (pins:List (Addr×Obj)) (s:Shared) (σ:St) (H:Hp) (x y:V) (v u:Value) (Q:VK),Inv X pins σ H s->zB x v->zB y u->r x y H Q ->
  wpAny (model X.prog X.w) X.A (f v u) (EP X pins σ Q) X.xe s
def UnR (X:Cx) (f:Value->Sem Value) (r:V->Hp->VK->Prop):Prop :=
 ∀ (pins:List (Addr×Obj)) (s:Shared) (σ:St) (H:Hp) (x:V) (v:Value) (Q:VK),Inv X pins σ H s->zB x v->r x H Q ->
  wpAny (model X.prog X.w) X.A (f v) (EP X pins σ Q) X.xe s
def xD (X:Cx) (f:Value) (r:List V->Hp->VK->Prop):Prop :=
 ∀ (pins:List (Addr×Obj)) (s:Shared) (σ:St) (H:Hp) (xs:List V) (us:List Value) (Q:VK),Inv X pins σ H s->zE xs us->r xs H Q ->
  wpAny (model X.prog X.w) X.A (call f us) (EP X pins σ Q) X.xe s
def TruR (X:Cx) (r:V->Hp->(Bool->Hp->Prop)->Prop):Prop :=
 ∀ (pins:List (Addr×Obj)) (s:Shared) (σ:St) (H:Hp) (x:V) (v:Value) (Q:Bool->Hp->Prop),Inv X pins σ H s->zB x v->r x H Q ->
  wpAny (model X.prog X.w) X.A (truthy v) (TP X pins σ Q) X.xe s
def tOp (r:R2) (ta tb:TE):TE:=fun σ H Q=>ta σ H fun x H1=>tb σ H1 fun y H2=>r x y H2 Q
def tUn (r:V->Hp->VK->Prop) (ta:TE):TE:=fun σ H Q=>ta σ H fun x H1=>r x H1 Q
def rI (C:Int->Int->Prop) (g:Int->Int->V):R2:=fun x y H Q=>∃ i j,x=.int i/\y=.int j/\C i j/\Q (g i j) H
def rI0 (g:Int->Int->V):R2:=fun x y H Q=>∃ i j,x=.int i/\y=.int j/\Q (g i j) H
def rU (g:Int->V):V->Hp->VK->Prop:=fun x H Q=>∃ i,x=.int i/\Q (g i) H
section
variable {X : Cx} {a b c : Expr} {ta tb tc : TE} {pos : Pos}
theorem binT (ha:PE X a ta) (hb:PE X b tb) {pins:List (Addr×Obj)} {s:Shared} {σ:St} {H:Hp} {R:V->V->Hp->Prop} (I:Inv X pins σ H s)
  (h:ta σ H fun x H1=>tb σ H1 fun y H2=>R x y H2) {Q:Value->Shared->Prop} {f:Value->Value->Sem Value}
  (hf:∀ v u s2 x y H2,Inv X pins σ H2 s2->zB x v->zB y u->R x y H2->wpAny (model X.prog X.w) X.A (f v u) Q X.xe s2) :
  wpAny (model X.prog X.w) X.A (eval a X.env) (fun v s₁=>wpAny (model X.prog X.w) X.A (eval b X.env) (fun u s₂=>wpAny (model X.prog X.w) X.A (f v u) Q X.xe s₂) X.xe s₁) X.xe s:=by
 refine yG (ha pins s σ H _ I h) fun v s1 ⟨x,H1,I1,r1,q1⟩=>?_;refine yG (hb pins s1 σ H1 _ I1 q1) fun u s2 ⟨y,H2,I2,r2,q2⟩=>?_;exact hf v u s2 x y H2 I2 r1 r2 q2
theorem pe_op {op:Operator} {r:R2} (ho:kX X (binaryOp op) r) (ha:PE X a ta) (hb:PE X b tb):PE X (.BinOp a op b pos) (tOp r ta tb):=by
 intro pins s σ H Q I h;exact wpAny_BinOp (binT ha hb I h fun v u s2 x y H2 I2 rx ry q=>ho pins s2 σ H2 x y v u Q I2 rx ry q)
theorem pe_un {op:UnaryOp} {r:V->Hp->VK->Prop} (ho:UnR X (unaryOp op) r) (ha:PE X a ta):PE X (.UnaryOp op a pos) (tUn r ta):=by
 intro pins s σ H Q I h;exact UnaryOp_ (yG (ha pins s σ H _ I h) fun v s1 ⟨x,H1,I1,r1,q1⟩=>ho pins s1 σ H1 x v Q I1 r1 q1)
theorem opI {f:Value->Value->Sem Value} {C:Int->Int->Prop} {g:Int->Int->Int}
  (rule:∀ (i j:Int) (t u:Tok) (s:Shared) (Q:Value->Shared->Prop) (E:Value->Shared->Prop),C i j->Q (.int (g i j) s.toks) { s with toks:=s.toks+1 }->wpAny (model X.prog X.w) X.A (f (.int i t) (.int j u)) Q E s) :
  kX X f (rI C fun i j=>.int (g i j)):=by
 intro pins s σ H x y v u Q I rx ry h;obtain ⟨i,j,rfl,rfl,hc,q⟩:=h;obtain ⟨t,rfl⟩:=rx;obtain ⟨t',rfl⟩:=ry;exact rule i j t t' s _ _ hc ⟨.int (g i j),H,I.tok _,⟨_,rfl⟩,q⟩
theorem opI0 {f:Value->Value->Sem Value} {g:Int->Int->Int}
  (rule:∀ (i j:Int) (t u:Tok) (s:Shared) (Q:Value->Shared->Prop) (E:Value->Shared->Prop),Q (.int (g i j) s.toks) { s with toks:=s.toks+1 }->wpAny (model X.prog X.w) X.A (f (.int i t) (.int j u)) Q E s) :
  kX X f (rI0 fun i j=>.int (g i j)):=by
 intro pins s σ H x y v u Q I rx ry h;obtain ⟨i,j,rfl,rfl,q⟩:=h;obtain ⟨t,rfl⟩:=rx;obtain ⟨t',rfl⟩:=ry;exact rule i j t t' s _ _ ⟨.int (g i j),H,I.tok _,⟨_,rfl⟩,q⟩
theorem opB0 {f:Value->Value->Sem Value} {g:Int->Int->Bool}
  (rule:∀ (i j:Int) (t u:Tok) (s:Shared) (Q:Value->Shared->Prop) (E:Value->Shared->Prop),Q (.bool (g i j)) s->wpAny (model X.prog X.w) X.A (f (.int i t) (.int j u)) Q E s) :
  kX X f (rI0 fun i j=>.bl (g i j)):=by
 intro pins s σ H x y v u Q I rx ry h;obtain ⟨i,j,rfl,rfl,q⟩:=h;obtain ⟨t,rfl⟩:=rx;obtain ⟨t',rfl⟩:=ry;exact rule i j t t' s _ _ ⟨.bl (g i j),H,I,rfl,q⟩
def CDiv (i j:Int):Prop:=0<j/\j<1073741824
def CPow (i j:Int):Prop:=0<=j/\j<=1000000/\i.natAbs<2 ^ 64
def bT (i j:Int):Prop:=(-(2 ^ 64)<i/\i<2 ^ 64)\/(-(2 ^ 64)<j/\j<2 ^ 64)
theorem bT.ok {i j:Int} (h:bT i j):IntMulOk i j:=by
 rcases h with ⟨h1,h2⟩|⟨h1,h2⟩
 .exact .of_left (intBits_le_64 h1 h2)
 .exact .of_right (intBits_le_64 h1 h2)
theorem ziE:kX X (binaryOp .Add) (rI0 fun i j=>.int (i+j)):=opI0 fun _ _ _ _ _ _ _ q=>add_int q
theorem ziy:kX X (binaryOp .Sub) (rI0 fun i j=>.int (i-j)):=opI0 fun _ _ _ _ _ _ _ q=>sub_int q
theorem ziB:kX X (binaryOp .Mult) (rI bT fun i j=>.int (i * j)):=opI fun _ _ _ _ _ _ _ hc q=>mul_int q hc.ok
theorem zgb:kX X (binaryOp .FloorDiv) (rI CDiv fun i j=>.int (i / j)):=opI fun i j _ _ _ _ _ hc q=>by
 have h1:(0:Int)<j:=hc.1;have h2:j<1073741824:=hc.2;exact floordiv_int (by omega) (by rw [Int.fdiv_eq_ediv_of_nonneg i (by omega)];exact q) (.inl (PyProof.noPylong_small (by omega)))
theorem ziC:kX X (binaryOp .Mod) (rI (fun _ j=>0<j) fun i j=>.int (i % j)):=opI fun i j _ _ _ _ _ hc q=>by
 have h1:(0:Int)<j:=hc;exact mod_int' (by omega) (by rw [Int.fmod_eq_emod_of_nonneg i (by omega)];exact q)
theorem ziA:kX X (binaryOp .Pow) (rI CPow fun i j=>.int (i ^ j.toNat)):=opI fun _ _ _ _ _ _ _ hc q=>pow_int_small hc.1 hc.2.1 hc.2.2 q
theorem unI {f:Value->Sem Value} {g:Int->Int}
  (rule:∀ (i:Int) (t:Tok) (s:Shared) (Q:Value->Shared->Prop) (E:Value->Shared->Prop),Q (.int (g i) s.toks) { s with toks:=s.toks+1 }->wpAny (model X.prog X.w) X.A (f (.int i t)) Q E s) :
  UnR X f (rU fun i=>.int (g i)):=by
 intro pins s σ H x v Q I rx h;obtain ⟨i,rfl,q⟩:=h;obtain ⟨t,rfl⟩:=rx;exact rule i t s _ _ ⟨.int (g i),H,I.tok _,⟨_,rfl⟩,q⟩
theorem zhs:UnR X (unaryOp .USub) (rU fun i=>.int (-i)):=unI fun _ _ _ _ _ q=>neg_int q
end
section
variable {X : Cx} {a b c : Expr} {ta tb tc : TE} {pos : Pos}
theorem zjw {pins:List (Addr×Obj)} {σ:St} {H:Hp} {s:Shared} {Q:VK} {k k':Bool} (I:Inv X pins σ H s) (q:Q (.bl k) H) (e:k=k'):EP X pins σ Q (.bool k') s:=by
 subst e;exact ⟨.bl k,H,I,rfl,q⟩
theorem op_lt:kX X (compareOp .Lt) (rI0 fun i j=>.bl (decide (i<j))):=opB0 fun _ _ _ _ _ _ _ q=>lt_int q
theorem op_le:kX X (compareOp .LtE) (rI0 fun i j=>.bl (decide (i<=j))):=opB0 fun _ _ _ _ _ _ _ q=>le_int q
theorem op_gt:kX X (compareOp .Gt) (rI0 fun i j=>.bl (decide (j<i))):=opB0 fun _ _ _ _ _ _ _ q=>gt_int q
theorem op_ge:kX X (compareOp .GtE) (rI0 fun i j=>.bl (decide (j<=i))):=opB0 fun _ _ _ _ _ _ _ q=>ge_int q
theorem zbY:kX X (compareOp .In) (fun x y H Q=>∃ i j,x=.str i/\y=.str j/\Q (.bl (!(Builtin.Str.occurrences j i 0 j.length 1).isEmpty)) H):=by
 intro pins s σ H x y v u Q I rx ry h;obtain ⟨i,j,rfl,rfl,q⟩:=h;obtain ⟨t,rfl⟩:=rx;obtain ⟨t',rfl⟩:=ry;exact in_str (zjw I q rfl)
theorem zf5 {op:CmpOp} {r:R2} (ho:kX X (compareOp op) r) (ha:PE X a ta) (hb:PE X b tb) (hm:behindInMarks op b=false):PE X (.Compare a [op] [b] pos) (tOp r ta tb):=by
 intro pins s σ H Q I h;exact wpAny_Compare1 (binT ha hb I h fun v u s2 x y H2 I2 rx ry q=>ho pins s2 σ H2 x y v u Q I2 rx ry q) hm
def zfA (t:TE):TT:=fun σ H Q=>t σ H fun x H'=>∃ k,x=.bl k/\Q k H'
theorem zfV {op:CmpOp} {r:R2} (ho:kX X (compareOp op) r) (ha:PE X a ta) (hb:PE X b tb) (hm:behindInMarks op b=false):PT X (.Compare a [op] [b] pos) (zfA (tOp r ta tb)):=by
 intro pins s σ H Q I h
 refine wpAny_isTrue_Compare1 (yG (ha pins s σ H _ I h) fun v s1 ⟨x,H1,I1,r1,q1⟩=>yG (hb pins s1 σ H1 _ I1 q1) fun u s2 ⟨y,H2,I2,r2,q2⟩ =>
  yG (ho pins s2 σ H2 x y v u _ I2 r1 r2 q2) fun c s3 ⟨z,H3,I3,r3,k,e,q3⟩=>?_) hm
 subst e;cases r3;exact ZE ⟨H3,I3,q3⟩
def zbt (r r':R2) (ta tb tc:TE):TE:=fun σ H Q=>ta σ H fun x H1=>tb σ H1 fun y H2=>r x y H2 fun z H3=>∃ k,z=.bl k /\
 (if k=true then tc σ H3 fun w' H4=>r' y w' H4 Q else Q (.bl false) H3)
theorem zdL {op op':CmpOp} {r r':R2} (ho:kX X (compareOp op) r) (ho':kX X (compareOp op') r') (ha:PE X a ta) (hb:PE X b tb) (hc:PE X c tc)
  (hm:lastMarks [op,op'] [b,c]=false:=by with_unfolding_all rfl):PE X (.Compare a [op,op'] [b,c] pos) (zbt r r' ta tb tc):=by
 intro pins s σ H Q I h
 refine Compare_chain (yG (ha pins s σ H _ I h) fun v s1 ⟨x,H1,I1,r1,q1⟩=>chain_link (yG (hb pins s1 σ H1 _ I1 q1) fun u s2 ⟨y,H2,I2,r2,q2⟩ =>
  yG (ho pins s2 σ H2 x y v u _ I2 r1 r2 q2) fun d s3 ⟨z,H3,I3,r3,k,e,q3⟩=>?_)) hm
 subst e;cases r3;refine ZE ?_
 cases k with
 |false=>exact ite_ff ⟨.bl false,H3,I3,rfl,q3⟩
 |true=>exact ite_tt (chain_last (yG (hc pins s3 σ H3 _ I3 q3) fun w' s4 ⟨z',H4,I4,r4,q4⟩=>ho' pins s4 σ H4 y z' u w' Q I4 r2 r4 q4))
theorem zdz {op op':CmpOp} {r r':R2} (ho:kX X (compareOp op) r) (ho':kX X (compareOp op') r') (ha:PE X a ta) (hb:PE X b tb) (hc:PE X c tc)
  (hm:lastMarks [op,op'] [b,c]=false:=by with_unfolding_all rfl):PT X (.Compare a [op,op'] [b,c] pos) (zfA (zbt r r' ta tb tc)):=by
 intro pins s σ H Q I h
 refine isTrue_chain (yG (ha pins s σ H _ I h) fun v s1 ⟨x,H1,I1,r1,q1⟩=>test_link (yG (hb pins s1 σ H1 _ I1 q1) fun u s2 ⟨y,H2,I2,r2,q2⟩ =>
  yG (ho pins s2 σ H2 x y v u _ I2 r1 r2 q2) fun d s3 ⟨z,H3,I3,r3,k,e,q3⟩=>?_)) hm
 subst e;cases r3;refine ZE ?_
 cases k with
 |false =>
  obtain ⟨k',e',q'⟩:=q3;cases e';exact ite_ff ⟨H3,I3,q'⟩
 |true =>
  refine ite_tt (test_last (yG (hc pins s3 σ H3 _ I3 q3) fun w' s4 ⟨z',H4,I4,r4,q4⟩=>yG (ho' pins s4 σ H4 y z' u w' _ I4 r2 r4 q4) fun d' s5 ⟨z2,H5,I5,r5,k2,e2,q5⟩=>?_));subst e2;cases r5;exact ZE ⟨H5,I5,q5⟩
def TruV (K:PySem.W.Frag) (x:V) (H:Hp) (k:Bool):Prop :=
 match x with
 | .non=>k=false
 | .bl b=>k=b
 | .int i=>k=(i != 0)
 | .str y=>y.length<=sizeLine/\k=((y.length:Int) != 0)
 | .byt y=>y.size<=sizeLine/\k=((y.size:Int) != 0)
 | .ref p=>(∃ xs,rQ K H p xs/\k=!xs.isEmpty)\/(∃ xs,tB K H p xs/\k=!xs.isEmpty)\/∃ kvs,H p=some (.dK kvs)/\k=!kvs.isEmpty
 |_=>False
theorem za2 {κ:Type} {kvs:List (κ×V)} {vs:List (κ×Value)} (r:KV kvs vs):(!vs.isEmpty)=!kvs.isEmpty:=by
 cases r<;>rfl
theorem nM {xs:List V} {its:List Value} (r:zE xs its):(!its.toArray.isEmpty)=!xs.isEmpty:=by
 cases r<;>simp
theorem uF:(sizeLine:Nat)<2 ^ 63:=by rw [ZD];decide
theorem zhu:TruR X (fun x H Q=>∃ k,TruV X.K x H k/\Q k H):=by
 intro pins s σ H x v Q I rx h;obtain ⟨k,e,q⟩:=h;have hl:=uF;have hs:sizeLine=16777216:=ZD
 cases x with
 |non =>
  cases rx;have e':k=false:=e;subst e';exact truthy_none ⟨H,I,q⟩
 |bl b =>
  cases rx;have e':k=b:=e;subst e';exact ZE ⟨H,I,q⟩
 |int i =>
  obtain ⟨t,rfl⟩:=rx;have e':k=(i != 0):=e;subst e';exact PySem.P.truthy_int ⟨H,I,q⟩
 |str y =>
  obtain ⟨t,rfl⟩:=rx;obtain ⟨hy,e'⟩:y.length<=sizeLine/\k=((y.length:Int) != 0):=e;subst e';exact PySem.P.truthy_str (by omega) ⟨H,I.tok _,q⟩
 |byt y =>
  obtain ⟨t,rfl⟩:=rx;obtain ⟨hy,e'⟩:y.size<=sizeLine/\k=((y.size:Int) != 0):=e;subst e';exact PySem.W.truthy_bytes (by omega) ⟨H,I.tok _,q⟩
 |ref p =>
  cases rx;have e':(∃ xs,rQ X.K H p xs/\k=!xs.isEmpty)\/(∃ xs,tB X.K H p xs/\k=!xs.isEmpty)\/∃ kvs,H p=some (.dK kvs)/\k=!kvs.isEmpty:=e;rcases e' with ⟨xs,hx,e'⟩|⟨xs,hx,e'⟩|⟨kvs,hx,e'⟩
  .subst e';obtain ⟨its,r,pl,hz⟩:=I.list hx;have hlen:=r.length;exact wpAny_truthy_list pl.isList (by simp only [zzS];omega) ⟨H,I.tok _,by rw [nM r];exact q⟩
  .subst e';obtain ⟨its,r,pl,hz⟩:=I.tuple hx;have hlen:=r.length;exact truthy_tuple pl (by simp only [zzS];omega) ⟨H,I.tok _,by rw [nM r];exact q⟩
  .subst e';obtain ⟨hz,hS,vs,r,m⟩:kvs.length<=sizeLine/\(p==sysModules)=false/\∃ vs,KV kvs vs/\s.heap.DictOf (xK X.prog X.w) p vs:=I.hok p _ hx;have hlen:kvs.length=vs.length:=Zcb r;exact wpAny_truthy_dict hS m (by omega) ⟨H,I.tok _,by rw [za2 r];exact q⟩
 |_=>exact (show False from e).elim
theorem zdy (ha:PE X a ta) (he:∀ whole,isTrue a X.env whole=(do let v ← whole;standAt a.pos;holding [v] (truthy v))) :
  PT X a (fun σ H Q=>ta σ H fun x H'=>∃ k,TruV X.K x H' k/\Q k H'):=by
 intro pins s σ H Q I h;exact isTrue_plain (yG (ha pins s σ H _ I h) fun v s1 ⟨x,H1,I1,r1,q1⟩=>zhu pins s1 σ H1 x v Q I1 r1 q1) (he _)
theorem zaW:kX X (binaryOp .Add) (fun x y H Q=>∃ i j,x=.str i/\y=.str j/\i.length+j.length<=sizeLine/\Q (.str (i++j)) H):=by
 intro pins s σ H x y v u Q I rx ry h;obtain ⟨i,j,rfl,rfl,hz,q⟩:=h;obtain ⟨t,rfl⟩:=rx;obtain ⟨t',rfl⟩:=ry;exact add_str (fun t' tk=>⟨.str (i++j),H,I.tok _,⟨_,rfl⟩,q⟩) hz
theorem jT {x:V} {us:List Value} (r:zE [x] us):∃ u,us=[u]/\zB x u:=by
 cases r with
 |cons r1 r2=>cases r2;exact ⟨_,rfl,r1⟩
theorem tX {x y:V} {us:List Value} (r:zE [x,y] us):∃ u w',us=[u,w']/\zB x u/\zB y w':=by
 cases r with
 |cons r1 r2 =>
  cases r2 with
  |cons r3 r4=>cases r4;exact ⟨_,_,rfl,r1,r3⟩
theorem zcU (hc:X.calm=true):xD X (.builtin "max") (fun xs H Q=>∃ i j,xs=[.int i,.int j]/\Q (.int (if j > i then j else i)) H):=by
 intro pins s σ H xs us Q I r h;obtain ⟨i,j,rfl,q⟩:=h;obtain ⟨u,w',rfl,⟨t,rfl⟩,⟨t',rfl⟩⟩:=tX r;refine max_two_ints (I.ok.hd hc) fun h' tk k=>⟨_,H,I.kept k,?_,q⟩
 by_cases hj:j > i
 .rw [if_pos hj,if_pos hj];exact ⟨_,rfl⟩
 .rw [if_neg hj,if_neg hj];exact ⟨_,rfl⟩
theorem zcT (hc:X.calm=true):xD X (.builtin "min") (fun xs H Q=>∃ i j,xs=[.int i,.int j]/\Q (.int (if j<i then j else i)) H):=by
 intro pins s σ H xs us Q I r h;obtain ⟨i,j,rfl,q⟩:=h;obtain ⟨u,w',rfl,⟨t,rfl⟩,⟨t',rfl⟩⟩:=tX r;refine min_two_ints (I.ok.hd hc) fun h' tk k=>⟨_,H,I.kept k,?_,q⟩
 by_cases hj:j<i
 .rw [if_pos hj,if_pos hj];exact ⟨_,rfl⟩
 .rw [if_neg hj,if_neg hj];exact ⟨_,rfl⟩
theorem fK:xD X (.type "int") (fun xs H Q=>(∃ i,xs=[.int i]/\Q (.int i) H)\/∃ k,xs=[.bl k]/\Q (.int (if k then 1 else 0)) H):=by
 intro pins s σ H xs us Q I r h;rcases h with ⟨i,rfl,q⟩|⟨k,rfl,q⟩
 .obtain ⟨u,rfl,t,rfl⟩:=jT r;exact call_int_int ⟨.int i,H,I,⟨_,rfl⟩,q⟩
 .obtain ⟨u,rfl,r1⟩:=jT r;cases r1;exact call_int_bool ⟨.int (if k then 1 else 0),H,I.tok _,⟨_,rfl⟩,q⟩
end
end L2
namespace L2
open PySem PySem.Spec PyProof.Rows
structure ObjM (h:Heap) (x dx C:Addr) (mA:Str->Option Value):Prop where
 obj:h.get? x=some (PySem.W.instObj C dx)
 ns:h.Ns1 dx mA
 ne:dx≠x
theorem fZ {h:Heap} {dx:Addr} {mA:Str->Option Value} (n:h.Ns1 dx mA):∃ od,h.get? dx=some od/\∀ name,PySem.W.lookIn name od=some (mA name):=by
 obtain ⟨o,es,ep,ho,hd,hk,_,hm⟩:=n;refine ⟨o,ho,fun name=>?_⟩;have e:=hm name;unfold nsFind findBy at e;rw [← Array.find?_toList] at e;unfold PySem.W.lookIn;rw [hd];dsimp only
 split
 .rename_i y q;rw [q] at e;exact congrArg some e
 .rename_i q;rw [q] at e
  have a:es.toList.any (·.refKey)=false:=by
   rw [List.any_eq_false];intro y hy;obtain ⟨z,t,hkey⟩:=hk y (Array.mem_toList_iff.mp hy);simp [DictEntry.refKey,hkey]
  have a':¬ es.toList.any (·.refKey)=true:=by rw [a];exact zzN
  rw [if_neg a'];exact congrArg some e
theorem ObjM.look {h:Heap} {x dx C:Addr} {mA:Str->Option Value} (I:ObjM h x dx C mA):∃ od,PySem.W.InstAt h x (PySem.W.instObj C dx) C (some od)/\∀ name,PySem.W.lookIn name od=some (mA name) :=
 let ⟨od,ho,hl⟩:=fZ I.ns
 ⟨od,⟨I.obj,rfl,rfl,ho⟩,hl⟩
section
variable {prog : Program} {w : World} {A : Around} {E : Value → Shared → Prop} {s : Shared} {K : PySem.W.Frag} {x dx C f : Addr} {mA : Str → Option Value} {name : Str} {v : Value}
theorem zgF {expr:Bool} {Q:Value->Shared->Prop} (X:K.In s.heap) (I:ObjM s.heap x dx C mA) (hg:PySem.W.plainGet K C name=true) (hh:PySem.W.hasDictIn K C=true)
  (ha:PySem.W.findIn K (.ref C) name=some none) (hv:mA name=some v) (hv':PySem.W.handedIn v=true) (h:Q v { s with toks:=s.toks+1 }) :
  wpAny (model prog w) A (getAttr (.ref x) name expr) Q E s:=by
 obtain ⟨od,J,hl⟩:=I.look;exact PySem.W.get_value X J (PySem.W.plainGet_of hg).1 (PySem.W.findObj_own hh ha rfl (by rw [hl,hv])) hv' h
theorem zfI {ns:List Str} {Q:Unit->Shared->Prop} (X:K.In s.heap) (I:ObjM s.heap x dx C mA)
  (hs:PySem.W.findIn K (.ref C) "__setattr__" = some (some (.builtin "object.__setattr__"))) (hp:PySem.W.plainOver K C=true) (ht:PySem.W.takerIn K C name=some none) (hh:PySem.W.hasDictIn K C=true)
  (hw:PySem.Within mA ns) (hsz:ns.length<=sizeLine)
  (h:∀ h',ObjM h' x dx C (fun y=>if y=name then some v else mA y)->Heap.SameBut dx s.heap h'->Q () { s with heap:=h',toks:=s.toks+2 }) :
  wpAny (model prog w) A (setAttr (.ref x) name v) Q E s:=by
 obtain ⟨od,J,hl⟩:=I.look;refine PySem.W.set_plain X J hs (PySem.W.osa_open (s:={ s with toks:=s.toks+1 }) (r:=none) X J hp ht fun b=>?_);obtain ⟨cd,hc,hd'⟩:=PySem.W.any_some hh;have hx:s.heap.get? x=some ⟨.ref C,some dx,.plain,#[]⟩:=I.obj;refine Za (Zc (Za (Za (Zcx hx (Za (PySem.W.Looks.here (s:={ s with toks:=s.toks+1 }) (PySem.W.looks_clsIn X hc) ?_))))));rw [hd'];refine Zc (a:=some dx) (Za (Zc (Za ?_)));refine wpAny_nsSet1 (s:={ s with toks:=s.toks+1 }) I.ns fun h' hn2 hs2=>?_;obtain ⟨oD,esD,epD,hoD,hdD,hcD⟩:=hn2.count (PySem.Within.cons name v hw);refine Za (wpAny_lookBehind hoD (by rw [hdD];exact pastItsLine_dict (Zy hcD (by rw [Zh];omega))) ?_);exact Zc (h _ ⟨(hs2.2 _ (Ne.symm I.ne)).trans I.obj,hn2,I.ne⟩ hs2)
end
def kT (f:Str) (v:V):List (Str×V)->List (Str×V)
 | []=>[(f,v)]
 | (g,x)::r=>if g=f then (g,v)::r else (g,x)::kT f v r
theorem sB (f g:Str) (v:V):∀ fs:List (Str×V),(kT f v fs).lookup g=if g=f then some v else fs.lookup g
 | []=>by
  show List.lookup g [(f,v)]=_
  by_cases h:g=f
  .have hb:(g==f)=true:=beq_iff_eq.mpr h;simp only [List.lookup,hb,if_pos h]
  .have hb:(g==f)=false:=beq_eq_false_iff_ne.mpr h;simp only [List.lookup,hb,if_neg h]
 | (k,x)::r=>by
  have ih:=sB f g v r;rw [show kT f v ((k,x)::r)=(if k=f then (k,v)::r else (k,x)::kT f v r) from rfl]
  by_cases hk:k=f
  .rw [if_pos hk]
   by_cases h:g=k
   .have hb:(g==k)=true:=beq_iff_eq.mpr h;simp only [List.lookup,hb,if_pos (h.trans hk)]
   .have hb:(g==k)=false:=beq_eq_false_iff_ne.mpr h;simp only [List.lookup,hb,if_neg (fun e:g=f=>h (e.trans hk.symm))]
  .rw [if_neg hk]
   by_cases h:g=k
   .have hb:(g==k)=true:=beq_iff_eq.mpr h;simp only [List.lookup,hb,if_neg (fun e:g=f=>hk (h.symm.trans e))]
   .have hb:(g==k)=false:=beq_eq_false_iff_ne.mpr h;simp only [List.lookup,hb];exact ih
theorem sJ (f:Str) (v:V):∀ fs:List (Str×V),f∈(kT f v fs).map (·.1)/\∀ g,g∈fs.map (·.1)->g∈(kT f v fs).map (·.1)
 | []=>⟨by simp [kT],fun g h=>by simp at h⟩
 | (k,x)::r=>by
  obtain ⟨i1,i2⟩:=sJ f v r;rw [show kT f v ((k,x)::r)=(if k=f then (k,v)::r else (k,x)::kT f v r) from rfl]
  by_cases hk:k=f
  .rw [if_pos hk];subst hk;exact ⟨by simp,fun g h=>by simpa using h⟩
  .rw [if_neg hk];refine ⟨?_,fun g h=>?_⟩
   .rw [zzU];exact Zo _ i1
   .rw [zzU] at h ⊢;rcases Zk.mp h with e|e
    .exact Zk.mpr (.inl e)
    .exact Zo _ (i2 g e)
theorem rZ (f:Str) (v:V):∀ fs:List (Str×V),(kT f v fs).length<=fs.length+1
 | []=>by simp [kT]
 | (k,x)::r=>by
  have ih:=rZ f v r;rw [show kT f v ((k,x)::r)=(if k=f then (k,v)::r else (k,x)::kT f v r) from rfl]
  by_cases hk:k=f
  .rw [if_pos hk,Zh,Zh];omega
  .rw [if_neg hk,Zh,Zh];omega
theorem uA.some_of {v:V} {o:Option Value} (r:uA (some v) o):∃ u,o=some u/\zB v u:=by
 cases o with
 |none=>exact (show False from r).elim
 |some u=>exact ⟨u,rfl,r⟩
theorem fQ {v:V} {u:Value} (r:zB v u):PySem.W.handedIn u=true:=by
 cases v with
 |non=>cases (show u=Value.none from r);rfl
 |bl b=>cases (show u=Value.bool b from r);rfl
 |int i=>obtain ⟨t,e⟩:=(show ∃ t,u=Value.int i t from r);cases e;rfl
 |str x=>obtain ⟨t,e⟩:=(show ∃ t,u=Value.str x t from r);cases e;rfl
 |byt b=>obtain ⟨t,e⟩:=(show ∃ t,u=Value.bytes b t from r);cases e;rfl
 |flt b=>obtain ⟨t,e⟩:=(show ∃ t,u=Value.float b t from r);cases e;rfl
 |ref a=>cases (show u=Value.ref a from r);rfl
 |ty n=>cases (show u=Value.type n from r);rfl
section
variable {P : Program} {w : World} {H H' : Hp} {h h' : Heap} {a C dx : Addr} {fs fs' : List (Str × V)}
theorem zcq (hok:vS P w H h) (e:H a=some (.ins C dx fs)):∃ mA,ObjM h a dx C mA/\(∀ f,uA (fs.lookup f) (mA f))/\PySem.Within mA (fs.map (·.1))/\fs.length<=1000/\H dx=some (.own a):=by
 obtain ⟨d,z,ne,ob,mA,n,r,q⟩:=(show xR P w H h a (.ins C dx fs) from hok a _ e);exact ⟨mA,⟨ob,n,ne⟩,r,q,z,d⟩
end
structure Cls (K:PySem.W.Frag) (C:Addr):Prop where
 pg:PySem.W.plainGet K C Str.empty=true
 hd:PySem.W.hasDictIn K C=true
 po:PySem.W.plainOver K C=true
 sa:PySem.W.findIn K (.ref C) "__setattr__" = some (some (.builtin "object.__setattr__"))
theorem Cls.get {K:PySem.W.Frag} {C:Addr} (c:Cls K C) (f:Str):PySem.W.plainGet K C f=true:=c.pg
def vC (K:PySem.W.Frag) (C:Addr) (f:Str):Prop:=PySem.W.findIn K (.ref C) f=some none
theorem vC.taker {K:PySem.W.Frag} {C:Addr} {f:Str} (n:vC K C f):PySem.W.takerIn K C f=some none:=by
 unfold PySem.W.takerIn;rw [show PySem.W.findIn K (.ref C) f=some none from n];rfl
section
variable {X : Cx} {pins : List (Addr × Obj)} {σ : St} {H : Hp} {s : Shared} {a C dx : Addr} {fs : List (Str × V)} {f : Str} {v : V} {A : Around} {E : Value → Shared → Prop}
theorem za3 {b:Bool} {Q:Value->Shared->Prop} (I:Inv X pins σ H s) (e:H a=some (.ins C dx fs)) (c:Cls X.K C) (n:vC X.K C f) (l:fs.lookup f=some v)
  (h:∀ u s',Inv X pins σ H s'->zB v u->Q u s'):wpAny (model X.prog X.w) A (getAttr (.ref a) f b) Q E s:=by
 obtain ⟨mA,O,r,_,_,_⟩:=zcq I.hok e;obtain ⟨u,hu,ru⟩:=uA.some_of (v:=v) (o:=mA f) (by rw [← l];exact r f);exact zgF I.kIn O (c.get f) c.hd n hu (fQ ru) (h u _ (I.tok _) ru)
theorem zaR {y:V} {u:Value} {Q:Unit->Shared->Prop} (I:Inv X pins σ H s) (e:H a=some (.ins C dx fs)) (c:Cls X.K C) (n:vC X.K C f) (hl:fs.length<1000) (ry:zB y u)
  (h:∀ s',Inv X pins σ (yH H a (.ins C dx (kT f y fs))) s'->Q () s'):wpAny (model X.prog X.w) A (setAttr (.ref a) f u) Q E s:=by
 obtain ⟨mA,O,r,wi,_,ho⟩:=zcq I.hok e;have hz:(fs.map (·.1)).length<=sizeLine:=by rw [zzM,ZD];omega
 refine zfI I.kIn O c.sa c.po n.taker c.hd wi hz fun h' O' sb=>h _ ?_;have hd:∃ o,h'.get? dx=some o:=let ⟨o,_,_,e',_⟩:=O'.ns;⟨o,e'⟩;refine I.write (x:=a) (e:=dx) (by rw [e];exact True.intro) (.inr ho) (fun b q hb z=>(sb.2 b hb).trans z) hd ?_;refine ⟨by rw [zR O.ne];exact ho,?_,O.ne,O'.obj,_,O'.ns,fun g=>?_,fun g hg=>?_⟩
 .have:=rZ f y fs;omega
 .show uA ((kT f y fs).lookup g) (if g=f then some u else mA g);rw [sB]
  by_cases q:g=f
  .rw [if_pos q,if_pos q];exact ry
  .rw [if_neg q,if_neg q];exact r g
 .by_cases q:g=f
  .rw [q];exact (sJ f y fs).1
  .refine (sJ f y fs).2 g (wi g fun z=>hg ?_);show (if g=f then some u else mA g)=none;rw [if_neg q];exact z
theorem zcX {prog:Program} {w:World} {env:Env} {e:Expr} {f:Str} {pos:Pos} {s:Shared} {Q:Value->Shared->Prop} (hb:attributeBase e f env (eval e env)=eval e env)
  (h:wpAny (model prog w) A (eval e env) (fun o s₁=>wpAny (model prog w) A (getAttr o f true) Q E s₁) E s):wpAny (model prog w) A (eval (.Attribute e f pos) env) Q E s :=
 Attribute_any_ h (by rw [arm_eval_Attribute,hb])
end
def tFld (K:PySem.W.Frag) (ta:TE) (f:Str):TE:=fun σ H Q=>ta σ H fun x H1=>∃ a C dx fs v,x=.ref a/\H1 a=some (.ins C dx fs)/\Cls K C/\vC K C f/\fs.lookup f=some v/\Q v H1
def sFld (K:PySem.W.Frag) (ta tv:TE) (f:Str):TS:=fun D σ H=>tv σ H fun y H1=>ta σ H1 fun x H2=>∃ a C dx fs,x=.ref a/\H2 a=some (.ins C dx fs)/\Cls K C/\vC K C f/\fs.length<1000 /\
 D.nx σ (yH H2 a (.ins C dx (kT f y fs)))
section
variable {X : Cx} {o e value : Expr} {f : Str} {pos pos' tpos : Pos} {ta tv : TE}
theorem zis (he:PE X e ta) (hb:attributeBase e f X.env (eval e X.env)=eval e X.env):PE X (.Attribute e f pos) (tFld X.K ta f):=by
 intro pins s σ H Q I h;refine zcX hb (yG (he pins s σ H _ I h) fun u s1 ⟨x,H1,I1,rx,a,C,dx,fs,v,ex,ea,c,n,l,q⟩=>?_);subst ex;obtain rfl:u=Value.ref a:=rx;exact za3 I1 ea c n l fun u' s2 I2 ru=>⟨v,H1,I2,ru,q⟩
theorem zig (ha:PE X o ta) (hv:PE X value tv) (hs:swapsWith value (some (.Attribute o f pos')) pos.line X.env=pure false):PS X (.Assign [.Attribute o f pos'] value pos) (sFld X.K ta tv f):=by
 intro pins s σ H D I h;refine plainObj_wpAny_Assign_Attribute (yG (hv pins s σ H _ I h) fun u s1 ⟨y,H1,I1,ry,q⟩=>yG (ha pins s1 σ H1 _ I1 q) fun ov s2 ⟨x,H2,I2,rx,a,C,dx,fs,ex,ea,c,n,l,q2⟩=>?_) hs;subst ex;obtain rfl:ov=Value.ref a:=rx;exact zaR I2 ea c n l ry fun s3 I3=>⟨σ,_,I3,q2⟩
end
section
variable {X : Cx} {pins : List (Addr × Obj)} {σ : St} {H : Hp} {s : Shared} {A : Around} {E : Value → Shared → Prop} {Q : Value → Shared → Prop} {c : Value} {b : Bool}
end
end L2
namespace L2
open PySem PySem.Spec PyProof.Rows
structure Room (k:Nat) (A:Around):Prop where
 gd:A.guards=some []
 hd:A.handled=none
 dp:A.depth+3 * k+5<recursionLimit
 un:A.units+16 * k+200<cLine
theorem Room.mono {j k:Nat} {A:Around} (r:Room k A) (h:j<=k):Room j A:=⟨r.gd,r.hd,by have:=r.dp;omega,by have:=r.un;omega⟩
theorem Room.deeper {k:Nat} {A:Around} (r:Room (k+1) A) (env:Env):Room k (A.deeper env) :=
 ⟨r.gd,r.hd,by have:=r.dp;show A.depth+1+3 * k+5<_;omega,by have:=r.un;show A.units+3+16 * k+200<_;omega⟩
theorem zaZ {A:Around} {C:Addr} {us:List Value} {kw:List (Str×Value)}:(A.under (.builtin "type.__call__" ⟨.ref C::us,kw⟩)).depth=A.depth+1:=by
 first|rfl|simp [Around.under,Code.weight,Code.isCreation,Code.isGuard,Code.isCaller,Code.frames,Code.isFrame,guardIds]
theorem zaY {A:Around} {C:Addr} {us:List Value} {kw:List (Str×Value)}:(A.under (.builtin "type.__call__" ⟨.ref C::us,kw⟩)).units=A.units+1:=by
 first|rfl|simp [Around.under,Code.cUnits,Code.frames,Code.isFrame]
theorem zgg {A:Around} {C:Addr} {us:List Value} {kw:List (Str×Value)}:(A.under (.builtin "type.__call__" ⟨.ref C::us,kw⟩)).guards=A.guards:=by
 first|rfl|simp [Around.under,Code.guards,Code.isGuard,guardIds,pushGuards]
theorem Room.make {k:Nat} {A:Around} (r:Room (k+1) A) (C:Addr) (us:List Value) (kw:List (Str×Value)):Room k (A.under (.builtin "type.__call__" ⟨.ref C::us,kw⟩)) :=
 ⟨(zgg).trans r.gd,r.hd,by have:=r.dp;rw [zaZ];omega,by have:=r.un;rw [zaY];omega⟩
theorem Room.depth {k:Nat} {A:Around} (r:Room k A):A.depth<recursionLimit:=by have:=r.dp;omega
def tNil:TA:=fun _ H Q=>Q [] H
def tCons (ta:TE) (tr:TA):TA:=fun σ H Q=>ta σ H fun x H1=>tr σ H1 fun xs H2=>Q (x::xs) H2
section
variable {X : Cx} {e : Expr} {es : List Expr} {te : TE} {t : TA} {pos : Pos}
theorem ziw:PA X [] tNil:=fun _ _ _ _ H Q I h=>Zby ⟨[],H,I,.nil,h⟩
theorem zf9 (ha:PE X e te) (hr:PA X es t) (hs:starEach (e::es) X.env=(false,eval e X.env)::starEach es X.env:=by rfl):PA X (e::es) (tCons te t):=by
 intro pos pins s σ H Q I h;rw [hs];show wpAny _ _ (spliced ((false,eval e X.env)::backTo pos (starEach es X.env))) _ _ s;refine Zbn (yG (ha pins s σ H _ I h) fun u s1 ⟨x,H1,I1,r1,q1⟩=>?_);exact yG (hr pos pins s1 σ H1 _ I1 q1) fun us s2 ⟨xs,H2,I2,r2,q2⟩=>⟨x::xs,H2,I2,.cons r1 r2,q2⟩
def tTup (t:TA):TE:=fun σ H Q=>t σ H fun xs H1=>xs.length<=sizeLine/\∀ p,H1 p=none->Q (.ref p) (yH H1 p (.tup xs))
def tLst (t:TA):TE:=fun σ H Q=>t σ H fun xs H1=>xs.length<=sizeLine/\∀ p,H1 p=none->Q (.ref p) (yH H1 p (.lst xs))
theorem zil {x1} (h:PA X es t):PE X (.Tuple es x1 pos) (tTup t):=by
 intro pins s σ H Q I hq;refine wpAny_Tuple_spliced (yG (h pos pins s σ H _ I hq) fun us s1 ⟨xs,H1,I1,r,z,q⟩=>⟨by rw [← r.length];exact z,?_⟩);have hf:H1 s1.heap.objs.size=none:=I1.hok.fresh (zzR _);refine ⟨.ref s1.heap.objs.size,yH H1 s1.heap.objs.size (.tup xs),I1.laid (t':=s1.toks) (fun b u e=>Zb _ e) (zzR _) ?_,rfl,q _ hf⟩;exact ⟨z,us,r,⟨_,Zd _ rfl,rfl,_,rfl⟩⟩
theorem ziq (h:PA X es t):PE X (.List es pos) (tLst t):=by
 intro pins s σ H Q I hq;refine wpAny_List_spliced (yG (h pos pins s σ H _ I hq) fun us s1 ⟨xs,H1,I1,r,z,q⟩=>⟨by rw [← r.length];exact z,?_⟩);have hf:H1 s1.heap.objs.size=none:=I1.hok.fresh (zzR _);refine ⟨.ref s1.heap.objs.size,yH H1 s1.heap.objs.size (.lst xs),I1.laid (t':=s1.toks) (fun b u e=>Zb _ e) (zzR _) ?_,rfl,q _ hf⟩;exact ⟨z,us,0,r,Zd _ rfl⟩
end
abbrev Sp:=List V->Hp->VK->XK->Prop
abbrev CXT:=List Env->Hp->Shared->XK->Value->Shared->Prop
structure Env0 (P:Program) (w:World) (K:PySem.W.Frag) (mg:Str->Option Value) (base:Heap) (A:Around) (outer:List Env) (s:Shared) (H:Hp):Prop where
 frames:A.frames=some outer
 mod:Mod K mg base
 bs:∀ b o,base.get? b=some o->s.heap.get? b=some o/\H b=none
 bsz:base.objs.size<=s.heap.objs.size
 funs:s.heap.FunFrames base outer
 frf:∀ b∈rH outer,H b=none
 hok:vS P w H s.heap
 bare:AllBare s.gens
def CE (outer:List Env) (P:Program) (w:World) (H:Hp) (s:Shared) (Q:VK) (u:Value) (s':Shared):Prop :=
 ∃ v H',s'.os=s.os/\AllBare s'.gens/\Un (rH outer) [] H H' s.heap s'.heap/\vS P w H' s'.heap/\zB v u/\Q v H'
def CR (CX:CXT) (outer:List Env) (P:Program) (w:World) (H:Hp) (s:Shared) (Q:VK) (E:XK) (r:Result) (s':Shared):Prop :=
 match r with
 | .ok (.ret u)=>CE outer P w H s Q u s'
 | .ok _=>False
 | .error e=>CX outer H s E e s'
structure FnOk (P:Program) (w:World) (K:PySem.W.Frag) (mg:Str->Option Value) (base:Heap) (CX:CXT) (k:Nat) (f:Addr) (fd:FuncData) (ps:List Str) (sp:Sp):Prop where
 len:∀ vs H Q E,sp vs H Q E->vs.length=ps.length
 run:∀ (A:Around) (outer:List Env) (s:Shared) (H:Hp) (args:Args) (us:List Value) (vs:List V) (Q:VK) (E:XK),Room k A->Env0 P w K mg base A outer s H->BindsTo s fd args (ps.zip us)->zE vs us->sp vs H Q E ->
  codeAny (model P w) A (.call (.ref f) args) (CR CX outer P w H s Q E) s
theorem FnOk.mono {P:Program} {w:World} {K:PySem.W.Frag} {mg:Str->Option Value} {base:Heap} {CX:CXT} {j k:Nat} {f:Addr} {fd:FuncData} {ps:List Str} {sp:Sp} (F:FnOk P w K mg base CX j f fd ps sp) (h:j<=k) :
  FnOk P w K mg base CX k f fd ps sp:=⟨F.len,fun A outer s H args us vs Q E hr=>F.run A outer s H args us vs Q E (hr.mono h)⟩
theorem Env0.make {P:Program} {w:World} {K:PySem.W.Frag} {mg:Str->Option Value} {base:Heap} {A:Around} {outer:List Env} {s:Shared} {H:Hp} (e:Env0 P w K mg base A outer s H) (C:Addr) (us:List Value) (kw:List (Str×Value)) :
  Env0 P w K mg base (A.under (.builtin "type.__call__" ⟨.ref C::us,kw⟩)) outer s H:=⟨by first|exact e.frames|(simpa [Around.under,Code.envs,Code.isFrame,pushEnvs] using e.frames),e.mod,e.bs,e.bsz,e.funs,e.frf,e.hok,e.bare⟩
section
variable {X : Cx} {pins : List (Addr × Obj)} {σ : St} {H : Hp} {s s' : Shared}
theorem Inv.env0 (I:Inv X pins σ H s):Env0 X.prog X.w X.K X.mg X.base X.A X.stack s H :=
 ⟨I.ok.frames,I.ok.mod,I.bs,Zy I.ok.bsz I.sz,I.stack,I.stkFree,I.hok,I.bare⟩
theorem Inv.after {Q:VK} {u:Value} (I:Inv X pins σ H s) (h:CE X.stack X.prog X.w H s Q u s'):EP X pins σ Q u s':=by
 obtain ⟨v,H',os,bare,un,hok,r,q⟩:=h;obtain ⟨hh,g,d,t,os'⟩:=s';obtain rfl:os'=s.os:=os;exact ⟨v,H',I.call (h':=hh) (g':=g) (d':=d) (t':=t) (ch:=[]) un hok bare (fun b z=>absurd z (by simp)),r,q⟩
end
def zfC (sp:Sp) (dvs:List V) (E:XK) (t:TA):TE:=fun σ H Q=>t σ H fun vs H1=>sp (vs++dvs) H1 Q E
def kY (K:PySem.W.Frag) (fd:FuncData) (ps:List Str) (ds:List Value):Prop :=
 ∀ (s:Shared) (us:List Value),K.In s.heap->(us++ds).length=ps.length->BindsTo s fd ⟨us,[]⟩ (ps.zip (us++ds))
theorem kY.all {K:PySem.W.Frag} {fd:FuncData} {ps:List Str} (h:∀ us:List Value,us.length=ps.length->bindArgs fd ⟨us,[]⟩=pure (ps.zip us)):kY K fd ps []:=fun s us _ hl=>by
 rw [ZO] at hl ⊢;exact .of_eq (h us hl)
def bW (CX:CXT) (X:Cx) (E:XK):Prop:=∀ (pins:List (Addr×Obj)) (σ:St) (H:Hp) (s:Shared) (e:Value) (s':Shared),Inv X pins σ H s->CX X.stack H s E e s'->X.xe e s'
section
variable {X : Cx} {CX : CXT} {k : Nat} {f C : Addr} {fd : FuncData} {ps : List Str} {sp : Sp} {dvs : List V} {ds : List Value} {E : XK} {x m : Str} {p pos apos : Pos} {e o : Expr} {es : List Expr} {ta : TE} {t : TA}
theorem zeN {pins:List (Addr×Obj)} {σ:St} {H:Hp} {s:Shared} {Q:VK} {us:List Value} {vs:List V} (F:FnOk X.prog X.w X.K X.mg X.base CX k f fd ps sp) (hr:Room k X.A) (hb:kY X.K fd ps ds) (hd:zE dvs ds) (hx:bW CX X E)
  (I:Inv X pins σ H s) (r:zE vs us) (h:sp (vs++dvs) H Q E):wpAny (model X.prog X.w) X.A (call (.ref f) us) (EP X pins σ Q) X.xe s:=by
 have r2:zE (vs++dvs) (us++ds):=r.append hd;have hl:(us++ds).length=ps.length:=by rw [← r2.length];exact F.len _ _ _ _ h
 refine Zb7 (ZaV (F.run X.A X.stack s H ⟨us,[]⟩ (us++ds) (vs++dvs) Q E hr I.env0 (hb s us I.kIn hl) r2 h) fun r s' hq=>?_)
 cases r with
 |error e=>exact hx pins σ H s e s' I hq
 |ok fl =>
  cases fl with
  |ret u=>exact I.after hq
  |next=>exact False.elim hq
  |brk=>exact False.elim hq
  |cont=>exact False.elim hq
theorem zf6 (F:FnOk X.prog X.w X.K X.mg X.base CX k f fd ps sp) (hr:Room k X.A) (hg:Gl X x) (hm:X.mg x=some (.ref f)) (hk:PySem.W.keepIn X.K (.ref f)=true) (hb:kY X.K fd ps ds) (hd:zE dvs ds) (hx:bW CX X E)
  (ha:PA X (e::es) t) (hdb:(x==("__debug__" : Str))=false:=by decide) (he:starEach (e::es) X.env=(false,eval e X.env)::starEach es X.env:=by rfl) (hpl:(backTo pos (starEach es X.env)).any (·.1)=false:=by rfl) :
  PE X (.Call (.Name x p) (e::es) [] pos) (zfC sp dvs E t):=by
 intro pins s σ H Q I h;refine ZH (qN I hg hm ?_ hdb);refine ZbX (h₀:=X.base) I.ok.mod.kin hk (yG (ha pos pins s σ H _ I h) fun us s1 ⟨vs,H1,I1,r,q⟩=>⟨I1.kIn,?_⟩) he hpl;exact zeN F hr hb hd hx I1 r q
theorem zdN (F:FnOk X.prog X.w X.K X.mg X.base CX k f fd ps sp) (hr:Room k X.A) (hg:Gl X x) (hm:X.mg x=some (.ref f)) (hk:PySem.W.keepIn X.K (.ref f)=true) (hb:kY X.K fd ps ds) (hd:zE dvs ds) (hx:bW CX X E)
  (hdb:(x==("__debug__" : Str))=false:=by decide):PE X (.Call (.Name x p) [] [] pos) (zfC sp dvs E tNil):=by
 intro pins s σ H Q I h;refine ZH (qN I hg hm ?_ hdb);exact ZbO I.kIn hk (zeN (us:=[]) F hr hb hd hx I .nil h)
end
section
variable {X : Cx} {CX : CXT} {k : Nat} {f C : Addr} {fd : FuncData} {ps ks : List Str} {sp : Sp} {E : XK} {x m : Str} {p pos apos kpos : Pos} {e o : Expr} {es : List Expr} {kws : List Keyword} {te ta : TE} {t tk : TA} {nm : Option Str}
variable {g : List Value → List Value → List Value} {gV : List V → List V → List V}
end
structure FnScope (N P:List Str) (sc:Scope):Prop where
 kind:sc.kind=.function
 co:sc.isCoroutine=false
 gen:sc.isGenerator=false
 nd:N.Nodup
 pre:N.take P.length=P
 par:∀ x∈P,sc.names.lookup x=some .local\/sc.names.lookup x=some .cell
 nofree:∀ y∈sc.names,y.2≠.free
theorem fH {kindOf:Str->Option NameKind} {x:Str}:∀ {binds:List (Str×Value)} {m:Str->Option Value},(∀ v,(x,v)∉binds)->bindL kindOf binds m x=m x
 | [],_,_=>rfl
 | (n,v)::r,m,h=>by
  unfold bindL;rw [fH fun w hw=>h w (Zo _ hw)]
  split
  .have:x≠n:=by rintro rfl;exact h v zzT
   simp [this]
  .rfl
theorem fF {kindOf:Str->Option NameKind} {x:Str}:∀ {binds:List (Str×Value)} {m:Str->Option Value},(∀ v,(x,v)∉binds)->bindC kindOf binds m x=m x
 | [],_,_=>rfl
 | (n,v)::r,m,h=>by
  unfold bindC;rw [fF fun w hw=>h w (Zo _ hw)]
  split
  .rfl
  .have:x≠n:=by rintro rfl;exact h v zzT
   simp [this]
theorem fG {kindOf:Str->Option NameKind} {x:Str} {v:Value}:∀ {P:List Str} {vs:List Value} {i:Nat} {m:Str->Option Value},P.Nodup->P[i]?=some x->vs[i]?=some v->kindOf x=some .local ->
  bindL kindOf (P.zip vs) m x=some v
 | [],_,_,_,_,h,_,_=>by simp at h
 |_::_,[],_,_,_,_,h,_=>by simp at h
 |p::P,w::vs,0,m,nd,h1,h2,hk=>by
  simp at h1 h2;subst h1;subst h2;show bindL kindOf ((p,w)::P.zip vs) m p=_;unfold bindL;rw [fH fun v hv=>(Zaj.mp nd).1 (Zco hv).1,if_pos hk];simp
 |p::P,w::vs,i+1,m,nd,h1,h2,hk=>by
  show bindL kindOf ((p,w)::P.zip vs) m x=_;unfold bindL;exact fG (i:=i) (Zaj.mp nd).2 (by simpa using h1) (by simpa using h2) hk
theorem fE {kindOf:Str->Option NameKind} {x:Str} {v:Value}:∀ {P:List Str} {vs:List Value} {i:Nat} {m:Str->Option Value},P.Nodup->P[i]?=some x->vs[i]?=some v->kindOf x≠some .local ->
  bindC kindOf (P.zip vs) m x=some v
 | [],_,_,_,_,h,_,_=>by simp at h
 |_::_,[],_,_,_,_,h,_=>by simp at h
 |p::P,w::vs,0,m,nd,h1,h2,hk=>by
  simp at h1 h2;subst h1;subst h2;show bindC kindOf ((p,w)::P.zip vs) m p=_;unfold bindC;rw [fF fun v hv=>(Zaj.mp nd).1 (Zco hv).1,if_neg hk];simp
 |p::P,w::vs,i+1,m,nd,h1,h2,hk=>by
  show bindC kindOf ((p,w)::P.zip vs) m x=_;unfold bindC;exact fE (i:=i) (Zaj.mp nd).2 (by simpa using h1) (by simpa using h2) hk
def start (N:List Str) (vs:List V):St:=vs.map some++List.replicate (N.length-vs.length) none
def hX (CX:CXT) (P:Program) (w:World) (K:PySem.W.Frag) (mg:Str->Option Value) (base:Heap) (N:List Str) (qual:Str) (scope:Scope) (f:Addr) (cd:Value) (A:Around) (outer:List Env) (s:Shared) (H:Hp) (E:XK):Cx where
 prog:=P
 w:=w
 K:=K
 mg:=mg
 base:=base
 A:=A.deeper (envOfC qual scope s.heap.objs.size f cd)
 N:=N
 s₀:=s
 H₀:=H
 env:=envOfC qual scope s.heap.objs.size f cd
 outer:=outer
 stack:=envOfC qual scope s.heap.objs.size f cd::outer
 ex:=[]
 calm:=true
 fn:=fun _=>true
 pn:=[]
 xe:=fun e s'=>wpAny (model P w) (A.deeper (envOfC qual scope s.heap.objs.size f cd)) (leaving (envOfC qual scope s.heap.objs.size f cd) e) (fun _ s''=>CX outer H s E e s'') (fun e' s''=>CX outer H s E e' s'') s'
theorem zaJ {sc:Scope} {n:Nat} {x:Str} (h:sc.names.lookup x=some .cell):∃ c,(cellsFrom n sc.names []).lookup x=some c:=by
 have q:=PySem.W.cellsFrom_some sc.names n [] (.inl h);exact ZaS.mp q
theorem zcn {CX:CXT} {P:Program} {w:World} {K:PySem.W.Frag} {mg:Str->Option Value} {base:Heap} {N ps:List Str} {qual:Str} {scope:Scope} {f:Addr} {cd:Value} {A:Around} {outer:List Env} {s s1:Shared} {H:Hp} {E:XK} {us:List Value} {vs:List V}
  (S:FnScope N ps scope) (hd:A.handled=none) (e0:Env0 P w K mg base A outer s H) (hl:vs.length=ps.length) (r:zE vs us)
  (x:InCallC s s.heap.objs.size (bindL (envOfC qual scope s.heap.objs.size f cd).kindOf (ps.zip us) fun _=>none) (cellsFrom (s.heap.objs.size+1) scope.names []) (bindC (envOfC qual scope s.heap.objs.size f cd).kindOf (ps.zip us) fun _=>none) s1) :
  Inv (hX CX P w K mg base N qual scope f cd A outer s H E) [] (start N vs) H s1:=by
 have hpl:ps.length<=N.length:=by have:=congrArg List.length S.pre;rw [Zac] at this;omega
 obtain ⟨h1,tk,rfl,hk⟩:=x.done;have noA:∀ b:Addr,b∉(hX CX P w K mg base N qual scope f cd A outer s H E).ex:=fun b z=>absurd (show b∈([]:List Addr) from z) (by simp)
 refine ⟨⟨e0.mod,S.kind,rfl,rfl,zzR _,fun y z c h1 h2=>?_,fun y hy=>?_,fun y c _ h=>?_,fun _=>hd,Around.frames_deeper e0.frames,.inr ⟨rfl,rfl⟩,fun b z=>absurd z (noA b),e0.bs,e0.bsz,fun b _ _=>noA b,fun b z=>absurd z (noA b),e0.funs,e0.frf⟩,
  rfl,e0.bare,Un.kept hk,⟨_,x.toInCall.ns,fun i y v h1 h2 h3=>?_⟩,fun y c h=>⟨_,x.cell y c h⟩,e0.hok.fresh (zzR _),fun y c h=>?_,fun p hp=>absurd (show p∈([]:List (Addr×Obj)) from hp) (by simp),e0.hok.kept hk,?_⟩
 .exact name_of_addr x.apart (Za0 h1) (Za0 h2)
 .have hy:scope.names.lookup y=some .cell\/scope.names.lookup y=some .free:=hy;rcases hy with hy|hy
  .exact zaJ hy
  .exact absurd rfl (S.nofree _ (Za0 hy))
 .exact Za5 (x.above y c (Za0 h))
 .have hi:i<vs.length:=by
   unfold start at h2
   by_cases hi:i<vs.length
   .exact hi
   .rw [Zan (by simpa using hi)] at h2;rw [Zbq] at h2
    split at h2<;>cases h2
  have ha:vs[i]?=some v:=by
   unfold start at h2;rw [Zar (by simpa using hi),Zj] at h2
   cases e:vs[i]? with
   |none=>rw [e] at h2;cases h2
   |some a=>rw [e] at h2;cases h2;rfl
  obtain ⟨u,hu,rv⟩:=r.get ha
  have hp:ps[i]?=some y:=by
   rw [← S.pre,List.getElem?_take_of_lt (by omega)];exact h1
  have ndP:ps.Nodup:=by rw [← S.pre];exact S.nd.sublist (Zb5 _ _)
  refine ⟨u,rv,?_⟩;rcases S.par y (Zv hp) with k|k
  .exact .inl ⟨k,fG ndP hp hu k⟩
  .obtain ⟨c,e⟩:=zaJ (n:=s.heap.objs.size+1) k;refine .inr ⟨.inl k,c,e,?_⟩;have q:=x.cell y c e;rw [fE ndP hp hu (by show scope.names.lookup y≠_;rw [k];decide)] at q;exact q
 .exact e0.hok.fresh (Za5 (x.above y c (Za0 h)))
 .unfold start;show _=N.length;rw [zzW,zzM,ZbF];omega
theorem zeg {CX:CXT} {P:Program} {w:World} {K:PySem.W.Frag} {mg:Str->Option Value} {base:Heap} {k:Nat} {f:Addr} {name qual:Str} {params:Arguments} {body:List Stmt} {scope:Scope} {dV kV doc pm cdv ct oc:Value} {an od:Option Addr}
  {osl:Array (Option Value)} {N ps:List Str} {sp:Sp} (lk:K.lookup f=some ⟨oc,od,.func (PySem.W.fnOf name qual params body scope dV kV doc pm an cdv ct),osl⟩) (hcd:PySem.W.codeIn K cdv qual=true) (S:FnScope N ps scope)
  (len:∀ vs H Q E,sp vs H Q E->vs.length=ps.length)
  (hbody:∀ (A:Around) (outer:List Env) (s:Shared) (H:Hp) (vs:List V) (Q:VK) (E:XK),Room k (A.deeper (envOfC qual scope s.heap.objs.size f cdv))->sp vs H Q E ->
   ∃ t,mR (hX CX P w K mg base N qual scope f cdv A outer s H E) body t/\t { nx:=fun _ H'=>Q .non H',rt:=Q } (start N vs) H) :
  FnOk P w K mg base CX (k+1) f (PySem.W.fnOf name qual params body scope dV kV doc pm an cdv ct) ps sp:=by
 refine ⟨len,fun A outer s H args us vs Q E hr e0 hb r hsp=>?_⟩;have hl:=len _ _ _ _ hsp;have KX:K.In s.heap:=e0.mod.kin.keeps fun b o e=>(e0.bs b o e).1;have lim:s.heap.NoLimit:=e0.mod.nolimit.keeps fun b o e=>(e0.bs b o e).1
 have hkind:∀ y∈ps.zip us,scope.names.lookup y.1=some .local\/(scope.names.lookup y.1=some .cell/\((cellsFrom (s.heap.objs.size+1) scope.names []).lookup y.1).isSome=true):=fun ⟨n,v⟩ hy=>by
  rcases S.par n (Zco hy).1 with q|q
  .exact .inl q
  .exact .inr ⟨q,PySem.W.cellsFrom_some _ _ _ (.inl q)⟩
 refine codeAny_call_function hr.depth (KX _ _ lk) rfl S.co S.gen rfl (PySem.W.codeRec_of KX hcd) (hb _ _ _ _ ?_);refine wpAny_newFunctionEnv_cells S.kind hkind fun env he s1 x=>?_;subst he;refine ⟨lim.keeps x.toInCall.keep,codeAny_func ?_⟩;obtain ⟨t,ht,hq⟩:=hbody A outer s H vs Q E (hr.deeper _) hsp;have I:Inv (hX CX P w K mg base N qual scope f cdv A outer s H E) [] (start N vs) H s1:=zcn S hr.hd e0 hl r x;refine ZN (ht [] s1 (start N vs) H _ I hq) (fun fl s' hs=>?_) fun e s' hs=>hs
 have fin:∀ {σ':St} {H':Hp} {v:V} {u:Value},Inv (hX CX P w K mg base N qual scope f cdv A outer s H E) [] σ' H' s'->zB v u->Q v H'->CE outer P w H s Q u s' :=
  fun {σ' H' v u} J rv q=>⟨v,H',J.os,J.bare,J.base,J.hok,rv,q⟩
 cases fl with
 |ret u =>
  obtain ⟨v,σ',H',J,rv,q⟩:=hs;exact fin J rv q
 |next =>
  obtain ⟨σ',H',J,q⟩:=hs;exact fin (v:=V.non) (u:=Value.none) J rfl q
 |brk =>
  obtain ⟨_,_,_,q⟩:=hs;exact False.elim q
 |cont =>
  obtain ⟨_,_,_,q⟩:=hs;exact False.elim q
end L2
namespace L2
open PySem PySem.Spec PyProof.Rows
section
variable {X : Cx} {x : Str} {p pos : Pos} {e : Expr} {es : List Expr} {t : TA} {id T : String} {r : List V → Hp → VK → Prop}
def tCB (r:List V->Hp->VK->Prop) (t:TA):TE:=fun σ H Q=>t σ H fun vs H1=>r vs H1 Q
theorem zdM (hc:xD X (.builtin id) r) (hg:Gl X x) (hm:X.mg x=none) (hv:bootBuiltins x=some (.builtin id)) (ha:PA X (e::es) t) (hn:x ≠ "__name__" := by decide) (hdb:(x==("__debug__" : Str))=false:=by decide)
  (he:starEach (e::es) X.env=(false,eval e X.env)::starEach es X.env:=by rfl) (hpl:(backTo pos (starEach es X.env)).any (·.1)=false:=by rfl):PE X (.Call (.Name x p) (e::es) [] pos) (tCB r t):=by
 intro pins s σ H Q I h;refine ZH (qW I hg hm hv ?_ hn hdb);exact PyProof.Rows.callWith_builtin1 (yG (ha pos pins s σ H _ I h) fun us s1 ⟨vs,H1,I1,r1,q1⟩=>hc pins s1 σ H1 vs us Q I1 r1 q1) he hpl
theorem zbV (hc:xD X (.type T) r) (hg:Gl X x) (hm:X.mg x=none) (hv:bootBuiltins x=some (.type T)) (ha:PA X (e::es) t) (hn:x ≠ "__name__" := by decide) (hdb:(x==("__debug__" : Str))=false:=by decide)
  (he:starEach (e::es) X.env=(false,eval e X.env)::starEach es X.env:=by rfl) (hpl:(backTo pos (starEach es X.env)).any (·.1)=false:=by rfl):PE X (.Call (.Name x p) (e::es) [] pos) (tCB r t):=by
 intro pins s σ H Q I h;refine ZH (qW I hg hm hv ?_ hn hdb);exact ZP (yG (ha pos pins s σ H _ I h) fun us s1 ⟨vs,H1,I1,r1,q1⟩=>hc pins s1 σ H1 vs us Q I1 r1 q1) he hpl
end
end L2
namespace HT
open PySem PyProof.Rows
section
open PySem.SeqAt
open PySem.AutoSeq1 (wpAny_loadPart')
open PySem.MeetsSeq PySem.MeetsSeq2 PySem.MeetsSeq3
end
section
variable {prog : Program} {w : World} {A : Around} {E : Value → Shared → Prop} {s : Shared}
theorem zhb {t b:Addr} {vs ws:List Value} {Q:Value->Shared->Prop} (ht:IsTup s.heap t vs.toArray) (hb:IsTup s.heap b ws.toArray) (hv:vs≠[])
  (h1:ws=[]->Q (.ref t) s) (h2:ws≠[]->Q (.ref s.heap.objs.size) { s with heap:=s.heap.push { cls:=.type "tuple", data:=.seq (vs++ws).toArray } })
  (hsz:vs.length+ws.length<=sizeLine):wpAny (model prog w) A (binaryOp .Add (.ref t) (.ref b)) Q E s:=by
 obtain ⟨⟨cls,dd,data,sl⟩,ho,hc,n,hd⟩:=id ht;obtain ⟨⟨cls2,dd2,data2,sl2⟩,ho2,hc2,n2,hd2⟩:=id hb;simp only at hc hd hc2 hd2;subst hc hd hc2 hd2;have e:vs.toArray++ws.toArray=(vs++ws).toArray:=by simp
 by_cases hw:ws=[]
 .exact concat_meets ⟨_,ho,rfl⟩ ⟨_,ho2,rfl⟩ Zcl ZcE Zbx Zbs (Zbl _ _)
   (tuple_addW1 t b vs.toArray ws.toArray n n2 dd dd2 sl sl2 (by simpa using hv) (by simp [hw])) ⟨ho,ho2,h1 hw⟩
 .refine concat_meets ⟨_,ho,rfl⟩ ⟨_,ho2,rfl⟩ Zcl ZcE Zbx Zbs (Zbl _ _)
   (tuple_addW2 t b vs.toArray ws.toArray n n2 dd dd2 sl sl2 (by simpa using hv) (by simpa using hw) (by rw [zzS,zzS];exact hsz)) ⟨ho,ho2,?_⟩
  rw [e];exact h2 hw
def wY (n d:Nat):Option Int->Nat
 |none=>d
 |some v=>if v<0 then (v+(n:Int)).toNat else min v.toNat n
theorem zh1 (n d:Nat) (hd:d<=n) (o:Option Int):wY n d o<=n:=by
 cases o with
 |none=>exact hd
 |some v =>
  show (if v<0 then (v+(n:Int)).toNat else min v.toNat n)<=n
  by_cases hv:v<0
  .rw [if_pos hv];omega
  .rw [if_neg hv];exact Nat.min_le_right _ _
theorem zcM (v:Int) (n d:Nat):(if v<0 then max (v+(n:Int)) 0 else min v (n:Int))=((wY n d (some v):Nat):Int):=by
 show (if v<0 then max (v+(n:Int)) 0 else min v (n:Int))=(((if v<0 then (v+(n:Int)).toNat else min v.toNat n):Nat):Int)
 by_cases hv:v<0
 .simp only [if_pos hv];omega
 .simp only [if_neg hv];omega
theorem zbc (lo hi:Option Int) (n:Nat):Builtin.Slice.sliceAdjust lo hi 1 (n:Int)=(((wY n 0 lo:Nat):Int),((wY n n hi:Nat):Int)):=by
 have h1:¬ ((1:Int)<0):=by omega
 unfold Builtin.Slice.sliceAdjust;simp only [h1,if_false];refine Prod.ext ?_ ?_
 .cases lo with
  |none=>rfl
  |some v=>exact zcM v n 0
 .cases hi with
  |none=>rfl
  |some v=>exact zcM v n n
theorem zaV (i j:Nat):Builtin.Slice.slicePlaces (i:Int) (j:Int) 1=j-i:=by
 unfold Builtin.Slice.slicePlaces;have h1:(1:Int) > 0:=by omega
 simp only [h1,if_true,Int.ediv_one]
 split<;>omega
theorem pO {v:Value} {o:Option Int} {Q:Option Int->Shared->Prop} (p:IsPart v o) (h:Q o s):wpAny (model prog w) A (Builtin.Slice.slicePartIndex v) Q E s:=by
 cases p with
 |none=>exact slicePart_none h
 |int i t=>exact slicePart_int h
theorem qH {sl:Addr} {vl vu:Value} {lo hi:Option Int} {n:Nat} {Q:Int×Int×Nat->Shared->Prop} (hs:s.heap.IsSliceOf sl vl vu .none) (pl:IsPart vl lo) (pu:IsPart vu hi)
  (h:Q (((wY n 0 lo:Nat):Int),1,wY n n hi-wY n 0 lo) s):wpAny (model prog w) A (Builtin.Slice.sliceApplied (.ref sl) (pure (n:Int))) Q E s:=by
 obtain ⟨os,hos,hcs,hds⟩:=id hs;unfold Builtin.Slice.sliceApplied Builtin.Slice.sliceFields;refine Za (Za (Zu hos hds (x:=vl) rfl (Za (Zu hos hds (x:=vu) rfl (Za (Zu hos hds (x:=.none) rfl (Zc ?_)))))));refine Za (slicePart_none ?_);show wpAny _ _ (if ((1:Int)==0)=true then _ else _) _ _ s;rw [if_neg (by decide)];refine Za (pO pl (Za (pO pu (Za (Zc ?_)))));show wpAny _ _ (match Builtin.Slice.sliceAdjust lo hi 1 (n:Int) with|(lo,hi)=>pure (lo,(1:Int),Builtin.Slice.slicePlaces lo hi 1)) _ _ s;rw [zbc lo hi n];show wpAny _ _ (pure (((wY n 0 lo:Nat):Int),(1:Int),Builtin.Slice.slicePlaces ((wY n 0 lo:Nat):Int) ((wY n n hi:Nat):Int) 1)) _ _ s;rw [zaV];exact Zc h
theorem zdG (xs:Array Value) (i k:Nat):((List.range k).filterMap fun (m:Nat)=>xs[((i:Int)+(m:Int) * 1).toNat]?).toArray=((xs.toList.drop i).take k).toArray:=by
 have e:(fun (m:Nat)=>xs[((i:Int)+(m:Int) * 1).toNat]?)=fun m=>xs[i+m]?:=by
  funext m
  have:((i:Int)+(m:Int) * 1).toNat=i+m:=by omega
  rw [this]
 rw [e];have:=pick_run xs i k;rw [List.filterMap_map] at this;have e2:((fun x=>xs[x]?) ∘ fun x=>i+x)=fun m=>xs[i+m]?:=rfl;rw [e2] at this;rw [this]
theorem tK {t sl:Addr} {items:Array Value} {vl vu:Value} {lo hi:Option Int} {Q:Value->Shared->Prop} (ht:IsTup s.heap t items) (hs:s.heap.IsSliceOf sl vl vu .none) (pl:IsPart vl lo) (pu:IsPart vu hi)
  (hw:¬ (wY items.size 0 lo=0/\wY items.size items.size hi=items.size))
  (h:Q (.ref s.heap.objs.size) { s with heap:=s.heap.push { cls:=.type "tuple", data:=.seq ((items.toList.drop (wY items.size 0 lo)).take (wY items.size items.size hi-wY items.size 0 lo)).toArray } })
  (hsz:items.size<=sizeLine):wpAny (model prog w) A (getItem (.ref t) (.ref sl)) Q E s:=by
 have htake:sizeOk (.seq ((items.toList.drop (wY items.size 0 lo)).take (wY items.size items.size hi-wY items.size 0 lo)).toArray):=by
  show ((items.toList.drop (wY items.size 0 lo)).take (wY items.size items.size hi-wY items.size 0 lo)).toArray.size<=sizeLine;rw [zzS,Zac,Zav,Zn];omega
 have hj:wY items.size items.size hi<=items.size:=zh1 _ _ (zzR _) hi;obtain ⟨os,hos,hcs,hds⟩:=id hs;have hTs:s.TypeIs (.ref sl) "slice" := ⟨os,hos,hcs⟩;unfold getItem
 try with_reducible refine ZK ?_
 first|refine Za (Zc ?_)|skip
 refine Za (Zb8 ht.typeIs (by decide) ?_)
 refine Za (ZJ (name:=Str.ofString "__getitem__") ht.typeIs ZV
  (ZC ZV ht.typeIs entry_tuple_getitem ?_ (args_tuple_getitem _ _)))
 show wpAny _ _ (Builtin.Tuple.tupleItemsOf (.ref t) >>= _) _ _ s;refine Za (tupleItemsOf_ ht ?_);refine Za (Za8 hTs ?_);rw [if_pos (by decide)];refine Za (qH hs pl pu ?_)
 have hno:¬ ((((wY items.size 0 lo:Nat):Int)==0&&(1:Int)==1&&(wY items.size items.size hi-wY items.size 0 lo)==items.size)=true):=by
  intro q;rw [Zp,Zp] at q;have q1:((wY items.size 0 lo:Nat):Int)=0:=eq_of_beq q.1.1;have q2:wY items.size items.size hi-wY items.size 0 lo=items.size:=eq_of_beq q.2;exact hw ⟨by omega,by omega⟩
 show wpAny _ _ (if (((wY items.size 0 lo:Nat):Int)==0&&(1:Int)==1&&(wY items.size items.size hi-wY items.size 0 lo)==items.size)=true then _ else _) _ _ s;rw [if_neg hno,zdG]
 first
  |exact Za (m:=Builtin.Tuple.tupleExact _) (ZA (Zc ⟨_,rfl,Zc h⟩) htake)
  |exact Za (m:=Builtin.Tuple.tupleExact _) (ZA (Za (Zc (Zc ⟨_,rfl,Zc h⟩))) htake)
  |exact Za (Za (m:=Builtin.Tuple.tupleExact _) (ZA (Zc (Zc ⟨_,rfl,Zc h⟩)) htake))
  |exact Za (Za (m:=Builtin.Tuple.tupleExact _) (ZA (Zc ⟨_,rfl,Zc h⟩) htake))
end
end HT
namespace L2
open PySem PySem.Spec PyProof.Rows
abbrev TO:=St->Hp->(Option Int->Hp->Prop)->Prop
def PO (X:Cx) (e:Option Expr) (t:TO):Prop :=
 ∀ (pins:List (Addr×Obj)) (s:Shared) (σ:St) (H:Hp) (Q:Option Int->Hp->Prop),Inv X pins σ H s->t σ H Q ->
  wpAny (model X.prog X.w) X.A (evalPart e X.env) (fun u s'=>∃ o H',Inv X pins σ H' s'/\IsPart u o/\Q o H') X.xe s
def zfB:TO:=fun _ H Q=>Q none H
def tPart (t:TE):TO:=fun σ H Q=>t σ H fun x H1=>∃ i,x=.int i/\Q (some i) H1
section
variable {X : Cx} {e : Expr} {te : TE} {lo hi : Option Expr} {tl th : TO} {pos p2 : Pos}
theorem zf0:PO X none zfB:=by
 intro pins s σ H Q I h;rw [evalPart_none];exact Zc ⟨none,H,I,.none,h⟩
theorem zfZ (h:PE X e te):PO X (some e) (tPart te):=by
 intro pins s σ H Q I hw;rw [evalPart_some];refine yG (h pins s σ H _ I hw) fun u s1 ⟨x,H1,I1,r1,q1⟩=>?_;obtain ⟨i,rfl,q⟩:=q1;obtain ⟨t,rfl⟩:=r1;exact ⟨some i,H1,I1,.int i t,q⟩
def SlR (X:Cx) (r:V->Option Int->Option Int->Hp->VK->Prop):Prop :=
 ∀ (pins:List (Addr×Obj)) (s:Shared) (σ:St) (H:Hp) (x:V) (v vl vu:Value) (lo hi:Option Int) (sl:Addr) (Q:VK),Inv X pins σ H s->zB x v->s.heap.IsSliceOf sl vl vu .none->IsPart vl lo->IsPart vu hi->r x lo hi H Q ->
  ∃ T id,typeLookup (.type T) "__getitem__" = pure (some (.builtin id))/\s.TypeIs v T/\wpAny (model X.prog X.w) X.A (getItem v (.ref sl)) (EP X pins σ Q) X.xe s
def tSl (r:V->Option Int->Option Int->Hp->VK->Prop) (te:TE) (tl th:TO):TE:=fun σ H Q=>te σ H fun x H1=>tl σ H1 fun l H2=>th σ H2 fun u H3=>r x l u H3 Q
theorem zdI {r:V->Option Int->Option Int->Hp->VK->Prop} (hr:SlR X r) (he:PE X e te) (hl:PO X lo tl) (hu:PO X hi th):PE X (.Subscript e (.Slice lo hi none p2) pos) (tSl r te tl th):=by
 intro pins s σ H Q I h;refine Subscript_ (yG (he pins s σ H _ I h) fun v s1 ⟨x,H1,I1,r1,q1⟩=>?_);refine wpAny_Slice (yG (hl pins s1 σ H1 _ I1 q1) fun vl s2 ⟨l,H2,I2,pl,q2⟩=>yG (hu pins s2 σ H2 _ I2 q2) fun vu s3 ⟨u,H3,I3,pu,q3⟩=>?_);rw [evalPart_none];refine Zc ?_;have I4:Inv X pins σ H3 { s3 with heap:=s3.heap.push { cls:=.type "slice", data:=.fields #[vl,vu,.none] } }:=I3.kept (t':=s3.toks) fun b ob q=>Zb _ q;obtain ⟨T,id,hT,ht,hg⟩:=hr pins { s3 with heap:=s3.heap.push { cls:=.type "slice", data:=.fields #[vl,vu,.none] } } σ H3 x v vl vu l u s3.heap.objs.size Q I4 r1 (Heap.IsSliceOf.new ..) pl pu q3;show wpAny (model X.prog X.w) X.A (subscriptTail e (.Slice lo hi none p2) v (.ref s3.heap.objs.size)) (EP X pins σ Q) X.xe { s3 with heap:=s3.heap.push { cls:=.type "slice", data:=.fields #[vl,vu,.none] } };exact tail_any (ops:=[.ref s3.heap.objs.size,v]) ht hT hg (by with_unfolding_all rfl)
def cutV (xs:List V) (lo hi:Option Int):List V:=(xs.drop (HT.wY xs.length 0 lo)).take (HT.wY xs.length xs.length hi-HT.wY xs.length 0 lo)
theorem rT (xs:List V) (lo hi:Option Int):(cutV xs lo hi).length<=xs.length:=by
 unfold cutV;rw [Zac,Zav];omega
def rSlT (K:PySem.W.Frag):V->Option Int->Option Int->Hp->VK->Prop:=fun x lo hi H Q=>∃ a xs,x=.ref a/\tB K H a xs /\
 ¬ (HT.wY xs.length 0 lo=0/\HT.wY xs.length xs.length hi=xs.length)/\∀ p,H p=none->Q (.ref p) (yH H p (.tup (cutV xs lo hi)))
theorem zhR:SlR X (rSlT X.K):=by
 intro pins s σ H x v vl vu lo hi sl Q I rx hs pl pu h;obtain ⟨a,xs,rfl,hx,hw,q⟩:=h;cases rx;obtain ⟨its,r,ht,hz⟩:=I.tuple hx;have hlen:its.toArray.size=xs.length:=by rw [zzS];exact r.length.symm
 refine ⟨"tuple", _,ZV.lookup,ht.typeIs,?_⟩;refine HT.tK ht hs pl pu (by rw [hlen];exact hw) ?_ (by rw [hlen];exact hz);rw [hlen];refine ⟨.ref s.heap.objs.size,_,I.laid (t':=s.toks) (o:=.tup (cutV xs lo hi)) (fun b ob q=>Zb _ q) (zzR _) ?_,rfl,q _ (I.hok.fresh (zzR _))⟩;exact ⟨Zy (rT xs lo hi) hz,_,(r.drop (HT.wY xs.length 0 lo)).take (HT.wY xs.length xs.length hi-HT.wY xs.length 0 lo),ZcC _ _⟩
def rCatT (K:PySem.W.Frag):R2:=fun x y H Q=>∃ a b xs ys,x=.ref a/\y=.ref b/\tB K H a xs/\tB K H b ys/\xs≠[]/\xs.length+ys.length<=sizeLine /\
 (ys=[]->Q (.ref a) H)/\(ys≠[]->∀ p,H p=none->Q (.ref p) (yH H p (.tup (xs++ys))))
theorem zE.nil_iff {xs:List V} {us:List Value} (r:zE xs us):us=[]↔xs=[]:=by
 cases r with
 |nil=>simp
 |cons _ _=>simp
theorem zgc:kX X (binaryOp .Add) (rCatT X.K):=by
 intro pins s σ H x y v u Q I rx ry h;obtain ⟨a,b,xs,ys,rfl,rfl,ha,hb,hx,hz,q1,q2⟩:=h;cases rx;cases ry;obtain ⟨its,r1,p1,_⟩:=I.tuple ha;obtain ⟨its2,r2,p2,_⟩:=I.tuple hb;refine HT.zhb p1 p2 (fun z=>hx (r1.nil_iff.mp z)) (fun z=>⟨.ref a,H,I,rfl,q1 (r2.nil_iff.mp z)⟩) (fun z=>?_) (by rw [← r1.length,← r2.length];exact hz);refine ⟨.ref s.heap.objs.size,_,I.laid (t':=s.toks) (o:=.tup (xs++ys)) (fun b ob q=>Zb _ q) (zzR _) ?_,rfl,q2 (fun w=>z (r2.nil_iff.mpr w)) _ (I.hok.fresh (zzR _))⟩;exact ⟨by rw [zzW];exact hz,_,r1.append r2,ZcC _ _⟩
end
end L2
namespace L2
open PySem PySem.Spec PyProof.Rows
def cZ (n:Nat) (i:Int):Option Nat:=if 0<=i then (if i<n then some i.toNat else none) else if -(n:Int)<=i then some (i+n).toNat else none
def rR {α:Type} (xs:List α) (i:Int):Option α:=(cZ xs.length i).bind fun j=>xs[j]?
theorem zcl {n:Nat} {i:Int} {j:Nat} (h:cZ n i=some j):seqIndex? i n=some j/\j<n/\-(n:Int)<=i/\i<n:=by
 unfold cZ at h
 by_cases h0:0<=i
 .rw [if_pos h0] at h
  by_cases h1:i<n
  .rw [if_pos h1] at h;have e:i.toNat=j:=Zz h;exact ⟨by rw [seqIndex_of h0 h1,e],by omega,by omega,h1⟩
  .rw [if_neg h1] at h;cases h
 .rw [if_neg h0] at h
  by_cases h1:-(n:Int)<=i
  .rw [if_pos h1] at h;have e:(i+n).toNat=j:=Zz h;exact ⟨by rw [seqIndex_neg (by omega) h1,e],by omega,h1,by omega⟩
  .rw [if_neg h1] at h;cases h
theorem cB {α:Type} {xs:List α} {i:Int} {v:α} (h:rR xs i=some v):∃ j,seqIndex? i xs.length=some j/\xs[j]?=some v/\j<xs.length/\-(xs.length:Int)<=i/\i<xs.length:=by
 unfold rR at h
 cases e:cZ xs.length i with
 |none=>rw [e] at h;cases h
 |some j =>
  rw [e] at h;obtain ⟨h1,h2,h3,h4⟩:=zcl e;exact ⟨j,h1,h,h2,h3,h4⟩
def zc1 (b:Expr):Prop:=∀ o i,subscripted b false o i=operate [o,i] (getItem o i)
def IxR (X:Cx) (r:R2):Prop :=
 ∀ (value slice:Expr) (pins:List (Addr×Obj)) (s:Shared) (σ:St) (H:Hp) (x y:V) (v u:Value) (Q:VK),Inv X pins σ H s->zB x v->zB y u->r x y H Q ->
  subscripted slice false v u=operate [v,u] (getItem v u)->wpAny (model X.prog X.w) X.A (subscriptTail value slice v u) (EP X pins σ Q) X.xe s
def MtR (X:Cx) (id:String) (r:V->List V->Hp->VK->Prop):Prop :=
 ∀ (pins:List (Addr×Obj)) (s:Shared) (σ:St) (H:Hp) (x:V) (xs:List V) (v:Value) (us:List Value) (Q:VK),Inv X pins σ H s->zB x v->zE xs us->r x xs H Q ->
  wpAny (model X.prog X.w) X.A (call (.builtin id) (v::us)) (EP X pins σ Q) X.xe s
section
variable {X : Cx} {a b : Expr} {ta tb : TE} {pos : Pos}
theorem pe_ix {r:R2} (hr:IxR X r) (ha:PE X a ta) (hb:PE X b tb) (hs:zc1 b):PE X (.Subscript a b pos) (tOp r ta tb):=by
 intro pins s σ H Q I h;exact Subscript_ (binT ha hb I h fun v u s2 x y H2 I2 rx ry q=>hr a b pins s2 σ H2 x y v u Q I2 rx ry q (hs _ _))
def rIxL (K:PySem.W.Frag):R2:=fun x y H Q=>∃ p xs i v,x=.ref p/\y=.int i/\rQ K H p xs/\rR xs i=some v/\Q v H
def rIxT (K:PySem.W.Frag):R2:=fun x y H Q=>∃ p xs i v,x=.ref p/\y=.int i/\tB K H p xs/\rR xs i=some v/\Q v H
def rIxS:R2:=fun x y H Q=>∃ z i c,x=.str z/\y=.int i/\z.length<=sizeLine/\rR z.cps.toList i=some c/\Q (.str ⟨#[c]⟩) H
theorem zgo:IxR X (rIxL X.K):=by
 intro value slice pins s σ H x y v u Q I rx ry h hs;obtain ⟨p,xs,i,z,rfl,rfl,hq,he,q⟩:=h;cases rx;obtain ⟨t,rfl⟩:=ry;obtain ⟨its,r,pl,hz⟩:=I.list hq;obtain ⟨j,h1,h2,h3,h4,h5⟩:=cB he;obtain ⟨w,ew,rw'⟩:=r.get h2;have hl:=r.length;have hn:=uF;have fin:EP X pins σ Q w s:=⟨z,H,I,rw',q⟩
 by_cases h0:0<=i
 .have hj:i.toNat=j:=by
   rw [seqIndex_of h0 h5] at h1;exact Zz h1
  exact item_listR pl.isList h0 (by omega) (by rw [hj];simpa using ew) fin hs
 .have hj:(i+(its.toArray.size:Int)).toNat=j:=by
   rw [seqIndex_neg (by omega) h4] at h1;rw [zzS,← hl];exact Zz h1
  exact subscriptTail_builtinR (x:=w) pl.isList.typeIs slot_list_getitem.lookup
   (wpAny_getItem_list_neg (Q:=fun r s'=>r=w/\EP X pins σ Q r s') pl.isList (by omega) (by rw [zzS]<;>omega) (by omega) (by rw [hj];simpa using ew) ⟨rfl,fin⟩) hs
theorem zi5:IxR X (rIxT X.K):=by
 intro value slice pins s σ H x y v u Q I rx ry h hs;obtain ⟨p,xs,i,z,rfl,rfl,hq,he,q⟩:=h;cases rx;obtain ⟨t,rfl⟩:=ry;obtain ⟨its,r,pl,hz⟩:=I.tuple hq;obtain ⟨j,h1,h2,h3,h4,h5⟩:=cB he;obtain ⟨w,ew,rw'⟩:=r.get h2;have hl:=r.length;have hn:=uF;have fin:EP X pins σ Q w s:=⟨z,H,I,rw',q⟩
 exact subscriptTail_builtinR (x:=w) pl.typeIs slot_tuple_getitem.lookup
  (getItem_tuple (j:=j) (Q:=fun r s'=>r=w/\EP X pins σ Q r s') pl (by omega) (by omega) (by rw [zzS,← hl];exact h1) (by simpa using ew) ⟨rfl,fin⟩) hs
theorem zi6:IxR X rIxS:=by
 intro value slice pins s σ H x y v u Q I rx ry h hs;obtain ⟨z,i,c,rfl,rfl,hz,he,q⟩:=h;obtain ⟨t,rfl⟩:=rx;obtain ⟨t',rfl⟩:=ry;obtain ⟨j,h1,h2,h3,h4,h5⟩:=cB he;have hl:z.cps.toList.length=z.length:=by simp [Str.length]
 rw [hl] at h1 h4 h5;have hn:=uF
 exact tail_any (typeIs_str s z t) slot_str_getitem.lookup (getItem_str (c:=c) (by
  have e1:decide (i < -(2 ^ 63:Int))=false:=decide_eq_false (by omega);have e2:decide (i>=2 ^ 63)=false:=decide_eq_false (by omega);rw [e1,e2,Bool.or_false]) (by rw [h1];simpa using h2) ⟨.str ⟨#[c]⟩,H,I.tok _,⟨_,rfl⟩,q⟩) hs
theorem zaX (its:List Value) (n j:Nat) (u:Value):Obj.mapSeq (·.setIfInBounds j u) { cls:=.type "list", data:=.seq its.toArray n }={ cls:=.type "list", data:=.seq (its.set j u).toArray n }:=by
 simp [Obj.mapSeq]
theorem Inv.lst {pins:List (Addr×Obj)} {σ:St} {H:Hp} {s:Shared} {p:Addr} {xs:List V} (I:Inv X pins σ H s) (h:H p=some (.lst xs)) :
  ∃ (its:List Value) (n:Nat),zE xs its/\s.heap.get? p=some { cls:=.type "list", data:=.seq its.toArray n }/\xs.length<=sizeLine:=by
 obtain ⟨z,its,n,r,e⟩:=I.hok p _ h;exact ⟨its,n,r,e,z⟩
theorem Inv.lstUpd {pins:List (Addr×Obj)} {σ:St} {H:Hp} {s:Shared} {p:Addr} {xs ys:List V} {its its':List Value} {n n':Nat} {f:Obj->Obj} (I:Inv X pins σ H s) (h:H p=some (.lst xs))
  (ho:s.heap.get? p=some { cls:=.type "list", data:=.seq its.toArray n }) (hf:f { cls:=.type "list", data:=.seq its.toArray n }={ cls:=.type "list", data:=.seq its'.toArray n' }) (r:zE ys its') (hz:ys.length<=sizeLine) (t:Nat) :
  Inv X pins σ (yH H p (.lst ys)) { s with heap:=s.heap.update p f,toks:=t }:=by
 have e:(s.heap.update p f).get? p=some { cls:=.type "list", data:=.seq its'.toArray n' }:=by
  rw [Zr f ho (by rw [hf]<;>rfl),hf]
 refine I.write (x:=p) (e:=p) (by rw [h];trivial) (.inl rfl) (fun b u hb q=>(Zm _ _ (Ne.symm hb)).trans q) ⟨_,e⟩ ?_;exact ⟨hz,its',n',r,e⟩
def rSetL:V->V->V->Hp->(Hp->Prop)->Prop:=fun o i v H Q=>∃ p xs k j,o=.ref p/\i=.int k/\H p=some (.lst xs)/\cZ xs.length k=some j/\Q (yH H p (.lst (xs.set j v)))
theorem zdq:PSet X rSetL:=by
 intro pins s σ H o i v ov iv u Q I ro ri rv h;obtain ⟨p,xs,k,j,rfl,rfl,hp,hj,q⟩:=h;cases ro;obtain ⟨t,rfl⟩:=ri;obtain ⟨its,n,r,ho,hz⟩:=I.lst hp;obtain ⟨h1,h2,h3,h4⟩:=zcl hj;have hl:=r.length;have hn:=uF
 have I':Inv X pins σ (yH H p (.lst (xs.set j v))) { s with heap:=s.heap.update p (Obj.mapSeq (·.setIfInBounds j u)) } :=
  I.lstUpd hp ho (zaX its n j u) (r.set rv j) (by rw [ZbN];exact hz) s.toks
 by_cases h0:0<=k
 .have hk:k.toNat=j:=by
   rw [seqIndex_of h0 h4] at h1;exact Zz h1
  exact PySem.W.ki_setAt ho h0 (by omega) (by rw [zzS,← hl];exact h4) (by rw [hk];exact ⟨_,I',q⟩)
 .have hk:(k+(its.toArray.size:Int)).toNat=j:=by
   rw [seqIndex_neg (by omega) h3] at h1;rw [zzS,← hl];exact Zz h1
  exact PySem.W.ki_setBack ho (by omega) (by rw [zzS,← hl];exact h3) (by omega) (by rw [hk];exact ⟨_,I',q⟩)
theorem dQ (lo hi:Option Int) (n:Nat):(sliceBounds lo hi none n).1=((HT.wY n 0 lo:Nat):Int)/\(sliceBounds lo hi none n).2.1=((HT.wY n n hi:Nat):Int)/\(sliceBounds lo hi none n).2.2=1:=by
 refine ⟨?_,?_,rfl⟩
 .cases lo with
  |none=>simp [sliceBounds,HT.wY]
  |some i =>
   simp only [sliceBounds,HT.wY,Option.getD_none,show (1:Int) > 0 by decide,if_true]
   by_cases h:i<0
   .simp only [h,if_true]<;>omega
   .simp only [h,if_false]<;>omega
 .cases hi with
  |none=>simp [sliceBounds,HT.wY]
  |some i =>
   simp only [sliceBounds,HT.wY,Option.getD_none,show (1:Int) > 0 by decide,if_true]
   by_cases h:i<0
   .simp only [h,if_true]<;>omega
   .simp only [h,if_false]<;>omega
theorem mQ (its:List Value) (lo hi:Option Int):slicePick its.toArray lo hi none=((its.drop (HT.wY its.length 0 lo)).take (HT.wY its.length its.length hi-HT.wY its.length 0 lo)).toArray:=by
 obtain ⟨h1,h2,h3⟩:=dQ lo hi its.toArray.size;unfold slicePick;rw [h1,h2,h3];simp only [sliceRange_one,pick_run,zzS]<;>rfl
def rSlL (K:PySem.W.Frag):V->Option Int->Option Int->Hp->VK->Prop:=fun x lo hi H Q=>∃ a xs,x=.ref a/\rQ K H a xs/\∀ p,H p=none->Q (.ref p) (yH H p (.lst (cutV xs lo hi)))
theorem zbC:SlR X (rSlL X.K):=by
 intro pins s σ H x v vl vu lo hi sl Q I rx hs pl pu h;obtain ⟨a,xs,rfl,hx,q⟩:=h;cases rx;obtain ⟨its,r,ht,hz⟩:=I.list hx;have hlen:=r.length;refine ⟨"list", _,slot_list_getitem.lookup,ht.isList.typeIs,?_⟩;refine wpAny_getItem_list_slice ht.isList hs pl pu .none (by simp) ?_ (by rw [zzS]<;>omega);rw [mQ,← hlen];refine ⟨.ref s.heap.objs.size,_,I.laid (t':=s.toks) (o:=.lst (cutV xs lo hi)) (fun b ob q=>Zb _ q) (zzR _) ?_,rfl,q _ (I.hok.fresh (zzR _))⟩;exact ⟨Zy (rT xs lo hi) hz,_,0,(r.drop (HT.wY xs.length 0 lo)).take (HT.wY xs.length xs.length hi-HT.wY xs.length 0 lo),Zd _ rfl⟩
theorem dH:kX X (compareOp .NotIn) (fun x y H Q=>∃ i j,x=.str i/\y=.str j/\Q (.bl (!(!(Builtin.Str.occurrences j i 0 j.length 1).isEmpty))) H):=by
 intro pins s σ H x y v u Q I rx ry h;obtain ⟨i,j,rfl,rfl,q⟩:=h;obtain ⟨t,rfl⟩:=rx;obtain ⟨t',rfl⟩:=ry;exact notIn_str ⟨.bl _,H,I,rfl,q⟩
theorem kK:xD X (.builtin "len") (fun xs H Q=>∃ p ys,xs=[.ref p]/\(rQ X.K H p ys\/tB X.K H p ys)/\Q (.int ys.length) H):=by
 intro pins s σ H xs us Q I r h;obtain ⟨p,ys,rfl,hq,q⟩:=h;obtain ⟨u,rfl,rx⟩:=jT r;cases rx;have hn:=uF;rcases hq with hq|hq
 .obtain ⟨its,r',pl,hz⟩:=I.list hq;have hlen:=r'.length;exact Calls.call_len_list pl.isList (by simp only [zzS]<;>omega) ⟨.int ys.length,H,I.tok _,⟨s.toks+1,by rw [zzS,hlen]⟩,q⟩
 .obtain ⟨its,r',pl,hz⟩:=I.tuple hq;have hlen:=r'.length;exact len_tuple pl (by simp only [zzS]<;>omega) ⟨.int ys.length,H,I.tok _,⟨s.toks+1,by rw [zzS,hlen]⟩,q⟩
theorem cE:xD X (.builtin "len") (fun xs H Q=>∃ z,xs=[.str z]/\z.length<=sizeLine/\Q (.int z.length) H):=by
 intro pins s σ H xs us Q I r h;obtain ⟨z,rfl,hz,q⟩:=h;obtain ⟨u,rfl,t,rfl⟩:=jT r;have hn:=uF;exact len_str (by omega) ⟨.int z.length,H,I.tok _,⟨_,rfl⟩,q⟩
theorem cF:xD X (.type "list") (fun xs H Q=>∃ p ys,xs=[.ref p]/\(rQ X.K H p ys\/tB X.K H p ys)/\∀ l,H l=none->Q (.ref l) (yH H l (.lst ys))):=by
 intro pins s σ H xs us Q I r h;obtain ⟨p,ys,rfl,hq,q⟩:=h;obtain ⟨u,rfl,rx⟩:=jT r;cases rx
 have fin:∀ (its:List Value),zE ys its->ys.length<=sizeLine->∀ (h':Heap) (c':Nat),(∀ b o',s.heap.get? b=some o'->h'.get? b=some o') ->
   h'.get? s.heap.objs.size=some { cls:=.type "list", dict:=none,data:=.seq its.toArray c',slots:=#[] }->EP X pins σ Q (.ref s.heap.objs.size) { s with heap:=h' }:=fun its r' hz h' c' kp e =>
  ⟨.ref s.heap.objs.size,_,I.laid (t':=s.toks) kp (zzR _) (show xR X.prog X.w _ h' _ (.lst ys) from ⟨hz,its,c',r',e⟩),rfl,q _ (I.hok.fresh (zzR _))⟩
 rcases hq with hq|hq
 .obtain ⟨its,r',pl,hz⟩:=I.list hq;have hlen:=r'.length;obtain ⟨o,ho,hc,n,hd⟩:=pl.isList;exact call_list_seq p (.inl rfl) ho hc hd (fun h' c' kp e=>fin its r' hz h' c' kp e) (by simp only [zzS]<;>omega)
 .obtain ⟨its,r',pl,hz⟩:=I.tuple hq;have hlen:=r'.length;obtain ⟨o,ho,hc,n,hd⟩:=pl;exact call_list_seq p (.inr rfl) ho hc hd (fun h' c' kp e=>fin its r' hz h' c' kp e) (by simp only [zzS]<;>omega)
theorem hW:xD X (.type "tuple") (fun xs H Q=>∃ p ys,xs=[.ref p]/\((rQ X.K H p ys/\∀ l,H l=none->Q (.ref l) (yH H l (.tup ys)))\/(tB X.K H p ys/\Q (.ref p) H))):=by
 intro pins s σ H xs us Q I r h;obtain ⟨p,ys,rfl,h⟩:=h;obtain ⟨u,rfl,rx⟩:=jT r;cases rx;rcases h with ⟨hq,q⟩|⟨hq,q⟩
 .obtain ⟨its,r',pl,hz⟩:=I.list hq;have hlen:=r'.length;refine call_tuple_list pl.isList (fun h' kp=>?_) (by simp only [zzS]<;>omega);have I1:Inv X pins σ H { s with heap:=h' }:=I.kept (t':=s.toks) kp
  have I2:Inv X pins σ (yH H h'.objs.size (.tup ys)) { s with heap:=h'.push { cls:=.type "tuple", data:=.seq its.toArray } } :=
   I1.laid (t':=s.toks) (fun b o e=>Zb _ e) (zzR _) (show xR X.prog X.w _ _ _ (.tup ys) from ⟨hz,its,r',ZcC _ _⟩)
  exact ⟨.ref h'.objs.size,_,I2,rfl,q _ (I1.hok.fresh (zzR _))⟩
 .obtain ⟨its,r',pl,hz⟩:=I.tuple hq;exact call_tuple_same pl ⟨.ref p,H,I,rfl,q⟩
def tyV (K:PySem.W.Frag) (T:String) (x:V) (H:Hp):Prop:=match x with
 | .str _=>T = "str"
 | .int _=>T = "int"
 | .ref p=>(T = "list" /\ ∃ xs,rQ K H p xs)\/(T = "tuple" /\ ∃ o,K.lookup p=some o/\o.cls=.type "tuple" /\ o.dict=none) \/
   (T = "dict" /\ ((∃ kvs,H p=some (.dK kvs))\/∃ kvs,H p=some (.dT kvs)))\/(T = "set" /\ ∃ S n,H p=some (.set S n))
 |_=>False
theorem zeE {pins:List (Addr×Obj)} {σ:St} {H:Hp} {s:Shared} {T:String} {x:V} {v:Value} (I:Inv X pins σ H s) (r:zB x v) (ty:tyV X.K T x H) :
  s.TypeIs v T/\∀ a,v=.ref a->∃ ob,s.heap.get? a=some ob/\ob.dict=none:=by
 cases x with
 |str z =>
  obtain ⟨t,rfl⟩:=r;cases (show T = "str" from ty);exact ⟨typeIs_str s z t,fun _ e=>nomatch e⟩
 |int i =>
  obtain ⟨t,rfl⟩:=r;cases (show T = "int" from ty);exact ⟨ZbM s i t,fun _ e=>nomatch e⟩
 |ref p =>
  cases r;rcases ty with ⟨rfl,xs,hq⟩|⟨rfl,o,hk,hc,hd⟩|⟨rfl,hk⟩|⟨rfl,S,n,hk⟩
  .obtain ⟨its,_,pl,_⟩:=I.list hq;refine ⟨pl.isList.typeIs,fun a e=>?_⟩;cases e;obtain ⟨o,n,e,c,hd,_⟩:=pl;exact ⟨o,e,hd⟩
  .refine ⟨⟨o,I.kIn p o hk,hc⟩,fun a e=>?_⟩;cases e;exact ⟨o,I.kIn _ o hk,hd⟩
  .have z:∃ o,s.heap.get? p=some o/\o.ExactDict:=by
    rcases hk with ⟨kvs,hk⟩|⟨kvs,hk⟩
    .obtain ⟨_,_,_,_,o,_,_,e,ex,_⟩:=I.hok p _ hk;exact ⟨o,e,ex⟩
    .obtain ⟨_,_,_,_,o,_,_,e,ex,_⟩:=I.hok p _ hk;exact ⟨o,e,ex⟩
   obtain ⟨o,e,ex⟩:=z;refine ⟨⟨o,e,ex.1⟩,fun a e2=>?_⟩;cases e2;exact ⟨o,e,ex.2.1⟩
  .obtain ⟨o,_,_,_,e,ex,_⟩:=I.hok p _ hk;refine ⟨⟨o,e,ex.1⟩,fun a e2=>?_⟩;cases e2;exact ⟨o,e,ex.2.1⟩
 |_=>exact False.elim ty
def tBM0 (K:PySem.W.Frag) (T:String) (r:V->List V->Hp->VK->Prop) (to:TE):TE:=fun σ H Q=>to σ H fun x H1=>tyV K T x H1/\r x [] H1 Q
def tBM (K:PySem.W.Frag) (T:String) (r:V->List V->Hp->VK->Prop) (to:TE) (t:TA):TE:=fun σ H Q=>to σ H fun x H1=>tyV K T x H1/\t σ H1 fun xs H2=>r x xs H2 Q
variable {o e : Expr} {es : List Expr} {to : TE} {t : TA} {name : Str} {apos cpos : Pos} {T id : String} {r : V → List V → Hp → VK → Prop}
theorem ziv (pa:PlainAttrs T) (slot:Slot T name id) (hty:typeOf (.builtin id)=pure (.type "method_descriptor")) (hm:MtR X id r) (ho:PE X o to)
  (hbase:attributeBase o name X.env (eval o X.env)=eval o X.env:=by rfl) (hline:(apos.endLine==cpos.line)=true:=by rfl):PE X (.Call (.Attribute o name apos) [] [] cpos) (tBM0 X.K T r to):=by
 intro pins s σ H Q I h;refine wpAny_Call_method0_late hbase hline (yG (ho pins s σ H _ I h) fun v s1 ⟨x,H1,I1,r1,ty,q1⟩=>?_);obtain ⟨h1,h2⟩:=zeE I1 r1 ty;exact ⟨T,id,pa,slot,hty,h1,h2,Calls.callWith_builtin rfl (PySem.evalArgs_none (hm pins s1 σ H1 x [] v [] Q I1 r1 .nil q1))⟩
theorem pe_bm (pa:PlainAttrs T) (slot:Slot T name id) (hty:typeOf (.builtin id)=pure (.type "method_descriptor")) (hm:MtR X id r) (ho:PE X o to) (ha:PA X (e::es) t)
  (hbase:attributeBase o name X.env (eval o X.env)=eval o X.env:=by rfl)
  (hfew:((backTo cpos (starEach (e::es) X.env)).all (fun x=>!x.1)&&(backToKw cpos (keywordEach [] X.env)).all (fun x=>x.1.isSome)
   && decide ((e::es).length+([]:List Keyword).length+(if ([]:List Keyword).isEmpty then 0 else 1)<30))=true:=by rfl)
  (hline:(apos.endLine==cpos.line)=true:=by rfl) (hs:starEach (e::es) X.env=(false,eval e X.env)::starEach es X.env:=by rfl) (hplain:(backTo cpos (starEach es X.env)).any (·.1)=false:=by rfl) :
  PE X (.Call (.Attribute o name apos) (e::es) [] cpos) (tBM X.K T r to t):=by
 intro pins s σ H Q I h;refine wpAny_Call_method_late hbase hfew hline rfl (yG (ho pins s σ H _ I h) fun v s1 ⟨x,H1,I1,r1,ty,q1⟩=>?_);obtain ⟨h1,h2⟩:=zeE I1 r1 ty;refine ⟨T,id,pa,slot,hty,h1,h2,?_⟩;have hA:=ha cpos pins s1 σ H1 _ I1 q1;rw [hs] at hA ⊢;refine Calls.callWith_builtin (by show (false || (backTo cpos (starEach es X.env)).any (·.1))=false;rw [hplain]<;>rfl) (Calls.evalArgs_plain ?_);exact yG hA fun us s2 ⟨vs,H2,I2,r2,q2⟩=>hm pins s2 σ H2 x vs v us Q I2 r1 r2 q2
/- xs.append(e),list.index on a module's tuple .. are MtR facts of 06m -/
end
end L2
namespace L2
open PySem PySem.Spec PyProof.Rows
def MtM (X:Cx) (id:String) (r:V->List V->Hp->VK->Prop):Prop :=
 ∀ (pins:List (Addr×Obj)) (s:Shared) (σ:St) (H:Hp) (x:V) (xs:List V) (v:Value) (us:List Value) (Q:VK),Inv X pins σ H s->zB x v->zE xs us->r x xs H Q ->
  wpAny (model X.prog X.w) X.A (call (.builtin id) (v::us)) (EP X pins σ Q) X.xe s
theorem zE.one:∀ {x:V} {us:List Value},zE [x] us->∃ u,us=[u]/\zB x u
 |_,_,.cons r .nil=>⟨_,rfl,r⟩
theorem zE.zero:∀ {us:List Value},zE [] us->us=[]
 |_,.nil=>rfl
theorem zE.dropLast {xs:List V} {us:List Value} (h:zE xs us):zE xs.dropLast us.dropLast:=by
 induction h with
 |nil=>exact .nil
 |cons r t ih =>
  cases t with
  |nil=>exact .nil
  |cons q t'=>exact .cons r ih
theorem zE.reverse {xs:List V} {us:List Value} (h:zE xs us):zE xs.reverse us.reverse:=by
 induction h with
 |nil=>exact .nil
 |cons r t ih=>rw [ZaR,ZaR];exact zE.append ih (.cons r .nil)
theorem zE.rep {xs:List V} {us:List Value} (h:zE xs us):∀ k:Nat,zE (List.replicate k xs).flatten (List.replicate k us).flatten
 | 0=>.nil
 |k+1=>by
  rw [Zao,Zao,ZaQ,ZaQ];exact zE.append h (zE.rep h k)
theorem za5 {α:Type} (l:List α):l.eraseIdx (l.length-1)=l.dropLast:=by
 induction l with
 |nil=>rfl
 |cons a r ih =>
  cases r with
  |nil=>rfl
  |cons b r =>
   have e:(a::b::r).length-1=((b::r).length-1)+1:=by
    have h1:(a::b::r).length=r.length+2:=rfl;have h2:(b::r).length=r.length+1:=rfl;omega
   rw [e,List.eraseIdx_cons_succ,ih]
   all_goals rfl
theorem fN (its:List Value):∀ (k:Nat) (acc:List Value),
  List.foldl (fun x1 x2=>x1++x2) acc.toArray (List.replicate k its.toArray)=(acc++(List.replicate k its).flatten).toArray
 | 0,acc=>by simp
 |k+1,acc=>by
  have e:acc.toArray++its.toArray=(acc++its).toArray:=by simp
  have e2:(acc++its)++(List.replicate k its).flatten=acc++(List.replicate (k+1) its).flatten:=by
   rw [Zao,ZaQ,List.append_assoc]
  rw [← e2,← fN its k (acc++its),← e,Zao,List.foldl_cons]
section
variable {X : Cx} {pins : List (Addr × Obj)} {σ : St} {H : Hp} {s : Shared} {l b : Addr} {xs ys zs : List V}
theorem Inv.lset {its its':List Value} {n:Nat} {f:Array Value->Array Value} {t':Nat} (I:Inv X pins σ H s) (hH:H l=some (.lst xs))
  (e:s.heap.get? l=some { cls:=.type "list", data:=.seq its.toArray n }) (hf:f its.toArray=its'.toArray) (hv:zE ys its') (hz:ys.length<=sizeLine) :
  Inv X pins σ (yH H l (.lst ys)) { s with heap:=s.heap.update l (Obj.mapSeq f),toks:=t' }:=by
 have q:=PySem.IsL.update e f;rw [hf] at q;refine I.write (x:=l) (e:=l) (by rw [hH];exact trivial) (.inl rfl) (fun b' u hb hu=>(Zm s.heap (Obj.mapSeq f) (Ne.symm hb)).trans hu) ⟨_,q⟩ ?_;exact ⟨hz,its',_,hv,q⟩
theorem Inv.lnew {its:List Value} {t':Nat} (I:Inv X pins σ H s) (hv:zE ys its) (hz:ys.length<=sizeLine) :
  Inv X pins σ (yH H s.heap.objs.size (.lst ys)) { s with heap:=s.heap.push { cls:=.type "list", data:=.seq its.toArray },toks:=t' } :=
 I.laid (fun _ _ q=>Zb _ q) (zzR _) ⟨hz,its,0,hv,Zd _ rfl⟩
theorem Inv.fresh (I:Inv X pins σ H s):H s.heap.objs.size=none:=I.hok.fresh (zzR _)
theorem Inv.lstM (I:Inv X pins σ H s) (hH:H l=some (.lst xs)):xs.length<=sizeLine/\∃ (its:List Value) (n:Nat),zE xs its/\xs.length=its.length/\s.heap.get? l=some { cls:=.type "list", data:=.seq its.toArray n }:=by
 obtain ⟨z,its,n,r,e⟩:=I.hok l _ hH;exact ⟨z,its,n,r,r.length,e⟩
theorem zdO {n:Nat} (h:n<=sizeLine):Builtin.List.listTooLong n=false:=by
 unfold Builtin.List.listTooLong;exact decide_eq_false (by omega)
end
section
variable {X : Cx}
def zfQ:V->List V->Hp->VK->Prop:=fun x vs H Q=>∃ l xs y,x=.ref l/\vs=[y]/\H l=some (.lst xs)/\xs.length<sizeLine/\Q .non (yH H l (.lst (xs++[y])))
theorem zb6:MtM X "list.append" zfQ:=by
 intro pins s σ H x vs v us Q I rx rv h;obtain ⟨l,xs,y,rfl,rfl,hH,hz,q⟩:=h;cases rx;obtain ⟨u,rfl,ru⟩:=rv.one;obtain ⟨z,its,n,r,hl,e⟩:=I.lstM hH;refine Zbz F.slot_list_append ⟨_,e,rfl⟩ F.entry_list_append (F.args_list_append_2 _ _) (PySem.list_append l its.toArray n u (by rw [zzS];omega)) ⟨e,?_⟩;refine ⟨.non,_,I.lset (its':=its++[u]) hH e (by simp) (r.append (.cons ru .nil)) ?_,rfl,q⟩;rw [zzW,List.length_singleton];omega
def rPop:V->List V->Hp->VK->Prop:=fun x vs H Q=>∃ l xs y,x=.ref l/\vs=[]/\H l=some (.lst xs)/\xs[xs.length-1]?=some y/\Q y (yH H l (.lst xs.dropLast))
theorem ziL:MtM X "list.pop" rPop:=by
 intro pins s σ H x vs v us Q I rx rv h;obtain ⟨l,xs,y,rfl,rfl,hH,hy,q⟩:=h;cases rx;have hus:=rv.zero;subst hus;obtain ⟨z,its,n,r,hl,e⟩:=I.lstM hH;obtain ⟨u,hu,ru⟩:=r.get hy
 have hy':its.toArray[its.toArray.size-1]?=some u:=by
  show its.toArray[its.length-1]?=some u;rw [← ZQ,← hl];exact hu
 refine Zbz F.slot_list_pop ⟨_,e,rfl⟩ F.entry_list_pop (F.args_list_pop_1 _) (MeetsSeq.list_pop_last l its.toArray n u hy' (by rw [zzS];omega)) ⟨e,?_⟩;refine ⟨y,_,I.lset (its':=its.dropLast) hH e ?_ r.dropLast ?_,ru,q⟩
 .show its.toArray.eraseIdxIfInBounds (its.toArray.size-1)=its.dropLast.toArray;rw [zzS,List.eraseIdxIfInBounds_toArray,za5]
 .rw [ZbI];omega
def rCat:R2:=fun x y H Q=>∃ l b xs zs,x=.ref l/\y=.ref b/\H l=some (.lst xs)/\H b=some (.lst zs)/\xs.length+zs.length<=sizeLine/\∀ p,H p=none->Q (.ref p) (yH H p (.lst (xs++zs)))
theorem ziD:kX X (binaryOp .Add) rCat:=by
 intro pins s σ H x y v u Q I rx ry h;obtain ⟨l,b,xs,zs,rfl,rfl,hH,hB,hz,q⟩:=h;cases rx;cases ry;obtain ⟨z,its,n,r,hl,e⟩:=I.lstM hH;obtain ⟨z2,its2,n2,r2,hl2,e2⟩:=I.lstM hB;refine PySem.P.add_list e e2 ?_ (by rw [zzS,zzS];omega);have ea:its.toArray++its2.toArray=(its++its2).toArray:=by simp
 rw [ea];exact ⟨.ref _,_,I.lnew (t':=s.toks) (r.append r2) (by rw [zzW];omega),rfl,q _ I.fresh⟩
def rRep:R2:=fun x y H Q=>∃ l k xs,x=.ref l/\y=.int k/\H l=some (.lst xs)/\-(2 ^ 63)<=k/\k<2 ^ 63/\xs.length * k.toNat<=sizeLine /\
 ∀ p,H p=none->Q (.ref p) (yH H p (.lst (List.replicate k.toNat xs).flatten))
theorem zgi {α:Type} (xs:List α) (k:Nat):(List.replicate k xs).flatten.length=k * xs.length:=by
 induction k with
 |zero=>simp
 |succ k ih=>rw [Zao,ZaQ,zzW,ih,Nat.succ_mul,Nat.add_comm]
theorem ziz:kX X (binaryOp .Mult) rRep:=by
 intro pins s σ H x y v u Q I rx ry h;obtain ⟨l,k,xs,rfl,rfl,hH,h1,h2,hz,q⟩:=h;cases rx;obtain ⟨t,rfl⟩:=ry;obtain ⟨z,its,n,r,hl,e⟩:=I.lstM hH;have hlen:its.toArray.size * k.toNat<=sizeLine:=by rw [zzS,← hl];exact hz
 have hcap:¬ its.toArray.size * k.toNat > (2 ^ 63-1) / 8:=by
  have:(sizeLine:Nat)<=(2 ^ 63-1) / 8:=by decide
  omega
 have hfit:¬ (!Builtin.List.listFitsIndex k)=true:=by
  rw [fitsIndex_both h1 h2];exact zzN
 have hlong:¬ Builtin.List.listTooLong (its.toArray.size * k.toNat)=true:=by
  rw [zdO hlen];exact zzN
 have hnew:List.foldl (fun x1 x2=>x1++x2) #[] (List.replicate (if its.toArray.isEmpty=true then 0 else k.toNat) its.toArray)=(List.replicate k.toNat its).flatten.toArray:=by
  have f0:∀ m:Nat,List.foldl (fun x1 x2=>x1++x2) #[] (List.replicate m its.toArray)=(List.replicate m its).flatten.toArray:=fun m=>by
   have:=fN its m [];rw [ZZ] at this;exact this
  rw [f0]
  cases its with
  |nil=>simp
  |cons a r'=>rw [if_neg (by simp)]
 refine Zbd (T := "list") (U := "int") (by decide) ⟨_,e,rfl⟩ (fun s'=>ZbM s' k t) noFill_list_mul Zcm Za3 repeat_list Zcg.lookup
  (Zbz Za3 (ZbM s k t) Zcf (Zb3 _ _) (int___rmul___int_list k t l its.toArray n)
   ⟨e,rfl,⟨_,e,rfl⟩,Zbz F.slot_list_mul ⟨_,e,rfl⟩ F.entry_list_mul (F.args_list_mul_2 _ _) (AutoListH.list___mul___list_int_3 l its.toArray n k t hfit hcap hlong) ⟨e,?_⟩⟩)
 rw [hnew];exact ⟨.ref _,_,I.lnew (t':=s.toks) (r.rep k.toNat) (by rw [zgi,Nat.mul_comm];exact hz),rfl,q _ I.fresh⟩
end
section
variable {prog : Program} {w : World} {A : Around} {E : Value → Shared → Prop} {s : Shared}
set_option maxRecDepth 100000 in
end
section
variable {X : Cx}
end
end L2
namespace L2
open PySem PySem.Spec PyProof.Rows
section
variable {κ : Type} [DecidableEq κ]
def kB (kvs:List (κ×V)) (k:κ):Option V:=(kvs.find? fun kv=>decide (kv.1=k)).map (·.2)
def vZ (kvs:List (κ×V)) (k:κ) (v:V):List (κ×V) :=
 if (kvs.any fun kv=>decide (kv.1=k))=true then kvs.map (fun kv=>if kv.1=k then (kv.1,v) else kv) else kvs++[(k,v)]
theorem pV {p:κ×V} {r:List (κ×V)} {k:κ} (e:p.1=k):kB (p::r) k=some p.2:=by simp [kB,ZY,e]
theorem pU {p:κ×V} {r:List (κ×V)} {k:κ} (e:¬ p.1=k):kB (p::r) k=kB r k:=by simp [kB,ZY,e]
theorem bL (k:κ):∀ kvs:List (κ×V),(kvs.any fun kv=>decide (kv.1=k))=(kB kvs k).isSome
 | []=>rfl
 |p::r=>by
  rw [ZaG]
  by_cases e:p.1=k
  .simp only [pV e,decide_eq_true e,Bool.true_or,Option.isSome_some]
  .rw [pU e,decide_eq_false e,ZcB];exact bL k r
theorem vH (kvs:List (κ×V)) (k:κ) (v:V):(vZ kvs k v).length<=kvs.length+1:=by
 unfold vZ
 split
 .rw [zzM];omega
 .rw [zzW,Zh,Zs];omega
theorem uA.isSome_eq {o:Option V} {u:Option Value} (r:uA o u):o.isSome=u.isSome:=by
 cases o with
 |none=>cases u with
  |none=>rfl
  |some _=>exact (show False from r).elim
 |some _=>cases u with
  |none=>exact (show False from r).elim
  |some _=>rfl
theorem KV.val {kvs:List (κ×V)} {vs:List (κ×Value)} (r:KV kvs vs) (k:κ):uA (kB kvs k) (valueAt vs k):=by
 unfold KV at r
 induction r with
 |nil=>exact True.intro
 | @cons p q ps qs h t ih =>
  obtain ⟨h1,h2⟩:=h
  by_cases e:p.1=k
  .have e':q.1=k:=h1.symm.trans e;have b:valueAt (q::qs) k=some q.2:=by simp [valueAt,ZY,e']
   rw [pV e,b];exact h2
  .have e':¬ q.1=k:=fun z=>e (h1.trans z);have b:valueAt (q::qs) k=valueAt qs k:=by simp [valueAt,ZY,e']
   rw [pU e,b];exact ih
theorem KV.any {kvs:List (κ×V)} {vs:List (κ×Value)} (r:KV kvs vs) (k:κ):(kvs.any fun kv=>decide (kv.1=k))=vs.any fun kv=>decide (kv.1=k):=by
 unfold KV at r
 induction r with
 |nil=>rfl
 |cons h t ih=>rw [ZaG,ZaG,ih,h.1]
theorem KV.repl {kvs:List (κ×V)} {vs:List (κ×Value)} (r:KV kvs vs) (k:κ) {y:V} {u:Value} (ry:zB y u) :
  KV (kvs.map fun kv=>if kv.1=k then (kv.1,y) else kv) (vs.map fun kv=>if kv.1=k then (kv.1,u) else kv):=by
 unfold KV at r ⊢
 induction r with
 |nil=>exact .nil
 | @cons p q ps qs h t ih =>
  rw [zzU,zzU];refine .cons ?_ ih;obtain ⟨h1,h2⟩:=h
  by_cases e:p.1=k
  .rw [if_pos e,if_pos (h1.symm.trans e)];exact ⟨h1,ry⟩
  .rw [if_neg e,if_neg (fun z=>e (h1.trans z))];exact ⟨h1,h2⟩
theorem KV.put {kvs:List (κ×V)} {vs:List (κ×Value)} (r:KV kvs vs) (k:κ) {y:V} {u:Value} (ry:zB y u):KV (vZ kvs k y) (stored vs k u):=by
 unfold vZ stored;rw [r.any k]
 by_cases e:(vs.any fun kv=>decide (kv.1=k))=true
 .rw [if_pos e,if_pos e];exact r.repl k ry
 .rw [if_neg e,if_neg e];exact Paired.snoc r ⟨rfl,ry⟩
theorem KV.keys {kvs:List (κ×V)} {vs:List (κ×Value)} (r:KV kvs vs):kvs.map (·.1)=vs.map (·.1):=by
 unfold KV at r
 induction r with
 |nil=>rfl
 |cons h t ih=>rw [zzU,zzU,ih,h.1]
theorem KV.length {kvs:List (κ×V)} {vs:List (κ×Value)} (r:KV kvs vs):kvs.length=vs.length:=Zcb r
end
theorem fX {P:Program} {w:World} {k:yM} {u:Value} (r:zB (kV k) u):(xK P w).is k u=true:=by
 cases k with
 |inl i=>obtain ⟨t,e⟩:=(show ∃ t,u=Value.int i t from r);subst e;exact zag P w i t
 |inr x=>obtain ⟨t,e⟩:=(show ∃ t,u=Value.str x t from r);subst e;exact zaf P w x t
theorem fV {P:Program} {w:World}:∀ {ks:List yM} {us:List Value},zE (ks.map kV) us->ItemsAre (xK P w) ks us
 | [],_,r=>by rw [zzV] at r;cases r;exact .nil
 |k::ks,_,r=>by
  rw [zzU] at r
  cases r with
  |cons h t=>exact .cons (fX h) (fV t)
abbrev KT (H:Hp):List (List yM×V)->List (List yM×Addr×Value)->Prop:=Paired fun p q=>p.1=q.1/\H q.2.1=some (.tup (p.1.map kV))/\zB p.2 q.2.2
theorem KT.val {H:Hp} {kvs:List (List yM×V)} {xs:List (List yM×Addr×Value)} (r:KT H kvs xs) (k:List yM):uA (kB kvs k) ((atKey xs k).map (·.2)):=by
 induction r with
 |nil=>exact True.intro
 | @cons p q ps qs h t ih =>
  obtain ⟨h1,_,h2⟩:=h
  by_cases e:p.1=k
  .have e':q.1=k:=h1.symm.trans e;have b:atKey (q::qs) k=some q.2:=by simp [atKey,ZY,e']
   rw [pV e,b];exact h2
  .have e':¬ q.1=k:=fun z=>e (h1.trans z);have b:atKey (q::qs) k=atKey qs k:=by simp [atKey,ZY,e']
   rw [pU e,b];exact ih
theorem KT.repl {H:Hp} {kvs:List (List yM×V)} {xs:List (List yM×Addr×Value)} (r:KT H kvs xs) (k:List yM) {y:V} {u:Value} (ry:zB y u) :
  KT H (kvs.map fun kv=>if kv.1=k then (kv.1,y) else kv) (xs.map (putAt k u)):=by
 induction r with
 |nil=>exact .nil
 | @cons p q ps qs h t ih =>
  rw [zzU,zzU];refine .cons ?_ ih;obtain ⟨h1,h2,h3⟩:=h;unfold putAt
  by_cases e:p.1=k
  .rw [if_pos e,if_pos (h1.symm.trans e)];exact ⟨h1,h2,ry⟩
  .rw [if_neg e,if_neg (fun z=>e (h1.trans z))];exact ⟨h1,h2,h3⟩
theorem KT.put {H:Hp} {kvs:List (List yM×V)} {xs:List (List yM×Addr×Value)} (r:KT H kvs xs) (k:List yM) {b:Addr} {y:V} {u:Value} (hb:H b=some (.tup (k.map kV))) (ry:zB y u) :
  KT H (vZ kvs k y) (storedH xs k b u):=by
 have e:(kvs.any fun kv=>decide (kv.1=k))=(atKey xs k).isSome:=by
  rw [bL,(r.val k).isSome_eq,Zb6]
 unfold vZ storedH;rw [e]
 by_cases q:(atKey xs k).isSome=true
 .rw [if_pos q,if_pos q];exact r.repl k ry
 .rw [if_neg q,if_neg q];exact Paired.snoc r ⟨rfl,hb,ry⟩
theorem KT.keeps {H H':Hp} {kvs:List (List yM×V)} {xs:List (List yM×Addr×Value)} (r:KT H kvs xs) (ht:∀ b ys,H b=some (.tup ys)->H' b=some (.tup ys)):KT H' kvs xs :=
 Paired.mapP r fun _ _ z=>⟨z.1,ht _ _ z.2.1,z.2.2⟩
section
variable {P : Program} {w : World} {H : Hp} {h : Heap} {a : Addr}
theorem zh7 {u:HO} (ok:vS P w H h) (e:Rd H a u):xR P w H h a u:=e.ok ok
theorem rV {kvs:List (yM×V)} (ok:vS P w H h) (e:Rd H a (.dK kvs)):kvs.length<=sizeLine/\(a==sysModules)=false/\∃ vs,KV kvs vs/\h.DictOf (xK P w) a vs :=
 show xR P w H h a (.dK kvs) from zh7 ok e
theorem zjD {kvs:List (yM×V)} (ok:vS P w H h) (e:H a=some (.dK kvs)):kvs.length<=sizeLine/\(a==sysModules)=false/\∃ vs,KV kvs vs/\h.DictOf (xK P w) a vs:=rV ok (.inl e)
theorem nQ {ks:List yM} (ok:vS P w H h) (e:H a=some (.tup (ks.map kV))):(tupleKind (xK P w)).is h ks a:=by
 obtain ⟨_,its,r,o,h1,h2,n,h3⟩:=(show xR P w H h a (.tup (ks.map kV)) from ok a _ e);exact ⟨o,its.toArray,n,h1,h2,h3,by simpa using fV r⟩
theorem zcG {kvs:List (List yM×V)} (ok:vS P w H h) (e:Rd H a (.dT kvs)):kvs.length<=sizeLine/\(a==sysModules)=false /\
  ∃ xs,KT H kvs xs/\h.DictOfH (tupleKind (xK P w)) a xs:=by
 obtain ⟨z,y,xs,r,o,es,ep,h1,h2,h3,h4,h5⟩:=(show xR P w H h a (.dT kvs) from zh7 ok e);refine ⟨z,y,xs,r,o,es,ep,h1,h2,h3,h4,fun x hx=>?_,h5⟩
 have all:∀ {l:List (List yM×V)} {m:List (List yM×Addr×Value)},KT H l m->∀ x∈m,(tupleKind (xK P w)).is h x.1 x.2.1:=by
  intro l m q
  induction q with
  |nil=>intro x hx;exact nomatch hx
  | @cons p q ps qs hq t ih =>
   intro x hx;rcases Zk.mp hx with e|hx
   .subst e;exact nQ ok (by rw [← hq.1];exact hq.2.1)
   .exact ih x hx
 exact all r x hx
theorem dt_of {kvs:List (List yM×V)} (ok:vS P w H h) (e:H a=some (.dT kvs)):kvs.length<=sizeLine/\(a==sysModules)=false /\
  ∃ xs,KT H kvs xs/\h.DictOfH (tupleKind (xK P w)) a xs:=zcG ok (.inl e)
end
def DGet (H:Hp) (a:Addr) (y:V) (r:Option V):Prop :=
 (∃ kvs k,Rd H a (.dK kvs)/\y=kV k/\r=kB kvs k)\/∃ kvs k b,Rd H a (.dT kvs)/\y=.ref b/\H b=some (.tup (k.map kV))/\r=kB kvs k
def DPut (H:Hp) (a:Addr) (y v:V) (H':Hp):Prop :=
 (∃ kvs k,H a=some (.dK kvs)/\y=kV k/\kvs.length<sizeLine/\H'=yH H a (.dK (vZ kvs k v))) \/
 ∃ kvs k b,H a=some (.dT kvs)/\y=.ref b/\H b=some (.tup (k.map kV))/\kvs.length<sizeLine/\H'=yH H a (.dT (vZ kvs k v))
section
variable {X : Cx} {pins : List (Addr × Obj)} {σ : St} {H : Hp} {s : Shared} {a : Addr} {y v : V} {u r : Value} {o : Option V} {A : Around} {E : Value → Shared → Prop}
theorem Inv.big (I:Inv X pins σ H s):sysModules<s.heap.objs.size:=by
 have h:mainGlobals<s.heap.objs.size:=(I.mod.glob.keeps I.bk).lt;exact ZbW (by decide) h
theorem zcK {Q:Value->Shared->Prop} (hu:A.units+1<cLine) (I:Inv X pins σ H s) (g:DGet H a y (some v)) (ry:zB y u) (h:∀ w' s',Inv X pins σ H s'->zB v w'->Q w' s') :
  wpAny (model X.prog X.w) A (getItem (.ref a) u) Q E s:=by
 rcases g with ⟨kvs,k,e,ey,l⟩|⟨kvs,k,b,e,ey,eb,l⟩
 .subst ey;obtain ⟨z,hd,vs,rel,dd⟩:=rV I.hok e;obtain ⟨w',hw,rw'⟩:=uA.some_of (v:=v) (o:=valueAt vs k) (by rw [l];exact rel.val k);exact wpAny_getItem_of (fX ry) dd.mapOf hw (h w' _ (I.tok _) rw')
 .subst ey;cases (show u=Value.ref b from ry);obtain ⟨z,hd,xs,rel,dd⟩:=zcG I.hok e;obtain ⟨w',hw,rw'⟩:=uA.some_of (v:=v) (o:=(atKey xs k).map (·.2)) (by rw [l];exact rel.val k);obtain ⟨p,hp,hp2⟩:=Zq.mp hw;refine wpAny_getItem_heap (Zbu hu) (nQ I.hok eb) dd hp ?_;rw [hp2];exact h w' _ (I.tok _) rw'
theorem d_in {Q:Value->Shared->Prop} (hu:A.units+1<cLine) (I:Inv X pins σ H s) (g:DGet H a y o) (ry:zB y u) (h:∀ s',Inv X pins σ H s'->Q (.bool o.isSome) s') :
  wpAny (model X.prog X.w) A (compareOp .In u (.ref a)) Q E s:=by
 rcases g with ⟨kvs,k,e,ey,l⟩|⟨kvs,k,b,e,ey,eb,l⟩
 .subst ey;obtain ⟨z,hd,vs,rel,dd⟩:=rV I.hok e;refine wpAny_in_of (fX ry) hd dd.mapOf ?_;rw [← (rel.val k).isSome_eq,← l];exact h _ (I.tok _)
 .subst ey;cases (show u=Value.ref b from ry);obtain ⟨z,hd,xs,rel,dd⟩:=zcG I.hok e;refine wpAny_in_heap (Zbu hu) (nQ I.hok eb) hd dd ?_;have q:=(rel.val k).isSome_eq;rw [Zb6] at q;rw [← q,← l];exact h _ (I.tok _)
theorem zg6 {Q:Value->Shared->Prop} (hu:A.units+1<cLine) (I:Inv X pins σ H s) (g:DGet H a y o) (ry:zB y u) (h:∀ s',Inv X pins σ H s'->Q (.bool (!o.isSome)) s') :
  wpAny (model X.prog X.w) A (compareOp .NotIn u (.ref a)) Q E s:=by
 rcases g with ⟨kvs,k,e,ey,l⟩|⟨kvs,k,b,e,ey,eb,l⟩
 .subst ey;obtain ⟨z,hd,vs,rel,dd⟩:=rV I.hok e;refine wpAny_notIn_of (fX ry) hd dd.mapOf ?_;rw [← (rel.val k).isSome_eq,← l];exact h _ (I.tok _)
 .subst ey;cases (show u=Value.ref b from ry);obtain ⟨z,hd,xs,rel,dd⟩:=zcG I.hok e;refine wpAny_notIn_heap (Zbu hu) (nQ I.hok eb) hd dd ?_;have q:=(rel.val k).isSome_eq;rw [Zb6] at q;rw [← q,← l];exact h _ (I.tok _)
theorem cS {h':Heap} {t':Nat} {ob:HO} (I:Inv X pins σ H s) (mu:Mut (H a)) (hs:Heap.SameBut a s.heap h') (he:∃ q,h'.get? a=some q) (new:xR X.prog X.w (yH H a ob) h' a ob) :
  Inv X pins σ (yH H a ob) { s with heap:=h',toks:=t' } :=
 I.write (x:=a) (e:=a) mu (.inl rfl) (fun b q hb z=>(hs.2 b hb).trans z) he new
theorem zfa {P:Program} {w:World} {H':Hp} {h':Heap} {kvs:List (yM×V)} {vs:List (yM×Value)} (z:kvs.length<=sizeLine) (hd:(a==sysModules)=false) (rel:KV kvs vs) (dd:h'.DictOf (xK P w) a vs) :
  xR P w H' h' a (.dK kvs):=⟨z,hd,vs,rel,dd⟩
theorem zcJ {H':Hp} {Q:Unit->Shared->Prop} (hu:A.units+1<cLine) (I:Inv X pins σ H s) (g:DPut H a y v H') (ry:zB y u) (rv:zB v r) (h:∀ s',Inv X pins σ H' s'->Q () s') :
  wpAny (model X.prog X.w) A (setItem (.ref a) u r) Q E s:=by
 rcases g with ⟨kvs,k,e,ey,l,eH⟩|⟨kvs,k,b,e,ey,eb,l,eH⟩
 .subst ey eH;obtain ⟨z,hd,vs,rel,dd⟩:=zjD I.hok e;have hz:vs.length<=sizeLine:=by rw [← rel.length];exact z
  have hl:(vZ kvs k v).length<=sizeLine:=by have:=vH kvs k v;omega
  refine wpAny_setItem_pairs (hsz:=hz) (fX ry) dd fun h' dd' hs=>h _ ?_;have he:∃ q,h'.get? a=some q:=let ⟨q,_,_,hq,_⟩:=dd';⟨q,hq⟩;exact cS I (by rw [e];exact True.intro) hs he (zfa hl hd (rel.put k rv) dd')
 .subst ey eH;cases (show u=Value.ref b from ry);obtain ⟨z,hd,xs,rel,dd⟩:=dt_of I.hok e;have hz:xs.length<=sizeLine:=by rw [← Zcb rel];exact z
  have hl:(vZ kvs k v).length<=sizeLine:=by have:=vH kvs k v;omega
  refine wpAny_setItem_heap (hsz:=hz) (Zbu hu) (nQ I.hok eb) dd fun h' dd' hs=>h _ ?_;obtain ⟨q,es,ep,hq,h2,h3,h4,_,h5⟩:=dd';refine cS I (by rw [e];exact True.intro) hs ⟨q,hq⟩ ⟨hl,hd,_,(rel.put k eb rv).keeps fun c ys ec=>?_,q,es,ep,hq,h2,h3,h4,h5⟩;rw [zR (ne_of ec e (fun z=>nomatch z))];exact ec
end
section
variable {X : Cx} {pins : List (Addr × Obj)} {σ : St} {H : Hp} {s : Shared} {a : Addr} {kvs : List (yM × V)} {k : yM} {u : Value} {A : Around} {E : Value → Shared → Prop}
theorem d_len {Q:Value->Shared->Prop} (I:Inv X pins σ H s) (e:Rd H a (.dK kvs)) (h:∀ t s',Inv X pins σ H s'->Q (.int kvs.length t) s'):wpAny (model X.prog X.w) A (call (.builtin "len") [.ref a]) Q E s:=by
 obtain ⟨z,hd,vs,rel,dd⟩:=rV I.hok e;refine call_len_dict hd dd (by rw [← rel.length];rw [ZD] at z;omega) ?_;rw [← rel.length];exact h _ _ (I.tok _)
end
section
variable {X : Cx} {o i e value : Expr} {pos pos' tpos : Pos} {td ty tv : TE}
end
theorem zaI {P:Program} {w:World} {H:Hp} (h:Heap) (hb:sysModules<h.objs.size):xR P w H (h.push { cls:=.type "dict", data:=.dict #[] }) h.objs.size (.dK []) :=
 ⟨ZX _,beq_eq_false_iff_ne.mpr (Ne.symm (Zl hb)),[],.nil,Heap.DictOf.new h⟩
def zhF:TE:=fun _ H Q=>∀ p,H p=none->Q (.ref p) (yH H p (.dK []))
section
variable {X : Cx} {pos : Pos}
theorem zdK:PE X (.Dict [] [] pos) zhF:=fun pins s σ H Q I h =>
 wpAny_Dict_empty ⟨.ref s.heap.objs.size,_,I.laid (a:=s.heap.objs.size) (o:=.dK []) (t':=s.toks) (fun _ _ q=>Zb _ q) (zzR _) (zaI s.heap I.big),rfl,h _ (I.hok.fresh (zzR _))⟩
end
def dW:List (TE×TE)->St->Hp->(List (V×V)->Hp->Prop)->Prop
 | [],_,H,Q=>Q [] H
 | (tk,tv)::r,σ,H,Q=>tk σ H fun x H1=>tv σ H1 fun y H2=>dW r σ H2 fun ps H3=>Q ((x,y)::ps) H3
abbrev VV:List (V×V)->List (Value×Value)->Prop:=Paired fun p q=>zB p.1 q.1/\zB p.2 q.2
def PPs (X:Cx) (pos:Pos) (keys:List (Option Expr)) (values:List Expr) (trs:List (TE×TE)):Prop :=
 ∀ (pins:List (Addr×Obj)) (s:Shared) (σ:St) (H:Hp) (Q:List (V×V)->Hp->Prop),Inv X pins σ H s->dW trs σ H Q ->
  wpAny (model X.prog X.w) X.A (evalPairs (pairTrees keys values X.env pos)) (fun vs s'=>∃ ps H',Inv X pins σ H' s'/\VV ps vs/\Q ps H') X.xe s
theorem zfY {X:Cx} {pos:Pos}:PPs X pos [] [] []:=fun pins s σ H Q I h=>pairTrees_nil_walk ⟨[],H,I,.nil,h⟩
theorem zdE {X:Cx} {pos:Pos} {k v:Expr} {ks:List (Option Expr)} {vs:List Expr} {tk tv:TE} {trs:List (TE×TE)} (hk:PE X k tk) (hv:PE X v tv) (hr:PPs X pos ks vs trs) :
  PPs X pos (some k::ks) (v::vs) ((tk,tv)::trs):=fun pins s σ H Q I h =>
 pairTrees_cons_walk (yG (hk pins s σ H _ I h) fun u s1 ⟨x,H1,I1,rx,q1⟩=>yG (hv pins s1 σ H1 _ I1 q1) fun w2 s2 ⟨y,H2,I2,ry,q2⟩ =>
  yG (hr pins s2 σ H2 _ I2 q2) fun ws s3 ⟨ps,H3,I3,rel,q3⟩=>⟨(x,y)::ps,H3,I3,.cons ⟨rx,ry⟩ rel,q3⟩)
def sO (kvs more:List (yM×V)):List (yM×V):=more.foldl (fun acc kv=>vZ acc kv.1 kv.2) kvs
theorem KV.merge:∀ {more:List (yM×V)} {rs:List (yM×Value)} {kvs:List (yM×V)} {vs:List (yM×Value)},KV more rs->KV kvs vs->KV (sO kvs more) (merged vs rs):=by
 intro more rs kvs vs r;unfold KV at r
 induction r generalizing kvs vs with
 |nil=>intro q;exact q
 | @cons p q ps qs h t ih =>
  intro r0
  have e:KV (vZ kvs p.1 p.2) (stored vs q.1 q.2):=by
   have:=r0.put p.1 h.2;rw [← h.1];exact this
  exact ih e
theorem uJ:∀ (more kvs:List (yM×V)),(sO kvs more).length<=kvs.length+more.length
 | [],kvs=>by show kvs.length<=kvs.length+0;omega
 |p::r,kvs=>by
  have h1:=uJ r (vZ kvs p.1 p.2);have h2:=vH kvs p.1 p.2;show (sO (vZ kvs p.1 p.2) r).length<=_;rw [Zh];omega
theorem nC {P:Program} {w:World}:∀ {kvs:List (yM×V)} {ws:List (Value×Value)},VV (kvs.map fun kv=>(kV kv.1,kv.2)) ws->∃ rs,Carries (xK P w) ws rs/\KV kvs rs
 | [],_,r=>by rw [zzV] at r;cases r;exact ⟨[],True.intro,.nil⟩
 |p::kvs,_,r=>by
  rw [zzU] at r
  cases r with
  | @cons a b as bs h t =>
   obtain ⟨rs,c,q⟩:=nC (P:=P) (w:=w) t;obtain ⟨b1,b2⟩:=b;exact ⟨(p.1,b2)::rs,⟨fX h.1,rfl,c⟩,.cons ⟨rfl,h.2⟩ q⟩
def tDisp (trs:List (TE×TE)):TE:=fun σ H Q=>∀ p,H p=none->dW trs σ (yH H p (.dK [])) fun ps H2=>H2 p=some (.dK [])/\∃ kvs:List (yM×V),ps=kvs.map (fun kv=>(kV kv.1,kv.2))/\kvs.length<=15/\Q (.ref p) (yH H2 p (.dK (sO [] kvs)))
theorem zf4 {X:Cx} {pos:Pos} {keys:List (Option Expr)} {values:List Expr} {trs:List (TE×TE)} (h:PPs X pos keys values trs) (hall:keys.all (·.isSome)=true) (hl:keys.length=values.length) (h0:keys≠[])
  (h15:keys.length<=15):PE X (.Dict keys values pos) (tDisp trs):=by
 intro pins s σ H Q I q;have hn:=I.hok.fresh (zzR s.heap.objs.size);have I1:=I.laid (a:=s.heap.objs.size) (o:=.dK []) (h':=s.heap.push { cls:=.type "dict", data:=.dict #[] }) (t':=s.toks) (fun _ _ q=>Zb _ q) (zzR _) (zaI s.heap I.big);refine wpAny_Dict_walk (knd:=xK X.prog X.w) hall hl h0 h15 (yG (h pins _ σ _ _ I1 (q _ hn)) fun ws s2 ⟨ps,H2,I2,rel,e,kvs,ep,lk,q2⟩=>?_);subst ep;obtain ⟨rs,c,rk⟩:=nC (P:=X.prog) (w:=X.w) rel;obtain ⟨z,hd,vs0,r0,dd⟩:=zjD I2.hok e;cases r0;refine ⟨rs,c,dd,fun h' dd' hs=>⟨.ref s.heap.objs.size,_,?_,rfl,q2⟩⟩
 have hz:(sO [] kvs).length<=sizeLine:=by
  have h1:=uJ kvs [];rw [Zs] at h1;rw [ZD];omega
 have he:∃ q,h'.get? s.heap.objs.size=some q:=let ⟨q,_,_,hq,_⟩:=dd';⟨q,hq⟩;exact cS I2 (by rw [e];exact True.intro) hs he (zfa hz hd (rk.merge .nil) dd')
structure M1 (X:Cx) (o:Expr) (m:Str) (apos:Pos) (e:Expr) (cpos:Pos):Prop where
 base:attributeBase o m X.env (eval o X.env)=eval o X.env
 few:((backTo cpos (starEach [e] X.env)).all (fun x=>!x.1)&&(backToKw cpos (keywordEach [] X.env)).all (fun x=>x.1.isSome)
  && decide (([e]:List Expr).length+([]:List Keyword).length+(if ([]:List Keyword).isEmpty then 0 else 1)<30))=true
 line:(apos.endLine==cpos.line)=true
 trees:backTo cpos (starEach [e] X.env)=[(false,eval e X.env)]
def IsD (H:Hp) (a:Addr):Prop:=(∃ kvs,Rd H a (.dK kvs))\/∃ kvs,Rd H a (.dT kvs)
theorem zjp {X:Cx} {pins:List (Addr×Obj)} {σ:St} {H:Hp} {s:Shared} {a:Addr} (I:Inv X pins σ H s) (d:IsD H a) :
  s.TypeIs (.ref a) "dict" /\ (∀ b,Value.ref a=.ref b->∃ ob,s.heap.get? b=some ob/\ob.dict=none)/\(a==sysModules)=false:=by
 rcases d with ⟨kvs,e⟩|⟨kvs,e⟩
 .obtain ⟨_,hd,vs,_,dd⟩:=rV I.hok e;refine ⟨dd.typeIs,fun b q=>?_,hd⟩;cases q;obtain ⟨ob,_,_,h1,h2,_⟩:=dd;exact ⟨ob,h1,h2.2.1⟩
 .obtain ⟨_,hd,xs,_,dd⟩:=zcG I.hok e;refine ⟨dd.typeIs,fun b q=>?_,hd⟩;cases q;obtain ⟨ob,_,_,h1,h2,_⟩:=dd;exact ⟨ob,h1,h2.2.1⟩
section
variable {X : Cx} {pins : List (Addr × Obj)} {σ : St} {H : Hp} {s : Shared} {a : Addr} {y d : V} {u r : Value} {o : Option V} {A : Around} {E : Value → Shared → Prop}
end
section
variable {X : Cx} {o e f : Expr} {apos cpos : Pos} {td ty tx : TE}
end
section
variable {X : Cx} {pins : List (Addr × Obj)} {σ : St} {H : Hp} {s : Shared} {a : Addr} {kvs : List (yM × V)} {A : Around} {E : Value → Shared → Prop}
end
section
variable {X : Cx} {pins : List (Addr × Obj)} {σ : St} {H : Hp} {s : Shared} {a : Addr} {y : V} {u : Value} {A : Around} {E : Value → Shared → Prop}
end
end L2
namespace Att
open PySem PySem.W PySem.Calls PyProof.Rows
theorem rJ {P:Params} {h:Heap}:∀ (ns:List Int) (vs:List Value),WellAll P h vs (ns.map WData.int)->IntsAre vs ns:=by
 intro ns
 induction ns with
 |nil =>
  intro vs w;rw [zzV] at w;cases w;exact .nil
 |cons n ns ih =>
  intro vs w;rw [zzU] at w
  cases w with
  |cons a b =>
   cases a;exact .cons _ _ (ih _ b)
theorem zbG {l:OpenLaw} {n:Nat} (hn:l.most=some n) {P:Params} {h:Heap} {args:List WData} {vals:List Value}
  (hpre:l.row.toRowW.claim.pre args=true) (hwl:WellAll P h vals args) :
  ∃ a vs ns,vals=[Value.ref a]/\args=[WData.list (ns.map WData.int)]/\h.get? a=some { cls:=.type "list", data:=.seq vs.toArray }/\IntsAre vs ns/\ns.length<=n:=by
 have hsh:WShape.hasAll [] args [.list .int]=true:=(pre_splitW hpre).1;have hc:l.pre.holds [] { args:=args }=true:=(pre_splitW hpre).2;obtain ⟨d,r,rfl,h1,h2⟩:=hasAllW_cons hsh;obtain rfl:=hasAllW_nil h2;obtain ⟨xs,rfl,h3⟩:=hasW_list h1;obtain ⟨ns,rfl⟩:=items_int h3
 have hlen:ns.length<=n:=by
  unfold OpenLaw.pre at hc
  have h4:(WTm.not (.lt (.lit (.int (n:Int))) (.len (.arg 0)))).holds [] { args:=[.list (ns.map .int)] }=true:=by
   have h4:=(holds_andW hc).1;rw [hn] at h4;exact h4
  have h5:=condW_of h4 (w_not (w_lt w_lit (w_len_list (w_arg rfl))));rw [zzM] at h5;refine Nat.le_of_not_lt fun q=>?_;have q':(n:Int)<((ns.length:Nat):Int):=by omega
  first
   | (rw [decide_eq_true q'] at h5;exact absurd h5 (by decide))
   | (simp at h5;omega)
 cases hwl with
 |cons w1 w2 =>
  cases w2
  cases w1 with
  |list ho hall=>exact ⟨_,_,ns,rfl,rfl,ho,rJ ns _ hall,hlen⟩
theorem zbS (l:OpenLaw) (args:List WData):l.row.toRowW.claim.post args (.bool true) args=true :=
 postW_of (r:=l.row.toRowW) (X:=(true==true))
  (show WShape.has [] (.bool true) .bool=true by first|rfl|decide|simp [WShape.has,WShape.arms,WShape.armsAll])
  (show (WTm.eq .res (.lit (.bool true))).value [] { args:=args,res:=some (.bool true),after:=args }=some (.bool (true==true)) from w_eq_bool (w_res rfl) w_lit) rfl
theorem attach_call {l:OpenLaw} {n:Nat} {q:Program} {loose:List Str} {XP:(Str->Option Value)->Heap->Prop} {YP:World->Heap->Prop} {d:DefRec}
  (hn:l.most=some n) (hdf:d.params.defaults=[])
  (call:∀ (w:World) (s₀ s₁:Shared) (mg mb:Str->Option Value) (fa:Addr) (o:Obj) (pm cd doc:Value) (a:Addr) (vs:List Value) (ns:List Int),
   Ground q loose [] XP w s₀ mg mb s₁.heap->YP w s₁.heap ->
   s₁.heap.get? fa=some o->o.data=.func (docDef d.name d.params d.body d.scope pm cd doc)->s₁.heap.CodeRec cd d.name->mg d.name=some (.ref fa) ->
   s₁.heap.get? a=some { cls:=.type "list", data:=.seq vs.toArray }->IntsAre vs ns->ns.length<=n->s₁.gens=#[] ->
   codeAny (model l.prog w) callerA (.call (.ref fa) ⟨[.ref a],[]⟩) (fun r s'=>r=.ok (.ret (.bool true))/\OldK s₁.heap s'.heap/\s'.os=s₁.os/\AllBare s'.gens) s₁) :
  WalkO q loose XP YP l.row.toRowW d [] (fun f vs=>PySem.call f vs):=by
 intro w s₀ s₁ mg mb G Y fa o pm cd doc dV kV ho hd hcd hD hmg hg args vals as hpre hlay hrd hwl hlo;obtain rfl:dV=.none:=Dflts.none hD hdf;obtain rfl:kV=.none:=Dflts.noKw hD;obtain ⟨a,vs,ns,rfl,rfl,hobj,hints,hlen⟩:=zbG hn hpre hwl;refine enter_call (ZaV (call w s₀ s₁ mg mb fa o pm cd doc a vs ns G Y ho (fd_plain hd) hcd hmg hobj hints hlen hg) fun r s' hq=>?_);obtain ⟨rfl,h2,h3,h4⟩:=hq;exact ⟨.inl ⟨.bool true,.bool true,[],rfl,fun _=>rfl,.bool true,zbS l _,fun _=>⟨List.Pairwise.nil,fun _ hm=>(nomatch hm)⟩⟩,h2,h3,h4⟩
section
variable {prog : Program} {w : World} {A : Around} {E : Value → Shared → Prop} {s : Shared} {K : Frag}
end
end Att
namespace L2
open PySem PySem.Spec PyProof.Rows
theorem jG:∀ {vs:List Value} {ns:List Int},IntsAre vs ns->zE (ns.map V.int) vs
 |_,_,.nil=>.nil
 |_,_,.cons n t h=>.cons ⟨t,rfl⟩ (jG h)
def Only (H:Hp):Prop:=∀ b,H b=none\/∃ o xs,H b=some (.frz o (.lst xs))
theorem zdX {P:Program} {w:World} {K:PySem.W.Frag} {mg mb:Str->Option Value} {CX:CXT} {k:Nat} {fa a:Addr} {fd:FuncData} {x:Str} {sp:Sp} {s₁:Shared} {vs:List Value} {ns:List Int}
  (KX:K.In s₁.heap) (hns:s₁.heap.Ns mainGlobals mg) (hb:s₁.heap.Ns builtinsNs mb) (hbb:∀ x:Str,x ≠ "__name__" -> mb x=bootBuiltins x) (hlim:s₁.heap.NoLimit) (hg:s₁.gens=#[])
  (ha:s₁.heap.get? a=some { cls:=.type "list", data:=.seq vs.toArray }) (hi:IntsAre vs ns) (hl:ns.length<=sizeLine) (hr:Room k callerA)
  (F:∀ base:Heap,K.In base->base.Ns mainGlobals mg->FnOk P w K mg base CX k fa fd [x] sp) (hbind:∀ (s:Shared) (u:Value),BindsTo s fd ⟨[u],[]⟩ [(x,u)])
  (hsp:∀ H:Hp,Only H->rQ K H a (ns.map V.int)->sp [.ref a] H (fun v _=>v=.bl true) fun _ _ _=>False)
  (hCX:∀ H e s',CX [] H s₁ (fun _ _ _=>False) e s'->False) :
  codeAny (model P w) callerA (.call (.ref fa) ⟨[.ref a],[]⟩) (fun r s'=>r=.ok (.ret (.bool true))/\OldK s₁.heap s'.heap/\s'.os=s₁.os/\AllBare s'.gens) s₁:=by
 have rv:=jG hi;have lenV:=hi.length
 have core:∀ H:Hp,Only H->rQ K H a (ns.map V.int)->vS P w H s₁.heap->(∀ b,H b≠none->b=a)->(H a≠none->K.lookup a=none) ->
   codeAny (model P w) callerA (.call (.ref fa) ⟨[.ref a],[]⟩) (fun r s'=>r=.ok (.ret (.bool true))/\OldK s₁.heap s'.heap/\s'.os=s₁.os/\AllBare s'.gens) s₁:=by
  intro H hO hS hok hA hK;have base_of:∀ {b:Addr} {o:Obj},s₁.heap.get? b=some o->H b=none->(cY s₁.heap H).get? b=some o:=fun e n=>zec e n
  have noA:∀ {b:Addr} {o:Obj} {es:Array DictEntry} {ep:Nat},s₁.heap.get? b=some o->o.data=.dict es ep->H b=none:=fun {b o es ep} e d=>by
   cases q:H b with
   |none=>rfl
   |some u =>
    have e':b=a:=hA b (by rw [q];simp);subst e';rw [ha] at e;cases e;have d':Data.seq vs.toArray _=Data.dict es ep:=d;cases d'
  have nsK:∀ {b:Addr} {m:Str->Option Value},s₁.heap.Ns b m->(cY s₁.heap H).Ns b m:=fun {b m} ⟨o,es,ep,e,d,r⟩=>⟨o,es,ep,base_of e (noA e d),d,r⟩
  have hKb:K.In (cY s₁.heap H):=fun b o e=>base_of (KX b o e) (by
   cases q:H b with
   |none=>rfl
   |some u =>
    have e':b=a:=hA b (by rw [q];simp);subst e';rw [hK (by rw [q];simp)] at e;cases e)
  have hM:Mod K mg (cY s₁.heap H):=⟨hKb,nsK hns,⟨mb,nsK hb,hbb⟩,let ⟨mc,h1,h2⟩:=hlim;⟨mc,nsK h1,h2⟩⟩;have e0:Env0 P w K mg (cY s₁.heap H) callerA [] s₁ H:=⟨rfl,hM,fun b o e=>zgd e,Zcp (zcr _ _),trivial,fun b hb=>absurd (show b∈([]:List Addr) from hb) (by simp),hok,.of_eq hg⟩;refine ZaV ((F _ hKb (nsK hns)).run callerA [] s₁ H ⟨[.ref a],[]⟩ [.ref a] [.ref a] _ _ hr e0 (hbind s₁ (.ref a)) (.cons rfl .nil) (hsp H hO hS)) fun r s' h=>?_
  cases r with
  |error e=>exact (hCX H e s' h).elim
  |ok fl =>
   cases fl with
   |next=>exact False.elim h
   |brk=>exact False.elim h
   |cont=>exact False.elim h
   |ret u =>
    obtain ⟨v,H',os,bare,un,hok',r',q⟩:=h;have q':v=.bl true:=q;subst q';obtain rfl:u=Value.bool true:=r';refine ⟨rfl,OldK.of_keep fun b o e=>?_,os,bare⟩
    cases q:H b with
    |none=>exact un.keep b o e q (by intro z;exact absurd (show b∈([]:List Addr) from z) (by simp)) (by simp)
    |some u =>
     rcases hO b with z|⟨ob,xs,z⟩
     .rw [q] at z;cases z
     .have z2:=un.frzs b ob _ z;obtain ⟨e1,_⟩:=hok b _ z;obtain ⟨e2,_⟩:=hok' b _ z2;rw [e] at e1;cases e1;exact e2
 cases hk:K.lookup a with
 |some o =>
  have e:=KX a o hk;rw [ha] at e;cases e;refine core (fun _=>none) (fun _=>.inl rfl) (.inr ⟨_,vs.toArray,_,hk,rfl,rfl,rfl,by rw [zzS,lenV];exact hl,by simpa using rv⟩) (fun b u z=>by have z':(none:Option HO)=some u:=z;cases z') (fun b z=>absurd rfl z) fun z=>absurd rfl z
 |none =>
  refine core (fun b=>if b=a then some (.frz { cls:=.type "list", data:=.seq vs.toArray } (.lst (ns.map V.int))) else none) (fun b=>?_) (.inl (.inr ⟨{ cls:=.type "list", data:=.seq vs.toArray },if_pos rfl⟩)) (fun b u z=>?_) (fun b z=>?_) fun _=>hk
  .by_cases hb:b=a
   .exact .inr ⟨_,_,if_pos hb⟩
   .exact .inl (if_neg hb)
  .by_cases hb:b=a
   .have z':=(if_pos hb).symm.trans z;cases z';subst hb;exact ⟨ha,by rw [zzM];exact hl,vs,_,rv,ha⟩
   .have z':=(if_neg hb).symm.trans z;cases z'
  .by_cases hb:b=a
   .exact hb
   .exact absurd (if_neg hb) z
end L2
namespace L2
open PySem PySem.Spec PyProof.Rows
abbrev KOf {K:PySem.W.Frag} {h:Heap} (_:K.In h):PySem.W.Frag:=K
theorem walk_of {l:PySem.W.OpenLaw} {n k:Nat} {q:Program} {loose:List Str} {XP:(Str->Option Value)->Heap->Prop} {YP:World->Heap->Prop} {d:DefRec} {K:Params->PySem.W.Frag} {CX:World->CXT} {sp:World->Sp} {x:Str}
  (hn:l.most=some n) (hn2:n<=sizeLine) (hdf:d.params.defaults=[]) (hr:Room k callerA)
  (hY:∀ (w:World) (h:Heap),YP w h->(K w.params).In h)
  (F:∀ (w:World) (mg:Str->Option Value) (fa:Addr) (h:Heap),(K w.params).In h->h.Ns mainGlobals mg->mg d.name=some (.ref fa) ->
   ∃ fd:FuncData,(∀ (s:Shared) (u:Value),BindsTo s fd ⟨[u],[]⟩ [(x,u)]) /\
    ∀ base:Heap,(K w.params).In base->base.Ns mainGlobals mg->FnOk l.prog w (K w.params) mg base (CX w) k fa fd [x] (sp w))
  (hsp:∀ (w:World) (H:Hp) (a:Addr) (ns:List Int),ns.length<=n->Only H->rQ (K w.params) H a (ns.map V.int)->sp w [.ref a] H (fun v _=>v=.bl true) fun _ _ _=>False)
  (hCX:∀ (w:World) (H:Hp) (s:Shared) (e:Value) (s':Shared),CX w [] H s (fun _ _ _=>False) e s'->False) :
  PySem.W.WalkO q loose XP YP l.row.toRowW d [] (fun f vs=>PySem.call f vs):=by
 refine Att.attach_call hn hdf fun w s₀ s₁ mg mb fa o pm cd doc a vs ns G Y ho hd hcd hmg hobj hints hlen hg=>?_;have KX:=hY w _ Y;obtain ⟨fd,hb,hF⟩:=F w mg fa _ KX G.T.g hmg;exact zdX KX G.T.g G.T.b G.T.builtins G.T.nolimit hg hobj hints (Zy hlen hn2) hr hF hb (fun H hO hS=>hsp w H a ns hlen hO hS) fun H e s'=>hCX w H s₁ e s'
end L2
/- THE LAST THEOREM (shape;LID,My.* are yours):
   My.Adr: a structure of the addresses that your layer names (classes,functions);My.Txt K t: a structure (Prop) of the equations over K;
   My.txt_mk:{K} {implicit addresses ..} (e1:nsIn K mainGlobals "law" = some (some (.ref f))) (e2:K.lookup f=some ⟨oc,od,.func (fnOf "law" "law" params body scope dV kV doc pm an cdv ct),sl⟩) (e3:codeIn K cdv "law" = true) ..:∃ t,My.Txt K t
set_option maxRecDepth 100000 in
set_option maxHeartbeats 0 in
theorem PySem.Challenge.cw_LID_holds : PySem.Challenge.rw_LID.Holds := by
 w_on;o_law;k_head;(case hw=>w_witness2)
 k_fill
 refine L2.walk_of (l:=PySem.Challenge.rw_LID) (n:=63) (k:=40) (x := "script") (CX:=fun w=>..) (sp:=fun _=>My.sp_law) rfl (by decide) rfl ⟨rfl,by decide,by decide⟩ (fun w h Y=>PySem.W.kIn_of Y) ?F ?S ?C
 case F =>
  intro w mg fa h KX G hmg
  have T:∃ t,My.Txt (L2.KOf KX) t:=by
   dsimp only [L2.KOf]                          -- K must stand as «<heap const> w.params» for k_is;refine' My.txt_mk ?e1 ?e2 ?e3 ..
   (case e1=>PySem.W.k_is)                    -- in the order: a name -> its address -> its object -> its parts
   (case e2=>PySem.W.k_is)
   ..
  obtain ⟨t,T⟩:=T;have e0:=hmg.symm.trans (PySem.W.mg_of KX G T.law);cases e0                                       -- fa is the law's own address;exact ⟨_,fun s u=>.of_eq rfl,fun base kb nb=>My.law_fn T kb nb⟩     -- if «.of_eq rfl» comes too early: refine' ⟨_,?b,fun base kb nb=>My.law_fn T kb nb⟩;exact fun s u=>.of_eq rfl
 case S=>exact fun w H a ns hl hO hS=>..
 case C=>exact ..
(the tactic k_is has no namespace: write k_is) -/
namespace L2
open PySem PySem.Spec PyProof.Rows
def zgB (s:Stmt) (j:Nat):Stmt:=match s with
 | .ClassDef _ _ _ body _ _ _ _ _ _ _=>body.getD j (.Pass ⟨0,0,0,0⟩)
 |_=>.Pass ⟨0,0,0,0⟩
def yJ (s:Stmt):Arguments:=match s with
 | .FunctionDef _ a _ _ _ _ _ _ _ _=>a
 |_=>{ posonlyargs:=[],args:=[],vararg:=none,kwonlyargs:=[],kw_defaults:=[],kwarg:=none,defaults:=[] }
def zG (s:Stmt):List Stmt:=match s with
 | .FunctionDef _ _ b _ _ _ _ _ _ _=>b
 |_=>[]
def zZ (s:Stmt):Scope:=match s with
 | .FunctionDef _ _ _ _ _ _ sc _ _ _=>sc
 |_=>{ kind:=.function,names:=[],isGenerator:=false,isCoroutine:=false }
abbrev CX0:CXT:=fun _ _ _ _ _ _=>False
abbrev E0:XK:=fun _ _ _=>False
theorem zf8 {X:Cx}:bW CX0 X E0:=fun _ _ _ _ _ _ _ h=>h.elim
structure Fun (K:PySem.W.Frag) (x qual:Str) (st:Stmt) (f:Addr) (fd:FuncData):Prop where
 ex:∃ (oc:Value) (od:Option Addr) (kV doc pm:Value) (an:Option Addr) (cdv ct:Value) (osl:Array (Option Value)),
  fd=PySem.W.fnOf x qual (yJ st) (zG st) (zZ st) .none kV doc pm an cdv ct/\K.lookup f=some ⟨oc,od,.func fd,osl⟩/\PySem.W.codeIn K cdv qual=true
 kp:PySem.W.keepIn K (.ref f)=true
section
variable {P : Program} {w : World} {K : PySem.W.Frag} {mg : Str → Option Value} {base : Heap}
theorem Fun.ok {x qual:Str} {st:Stmt} {f:Addr} {fd:FuncData} {N ps:List Str} {k:Nat} {sp:Sp} (F:Fun K x qual st f fd) (S:FnScope N ps (zZ st)) (len:∀ vs H Q E,sp vs H Q E->vs.length=ps.length)
  (hbody:∀ (cdv:Value) (A:Around) (outer:List Env) (s:Shared) (H:Hp) (vs:List V) (Q:VK) (E:XK),Room k (A.deeper (envOfC qual (zZ st) s.heap.objs.size f cdv))->sp vs H Q E ->
   ∃ t,mR (hX CX0 P w K mg base N qual (zZ st) f cdv A outer s H E).nox (zG st) t/\t { nx:=fun _ H'=>Q .non H',rt:=Q } (start N vs) H):FnOk P w K mg base CX0 (k+1) f fd ps sp:=by
 obtain ⟨oc,od,kV,doc,pm,an,cdv,ct,osl,rfl,lk,hcd⟩:=F.ex;refine zeg lk hcd S len fun A outer s H vs Q E hr hsp=>?_;obtain ⟨t,h,q⟩:=hbody cdv A outer s H vs Q E hr hsp;exact ⟨t,h.nox,q⟩
end
section
variable {X : Cx}
end
section
variable {κ : Type} [DecidableEq κ]
end
end L2
namespace L3
open PySem PySem.Spec PyProof.Rows L2
inductive W where
 |non|bl (b:Bool)|int (i:Int)|str (x:Str)|ty (n:String)|ref (a:Addr)|tup (ws:List W)|lsf (ws:List W)
  |exc (C:Addr) (ns:List Str) (ws:List W)|dcf (ks:List Str) (ws:List W)
abbrev zA:=PySem.W.Frag
def KL (K:zA) (a:Addr) (xs:List V):Prop:=∃ (o:Obj) (its:Array Value) (n:Nat),K.lookup a=some o/\o.cls=.type "list" /\ o.dict=none/\o.data=.seq its n/\its.size<=sizeLine/\zE xs its.toList
def zhj:List DictEntry->List Str->List V->Prop
 | [],ks,vs=>ks=[]/\vs=[]
 |e::r,ks,vs=>∃ k t v ks' vs',ks=k::ks'/\vs=v::vs'/\e.key=.str k t/\zB v e.val/\zhj r ks' vs'
def KD (K:zA) (a:Addr) (ks:List Str) (vs:List V):Prop:=∃ (o:Obj) (es:Array DictEntry) (ep:Nat),K.lookup a=some o/\o.ExactDict/\o.data=.dict es ep/\es.size<=sizeLine/\(a==sysModules)=false/\zhj es.toList ks vs
def bU (a C:Addr) (dx:Option Addr):Heap->Prop:=fun h=>∃ fs,h.get? a=some { cls:=.ref C,dict:=dx,data:=.fields fs }
def ExAt (H:Hp) (a C:Addr) (l:List (Str×V)):Prop:=(H a=some (.ext (bU a C none))/\l=[])\/∃ dx,H a=some (.ext (bU a C (some dx)))/\H dx=some (.xd l)
def isX:HO->Prop
 | .ext _=>True
 | .frz _ (.dK _)=>True
 | .xd _=>True
 |_=>False
mutual
def wX (K:zA) (H:Hp):W->V->Prop
 | .non,v=>v=.non
 | .bl b,v=>v=.bl b
 | .int i,v=>v=.int i
 | .str x,v=>v=.str x
 | .ty n,v=>v=.ty n
 | .ref a,v=>v=.ref a
 | .tup ws,v=>∃ a vs,v=.ref a/\tB K H a vs/\zF K H ws vs
 | .lsf ws,v=>∃ a vs,v=.ref a/\KL K a vs/\zF K H ws vs
 | .exc C ns ws,v=>∃ a vs,v=.ref a/\ExAt H a C (ns.zip vs)/\zF K H ws vs
 | .dcf ks ws,v=>∃ a vs,v=.ref a/\KD K a ks vs/\zF K H ws vs
def zF (K:zA) (H:Hp):List W->List V->Prop
 | [],vs=>vs=[]
 |w::ws,vs=>∃ v r,vs=v::r/\wX K H w v/\zF K H ws r
end
def yK (K:zA) (H H':Hp):Prop:=(∀ a xs,tB K H a xs->tB K H' a xs)/\∀ a o,isX o->H a=some o->H' a=some o
theorem yK.refl {K:zA} {H:Hp}:yK K H H:=⟨fun _ _ h=>h,fun _ _ _ h=>h⟩
theorem yK.trans {K:zA} {H H1 H2:Hp} (a:yK K H H1) (b:yK K H1 H2):yK K H H2:=⟨fun x xs h=>b.1 x xs (a.1 x xs h),fun x o i h=>b.2 x o i (a.2 x o i h)⟩
theorem ExAt.mono {K:zA} {H H':Hp} (g:yK K H H') {a C:Addr} {l:List (Str×V)} (h:ExAt H a C l):ExAt H' a C l:=by
 rcases h with ⟨h,e⟩|⟨dx,h,h'⟩
 .exact .inl ⟨g.2 _ _ True.intro h,e⟩
 .exact .inr ⟨dx,g.2 _ _ True.intro h,g.2 _ _ True.intro h'⟩
section
variable {K : zA} {H H' : Hp}
mutual
theorem wX.mono (g:yK K H H'):∀ {w:W} {v:V},wX K H w v->wX K H' w v
 | .non,_,h=>h
 | .bl _,_,h=>h
 | .int _,_,h=>h
 | .str _,_,h=>h
 | .ty _,_,h=>h
 | .ref _,_,h=>h
 | .tup _,_,⟨a,vs,e,s,r⟩=>⟨a,vs,e,g.1 a vs s,zF.mono g r⟩
 | .lsf _,_,⟨a,vs,e,s,r⟩=>⟨a,vs,e,s,zF.mono g r⟩
 | .exc _ _ _,_,⟨a,vs,e,s,r⟩=>⟨a,vs,e,s.mono g,zF.mono g r⟩
 | .dcf _ _,_,⟨a,vs,e,s,r⟩=>⟨a,vs,e,s,zF.mono g r⟩
theorem zF.mono (g:yK K H H'):∀ {ws:List W} {vs:List V},zF K H ws vs->zF K H' ws vs
 | [],_,h=>h
 |_::_,_,⟨v,r,e,h,t⟩=>⟨v,r,e,wX.mono g h,zF.mono g t⟩
end
theorem zF.length:∀ {ws:List W} {vs:List V},zF K H ws vs->vs.length=ws.length
 | [],_,h=>by rw [show _=[] from h];rfl
 |_::_,_,⟨v,r,e,_,t⟩=>by rw [e,Zh,Zh,zF.length t]
theorem zF.append:∀ {ws:List W} {vs:List V} {ws':List W} {vs':List V},zF K H ws vs->zF K H ws' vs'->zF K H (ws++ws') (vs++vs')
 | [],_,_,_,h,h'=>by rw [show _=[] from h];exact h'
 |_::_,_,_,_,⟨v,r,e,h,t⟩,h'=>by rw [e];exact ⟨v,_,rfl,h,zF.append t h'⟩
theorem zF.get:∀ {ws:List W} {vs:List V} {i:Nat} {w:W},zF K H ws vs->ws[i]?=some w->∃ v,vs[i]?=some v/\wX K H w v
 | [],_,_,_,_,e=>by simp at e
 |_::_,_,0,_,⟨v,r,e,h,t⟩,q=>by simp at q;subst q;subst e;exact ⟨v,rfl,h⟩
 |_::_,_,i+1,w,⟨v,r,e,h,t⟩,q=>by
  subst e;obtain ⟨u,h1,h2⟩:=zF.get (i:=i) (w:=w) t (by simpa using q);exact ⟨u,by simpa using h1,h2⟩
theorem zF.get':∀ {ws:List W} {vs:List V} {i:Nat} {v:V},zF K H ws vs->vs[i]?=some v->∃ w,ws[i]?=some w/\wX K H w v
 | [],_,_,_,h,e=>by rw [show _=[] from h] at e;simp at e
 |_::_,_,0,_,⟨v,r,e,h,t⟩,q=>by subst e;simp at q;subst q;exact ⟨_,rfl,h⟩
 |_::_,_,i+1,w,⟨v,r,e,h,t⟩,q=>by
  subst e;obtain ⟨u,h1,h2⟩:=zF.get' (i:=i) (v:=w) t (by simpa using q);exact ⟨u,by simpa using h1,h2⟩
theorem zF.set {w:W} {v:V} (q:wX K H w v):∀ {ws:List W} {vs:List V} (i:Nat),zF K H ws vs->zF K H (ws.set i w) (vs.set i v)
 | [],_,_,h=>by rw [show _=[] from h];rfl
 |_::_,_,0,⟨_,r,e,_,t⟩=>by rw [e];exact ⟨_,_,rfl,q,t⟩
 |_::_,_,i+1,⟨v,r,e,h,t⟩=>by rw [e];exact ⟨_,_,rfl,h,zF.set q i t⟩
theorem zF.take:∀ {ws:List W} {vs:List V} (n:Nat),zF K H ws vs->zF K H (ws.take n) (vs.take n)
 | [],_,_,h=>by rw [show _=[] from h];simp;rfl
 |_::_,_,0,_=>by simp;rfl
 |_::_,_,n+1,⟨v,r,e,h,t⟩=>by rw [e];exact ⟨_,_,rfl,h,zF.take n t⟩
theorem zF.drop:∀ {ws:List W} {vs:List V} (n:Nat),zF K H ws vs->zF K H (ws.drop n) (vs.drop n)
 | [],_,_,h=>by rw [show _=[] from h];simp;rfl
 |_::_,_,0,h=>h
 |_::_,_,n+1,⟨v,r,e,h,t⟩=>by rw [e];exact zF.drop n t
theorem zF.reverse:∀ {ws:List W} {vs:List V},zF K H ws vs->zF K H ws.reverse vs.reverse
 | [],_,h=>by rw [show _=[] from h];rfl
 |_::_,_,⟨v,r,e,h,t⟩=>by
  rw [e,ZaR,ZaR];exact zF.append (zF.reverse t) ⟨v,[],rfl,h,rfl⟩
theorem zF.dropLast {ws:List W} {vs:List V} (h:zF K H ws vs):zF K H ws.dropLast vs.dropLast:=by
 rw [List.dropLast_eq_take,List.dropLast_eq_take,h.length];exact h.take _
end
inductive O where
 |lst (ws:List W)
  |fix (ws:List W)
 |dic (kvs:List (yM×W))
 |ins (C:Addr) (fs:List (Str×W))
  |fzd (kvs:List (yM×W))
def isFz:O->Bool
 | .fzd _=>true
 |_=>false
abbrev Hw:=Addr->Option O
def put (G:Hw) (a:Addr) (o:O):Hw:=fun b=>if b=a then some o else G b
theorem zX {G:Hw} {a:Addr} {o:O}:put G a o a=some o:=by unfold put;rw [if_pos rfl]
theorem yD {G:Hw} {a b:Addr} {o:O} (h:b≠a):put G a o b=G b:=by unfold put;rw [if_neg h]
theorem fO {G:Hw} {a b:Addr} {o:O} (h:G a=some o) (h':G b=none):a≠b:=by
 intro e;subst e;rw [h] at h';cases h'
def yZ (K:zA) (H:Hp) {κ:Type}:List (κ×W)->List (κ×V)->Prop
 | [],l=>l=[]
 |p::r,l=>∃ v t,l=(p.1,v)::t/\wX K H p.2 v/\yZ K H r t
def hJ (K:zA) (H:Hp):O->HO->Prop
 | .lst ws,o=>∃ vs,o=.lst vs/\zF K H ws vs
 | .fix ws,o=>∃ vs ob,(o=.lst vs\/o=.frz ob (.lst vs))/\zF K H ws vs
 | .dic kvs,o=>∃ l,o=.dK l/\yZ K H kvs l
 | .ins C fs,o=>∃ dx l,o=.ins C dx l/\yZ K H fs l
 | .fzd kvs,o=>∃ ob l,o=.frz ob (.dK l)/\yZ K H kvs l
def xP (K:zA) (H:Hp) (G:Hw):Prop:=∀ a o,G a=some o->∃ u,H a=some u/\hJ K H o u
theorem yZ.mono {K:zA} {H H':Hp} (g:yK K H H') {κ:Type}:∀ {l:List (κ×W)} {l':List (κ×V)},yZ K H l l'->yZ K H' l l'
 | [],_,h=>h
 |_::_,_,⟨v,t,e,h,r⟩=>⟨v,t,e,h.mono g,yZ.mono g r⟩
theorem hJ.mono {K:zA} {H H':Hp} (g:yK K H H'):∀ {o:O} {u:HO},hJ K H o u->hJ K H' o u
 | .lst _,_,⟨vs,e,r⟩=>⟨vs,e,r.mono g⟩
 | .fix _,_,⟨vs,ob,e,r⟩=>⟨vs,ob,e,r.mono g⟩
 | .dic _,_,⟨l,e,r⟩=>⟨l,e,r.mono g⟩
 | .ins _ _,_,⟨dx,l,e,r⟩=>⟨dx,l,e,r.mono g⟩
 | .fzd _,_,⟨ob,l,e,r⟩=>⟨ob,l,e,r.mono g⟩
theorem hJ.notX {K:zA} {H:Hp}:∀ {o:O} {u:HO},isFz o=false->hJ K H o u->¬ isX u
 | .lst _,_,_,⟨vs,e,r⟩=>by subst e;exact id
 | .fix _,_,_,⟨vs,ob,e,r⟩=>by rcases e with e|e<;>subst e<;>exact id
 | .dic _,_,_,⟨l,e,r⟩=>by subst e;exact id
 | .ins _ _,_,_,⟨dx,l,e,r⟩=>by subst e;exact id
 | .fzd _,_,m,_=>nomatch m
theorem hJ.notTup {K:zA} {H:Hp}:∀ {o:O} {u:HO},hJ K H o u->(∀ xs,u≠.tup xs)/\∀ ob xs,u≠.frz ob (.tup xs)
 | .lst _,_,⟨vs,e,r⟩=>by subst e;exact ⟨(fun _ z=>nomatch z),(fun _ _ z=>nomatch z)⟩
 | .fix _,_,⟨vs,ob,e,r⟩=>by
  rcases e with e|e<;>subst e
  .exact ⟨(fun _ z=>nomatch z),(fun _ _ z=>nomatch z)⟩
  .exact ⟨(fun _ z=>nomatch z),(fun _ _ z=>nomatch z)⟩
 | .dic _,_,⟨l,e,r⟩=>by subst e;exact ⟨(fun _ z=>nomatch z),(fun _ _ z=>nomatch z)⟩
 | .ins _ _,_,⟨dx,l,e,r⟩=>by subst e;exact ⟨(fun _ z=>nomatch z),(fun _ _ z=>nomatch z)⟩
 | .fzd _,_,⟨ob,l,e,r⟩=>by subst e;exact ⟨(fun _ z=>nomatch z),(fun _ _ z=>nomatch z)⟩
section
variable {K : zA} {H H' : Hp} {G : Hw} {a : Addr}
theorem xP.free (h:xP K H G) (e:H a=none):G a=none:=by
 cases q:G a with
 |none=>rfl
 |some o =>
  obtain ⟨u,e',_⟩:=h a o q;rw [e] at e';cases e'
theorem zaC {u:HO} (h:∀ xs,¬ Rd H a (.tup xs)) (hx:∀ o,isX o->H a≠some o):yK K H (yH H a u):=⟨fun b xs s=>by
 rcases s with s|s
 .have hb:b≠a:=by rintro rfl;exact h xs s
  left
  rcases s with s|⟨o,s⟩
  .exact .inl (by rw [zR hb];exact s)
  .exact .inr ⟨o,by rw [zR hb];exact s⟩
 .exact .inr s,fun b o i s=>by
 have hb:b≠a:=by rintro rfl;exact hx o i s
 rw [zR hb];exact s⟩
theorem xJ {u:HO} (h:H a=none):yK K H (yH H a u):=zaC (fun xs s=>by
 rcases s with s|⟨o,s⟩<;>(rw [h] at s;cases s)) (fun o _ s=>by rw [h] at s;cases s)
theorem xP.grow {o:O} {u:HO} (h:xP K H G) (e:G a=some o) (m:isFz o=false:=by rfl):yK K H (yH H a u):=by
 obtain ⟨u',e',r⟩:=h a o e;refine zaC (fun xs s=>?_) (fun o' i s=>?_)
 .rcases s with s|⟨ob,s⟩
  .rw [e'] at s;cases s;exact r.notTup.1 xs rfl
  .rw [e'] at s;cases s;exact r.notTup.2 ob xs rfl
 .rw [e'] at s;cases s;exact r.notX m i
theorem xP.new {o:O} {u:HO} (h:xP K H G) (e:H a=none) (r:hJ K (yH H a u) o u):xP K (yH H a u) (put G a o):=fun b ob q=>by
 by_cases hb:b=a
 .subst hb;rw [zX] at q;cases q;exact ⟨u,yO,r⟩
 .rw [yD hb] at q;obtain ⟨u',e',r'⟩:=h b ob q;exact ⟨u',by rw [zR hb];exact e',r'.mono (xJ e)⟩
theorem xP.tup {u:HO} (h:xP K H G) (e:H a=none):xP K (yH H a u) G:=fun b ob q=>by
 obtain ⟨u',e',r'⟩:=h b ob q;exact ⟨u',by rw [zR (yR e' e)];exact e',r'.mono (xJ e)⟩
theorem xP.chg {o o':O} {u:HO} (h:xP K H G) (e:G a=some o') (r:hJ K (yH H a u) o u) (m:isFz o'=false:=by rfl):xP K (yH H a u) (put G a o):=fun b ob q=>by
 by_cases hb:b=a
 .subst hb;rw [zX] at q;cases q;exact ⟨u,yO,r⟩
 .rw [yD hb] at q;obtain ⟨u',e',r'⟩:=h b ob q;exact ⟨u',by rw [zR hb];exact e',r'.mono (h.grow e m)⟩
theorem xP.lst {ws:List W} (h:xP K H G) (e:G a=some (.lst ws)):∃ vs,H a=some (.lst vs)/\zF K H ws vs:=by
 obtain ⟨u,e',vs,rfl,r⟩:=h a _ e;exact ⟨vs,e',r⟩
theorem xP.dic {kvs:List (yM×W)} (h:xP K H G) (e:G a=some (.dic kvs)):∃ l,H a=some (.dK l)/\yZ K H kvs l:=by
 obtain ⟨u,e',vs,rfl,r⟩:=h a _ e;exact ⟨vs,e',r⟩
theorem xP.ins {C:Addr} {fs:List (Str×W)} (h:xP K H G) (e:G a=some (.ins C fs)):∃ dx l,H a=some (.ins C dx l)/\yZ K H fs l:=by
 obtain ⟨u,e',dx,vs,rfl,r⟩:=h a _ e;exact ⟨dx,vs,e',r⟩
end
def yV (G:Hw) (a:Addr):Option (List W):=match G a with
 |some (.lst ws)=>some ws
 |some (.fix ws)=>some ws
 |_=>none
theorem xP.seq {K:zA} {H:Hp} {G:Hw} {a:Addr} {ws:List W} (h:xP K H G) (e:yV G a=some ws):∃ vs,rQ K H a vs/\zF K H ws vs:=by
 unfold yV at e
 split at e
 .rename_i q;cases e;obtain ⟨vs,e',r⟩:=h.lst q;exact ⟨vs,.of e',r⟩
 .rename_i q;cases e;obtain ⟨u,e',vs,ob,z,r⟩:=h a _ q;refine ⟨vs,?_,r⟩;rcases z with rfl|rfl
  .exact .inl (.inl e')
  .exact .inl (.inr ⟨_,e'⟩)
 .cases e
abbrev wK:=List (Option W)
def yY (K:zA) (H:Hp) (σ:wK) (τ:L2.St):Prop:=σ.length=τ.length/\∀ (i:Nat) (w:W),σ[i]?=some (some w)->∃ v,τ[i]?=some (some v)/\wX K H w v
theorem yY.mono {K:zA} {H H':Hp} (g:yK K H H') {σ:wK} {τ:L2.St} (h:yY K H σ τ):yY K H' σ τ :=
 ⟨h.1,fun i w e=>let ⟨v,e',r⟩:=h.2 i w e;⟨v,e',r.mono g⟩⟩
theorem yY.set {K:zA} {H:Hp} {σ:wK} {τ:L2.St} {w:W} {v:V} (h:yY K H σ τ) (r:wX K H w v) (i:Nat):yY K H (σ.set i (some w)) (τ.set i (some v)):=by
 refine ⟨by simp [h.1],fun j w' e=>?_⟩;rw [List.getElem?_set] at e ⊢
 by_cases hj:i=j
 .subst hj;rw [if_pos rfl] at e ⊢
  by_cases hl:i<σ.length
  .rw [if_pos hl] at e;cases e;rw [if_pos (h.1▸hl)];exact ⟨v,rfl,r⟩
  .rw [if_neg hl] at e;cases e
 .rw [if_neg hj] at e ⊢;exact h.2 j w' e
abbrev Q3:=W->Hw->Prop
abbrev E3:=wK->Hw->Q3->Prop
abbrev T3:=wK->Hw->(Bool->Hw->Prop)->Prop
abbrev A3:=wK->Hw->(List W->Hw->Prop)->Prop
structure End3 where
 nx:wK->Hw->Prop
 rt:Q3
 bk:wK->Hw->Prop:=fun _ _=>False
 ct:wK->Hw->Prop:=fun _ _=>False
abbrev S3:=End3->wK->Hw->Prop
section
variable (K : zA)
def yA (t:E3):TE:=fun τ H Q=>∃ σ G,yY K H σ τ/\xP K H G/\t σ G fun w G'=>∀ v H',yK K H H'->wX K H' w v->xP K H' G'->Q v H'
def qR (t:T3):TT:=fun τ H Q=>∃ σ G,yY K H σ τ/\xP K H G/\t σ G fun b G'=>∀ H',yK K H H'->xP K H' G'->Q b H'
def vY (t:A3):TA:=fun τ H Q=>∃ σ G,yY K H σ τ/\xP K H G/\t σ G fun ws G'=>∀ vs H',yK K H H'->zF K H' ws vs->xP K H' G'->Q vs H'
structure Fine (H:Hp) (D3:End3) (D:Ends):Prop where
 nx:∀ σ G τ H',yK K H H'->yY K H' σ τ->xP K H' G->D3.nx σ G->D.nx τ H'
 bk:∀ σ G τ H',yK K H H'->yY K H' σ τ->xP K H' G->D3.bk σ G->D.bk τ H'
 ct:∀ σ G τ H',yK K H H'->yY K H' σ τ->xP K H' G->D3.ct σ G->D.ct τ H'
 rt:∀ w G v H',yK K H H'->wX K H' w v->xP K H' G->D3.rt w G->D.rt v H'
def lowS (t:S3):TS:=fun D τ H=>∃ σ G D3,yY K H σ τ/\xP K H G/\Fine K H D3 D/\t D3 σ G
end
theorem Fine.grow {K:zA} {H H':Hp} {D3:End3} {D:Ends} (f:Fine K H D3 D) (g:yK K H H'):Fine K H' D3 D :=
 ⟨fun σ G τ H2 g2=>f.nx σ G τ H2 (g.trans g2),fun σ G τ H2 g2=>f.bk σ G τ H2 (g.trans g2),fun σ G τ H2 g2=>f.ct σ G τ H2 (g.trans g2),fun w G v H2 g2=>f.rt w G v H2 (g.trans g2)⟩
def wJ (t:E3):Prop:=∀ σ G (Q Q':Q3),(∀ w G',Q w G'->Q' w G')->t σ G Q->t σ G Q'
def vB (t:T3):Prop:=∀ σ G (Q Q':Bool->Hw->Prop),(∀ w G',Q w G'->Q' w G')->t σ G Q->t σ G Q'
def qK (t:A3):Prop:=∀ σ G (Q Q':List W->Hw->Prop),(∀ w G',Q w G'->Q' w G')->t σ G Q->t σ G Q'
section
variable {K : zA} {H : Hp} {σ : wK} {τ : L2.St} {G : Hw}
theorem yC {t:E3} {R:Q3} {S:VK} (m:wJ t) (hs:yY K H σ τ) (ha:xP K H G) (h:t σ G R)
  (k:∀ w G1 v H1,yK K H H1->yY K H1 σ τ->wX K H1 w v->xP K H1 G1->R w G1->S v H1):yA K t τ H S :=
 ⟨σ,G,hs,ha,m σ G _ _ (fun w G' r v H' g rp ab=>k w G' v H' g (hs.mono g) rp ab r) h⟩
theorem tF {t:T3} {R:Bool->Hw->Prop} {S:Bool->Hp->Prop} (m:vB t) (hs:yY K H σ τ) (ha:xP K H G) (h:t σ G R)
  (k:∀ b G1 H1,yK K H H1->yY K H1 σ τ->xP K H1 G1->R b G1->S b H1):qR K t τ H S :=
 ⟨σ,G,hs,ha,m σ G _ _ (fun w G' r H' g ab=>k w G' H' g (hs.mono g) ab r) h⟩
theorem uI {t:A3} {R:List W->Hw->Prop} {S:List V->Hp->Prop} (m:qK t) (hs:yY K H σ τ) (ha:xP K H G) (h:t σ G R)
  (k:∀ w G1 v H1,yK K H H1->yY K H1 σ τ->zF K H1 w v->xP K H1 G1->R w G1->S v H1):vY K t τ H S :=
 ⟨σ,G,hs,ha,m σ G _ _ (fun w G' r v H' g rp ab=>k w G' v H' g (hs.mono g) rp ab r) h⟩
end
end L3
namespace L2
section
variable {X : Cx} {e : PySem.Expr} {st : PySem.Stmt} {sts : List PySem.Stmt}
theorem PE.imp {t t':TE} (h:PE X e t) (k:∀ σ H Q,t' σ H Q->t σ H Q):PE X e t':=fun pins s σ H Q I q=>h pins s σ H Q I (k σ H Q q)
theorem PT.imp {t t':TT} (h:PT X e t) (k:∀ σ H Q,t' σ H Q->t σ H Q):PT X e t':=fun pins s σ H Q I q=>h pins s σ H Q I (k σ H Q q)
theorem PW.imp {t t':TT} (h:PW X e t) (k:∀ σ H Q,t' σ H Q->t σ H Q):PW X e t':=fun wh pins s σ H Q I q=>h wh pins s σ H Q I (k σ H Q q)
theorem PA.imp {es:List PySem.Expr} {t t':TA} (h:PA X es t) (k:∀ σ H Q,t' σ H Q->t σ H Q):PA X es t':=fun pos pins s σ H Q I q=>h pos pins s σ H Q I (k σ H Q q)
theorem PS.imp {t t':TS} (h:PS X st t) (k:∀ D σ H,t' D σ H->t D σ H):PS X st t':=fun pins s σ H D I q=>h pins s σ H D I (k D σ H q)
theorem mR.imp {t t':TS} (h:mR X sts t) (k:∀ D σ H,t' D σ H->t D σ H):mR X sts t':=fun pins s σ H D I q=>h pins s σ H D I (k D σ H q)
end
end L2
set_option genInjectivity false
set_option genSizeOfSpec false
namespace L2
open PySem PySem.Spec PyProof.Rows PySem.Calls
def clo (env:Env):List (Str×NameKind)->List (Str×Addr)->List (Str×Addr)
 | [],acc=>acc
 | (n,k)::r,acc=>if (k==NameKind.free)=true then clo env r ((n,(env.cells.lookup n).getD 0)::acc) else clo env r acc
theorem cN (env:Env):∀ (l:List (Str×NameKind)) (acc:List (Str×Addr)) {x:Str} {c:Addr},(clo env l acc).lookup x=some c ->
  ((∃ k,(x,k)∈l/\k=.free)/\c=(env.cells.lookup x).getD 0)\/acc.lookup x=some c
 | [],acc,x,c,h=>.inr h
 | (n,k)::r,acc,x,c,h=>by
  unfold clo at h
  by_cases hk:(k==NameKind.free)=true
  .rw [if_pos hk] at h;rcases cN env r _ h with ⟨⟨k',m,e⟩,q⟩|h
   .exact .inl ⟨⟨k',Zo _ m,e⟩,q⟩
   .rw [ZB] at h
    by_cases hx:(x==n)=true
    .rw [hx] at h;have e:x=n:=eq_of_beq hx;subst e;exact .inl ⟨⟨k,zzT,eq_of_beq hk⟩,(Zz h).symm⟩
    .rw [Bool.not_eq_true] at hx;rw [hx] at h;exact .inr h
  .rw [if_neg hk] at h;rcases cN env r _ h with ⟨⟨k',m,e⟩,q⟩|h
   .exact .inl ⟨⟨k',Zo _ m,e⟩,q⟩
   .exact .inr h
theorem cL (env:Env):∀ (l:List (Str×NameKind)) (acc:List (Str×Addr)) {x:Str},(∃ c,acc.lookup x=some c)->∃ c,(clo env l acc).lookup x=some c
 | [],acc,x,h=>h
 | (n,k)::r,acc,x,h=>by
  unfold clo
  split
  .refine cL env r _ ?_;rw [ZB];cases x==n
   .exact h
   .exact ⟨_,rfl⟩
  .exact cL env r _ h
theorem cM (env:Env):∀ (l:List (Str×NameKind)) (acc:List (Str×Addr)) {x:Str},(x,NameKind.free)∈l->∃ c,(clo env l acc).lookup x=some c
 | (n,k)::r,acc,x,h=>by
  unfold clo;rcases Zk.mp h with h|h
  .cases h;rw [if_pos (by decide)];refine cL env r _ ?_;rw [ZB,beq_self_eq_true];exact ⟨_,rfl⟩
  .split
   .exact cM env r _ h
   .exact cM env r _ h
theorem nF {env:Env} {scope:Scope} (h:∀ x,(x,NameKind.free)∈scope.names->∃ c,env.cells.lookup x=some c):closureFor scope env=pure (clo env scope.names []):=by
 simp only [closureFor]
 have key:∀ (l:List (Str×NameKind)) (acc:List (Str×Addr)),(∀ x,(x,NameKind.free)∈l->∃ c,env.cells.lookup x=some c) ->
   (forIn l acc fun x r=>match x with|(name,kind)=>if (kind==NameKind.free)=true then (do let a ← cellOf env name;pure (ForInStep.yield ((name,a)::r))) else pure (ForInStep.yield r):Sem (List (Str×Addr)))=pure (clo env l acc):=by
  intro l
  induction l with
  |nil=>intro acc _;rfl
  |cons p r ih =>
   intro acc hh;obtain ⟨n,k⟩:=p;rw [Zbp]
   by_cases hk:(k==NameKind.free)=true
   .have ek:k=.free:=eq_of_beq hk;obtain ⟨c,hc⟩:=hh n (by rw [ek];exact zzT);simp only [hk,if_true];have e1:cellOf env n=pure c:=by unfold cellOf;rw [hc]
    rw [e1];simp only [pure_bind];rw [ih _ fun x hx=>hh x (Zo _ hx)]
    conv=>rhs;unfold clo
    rw [if_pos hk,hc]
    all_goals rfl
   .simp only [hk];rw [if_neg (by simp)];simp only [pure_bind];rw [ih _ fun x hx=>hh x (Zo _ hx)]
    conv=>rhs;unfold clo
    rw [if_neg hk]
 have:=key scope.names [] h;simpa using this
theorem wT {env:Env}:∀ {names:List (Str×NameKind)} {x:Str} {k':NameKind},
  (names.map fun (n,k)=>if (k==NameKind.free&&env.scope.kind==.function&&env.kindOf n==some .cell) then (n,NameKind.cell) else (n,k)).lookup x=some k' ->
  ∃ k,names.lookup x=some k/\(k'=k\/(k=.free/\k'=.cell))
 | [],_,_,h=>by simp at h
 | (n,k)::r,x,k',h=>by
  rw [zzU] at h
  by_cases hc:(k==NameKind.free&&env.scope.kind==.function&&env.kindOf n==some .cell)=true
  .simp only [hc,if_true] at h;rw [ZB] at h ⊢
   cases hx:x==n with
   |true =>
    rw [hx] at h;cases h;simp only [Zp,beq_iff_eq] at hc;exact ⟨k,rfl,.inr ⟨hc.1.1,rfl⟩⟩
   |false=>rw [hx] at h;exact wT h
  .simp only [hc,if_false] at h;rw [if_neg (by simp)] at h;rw [ZB] at h ⊢
   cases hx:x==n with
   |true=>rw [hx] at h;cases h;exact ⟨k,rfl,.inl rfl⟩
   |false=>rw [hx] at h;exact wT h
theorem qY {α:Type}:∀ {l:List (Str×α)} {x:Str} {v:α},l.lookup x=some v->(x,v)∈l
 | (n,k)::r,x,v,h=>by
  rw [ZB] at h
  cases hx:x==n with
  |true=>rw [hx] at h;cases h;rw [eq_of_beq hx];exact zzT
  |false=>rw [hx] at h;exact Zo _ (qY h)
theorem cK:∀ (l:List (Str×NameKind)) (n:Nat) (acc:List (Str×Addr)) {x:Str} {c:Addr},(cellsFrom n l acc).lookup x=some c->acc.lookup x=some c\/((x,NameKind.cell)∈l/\n<=c)
 | [],n,acc,x,c,h=>.inl h
 | (y,k)::r,n,acc,x,c,h=>by
  unfold cellsFrom at h
  split at h
  .rename_i hk;rcases cK r _ _ h with h|⟨h,q⟩
   .rw [ZB] at h
    by_cases hx:(x==y)=true
    .rw [hx] at h;cases eq_of_beq hx;cases eq_of_beq hk;exact .inr ⟨zzT,Zcp (Zz h)⟩
    .rw [Bool.not_eq_true] at hx;rw [hx] at h;exact .inl h
   .exact .inr ⟨Zo _ h,Nat.le_of_succ_le q⟩
  .rcases cK r _ _ h with h|⟨h,q⟩
   .exact .inl h
   .exact .inr ⟨Zo _ h,q⟩
theorem cH:∀ (l:List (Str×NameKind)) (n:Nat) (acc:List (Str×Addr)) {x:Str},(∃ c,acc.lookup x=some c)->∃ c,(cellsFrom n l acc).lookup x=some c
 | [],n,acc,x,h=>h
 | (y,k)::r,n,acc,x,h=>by
  unfold cellsFrom
  split
  .refine cH r _ _ ?_;rw [ZB];cases x==y
   .exact h
   .exact ⟨_,rfl⟩
  .exact cH r _ _ h
theorem zcQ:∀ (l:List (Str×NameKind)) (n:Nat) (acc:List (Str×Addr)) {x:Str},(x,NameKind.cell)∈l->∃ c,(cellsFrom n l acc).lookup x=some c
 | (y,k)::r,n,acc,x,h=>by
  unfold cellsFrom;rcases Zk.mp h with h|h
  .cases h;rw [if_pos (by decide)];refine cH r _ _ ?_;rw [ZB,beq_self_eq_true];exact ⟨_,rfl⟩
  .split
   .exact zcQ r _ _ h
   .exact zcQ r _ _ h
def Inj (n:Nat) (l:List (Str×Addr)):Prop:=(∀ x c,l.lookup x=some c->c<n)/\∀ x y c,l.lookup x=some c->l.lookup y=some c->x=y
theorem zcP:∀ (l:List (Str×NameKind)) (n:Nat) (acc:List (Str×Addr)),Inj n acc->∀ x y c,(cellsFrom n l acc).lookup x=some c->(cellsFrom n l acc).lookup y=some c->x=y
 | [],n,acc,h=>h.2
 | (z,k)::r,n,acc,h=>by
  unfold cellsFrom
  split
  .refine zcP r (n+1) ((z,n)::acc) ⟨fun x c e=>?_,fun x y c e e'=>?_⟩
   .rw [ZB] at e
    cases hx:x==z with
    |true=>rw [hx] at e;cases e;exact Zbf _
    |false=>rw [hx] at e;exact Zaz (h.1 x c e)
   .rw [ZB] at e e'
    cases hx:x==z with
    |true =>
     rw [hx] at e;cases e
     cases hy:y==z with
     |true=>rw [eq_of_beq hx,eq_of_beq hy]
     |false=>rw [hy] at e';exact absurd (h.1 y _ e') (Zad _)
    |false =>
     rw [hx] at e
     cases hy:y==z with
     |true=>rw [hy] at e';cases e';exact absurd (h.1 x _ e) (Zad _)
     |false=>rw [hy] at e';exact h.2 x y c e e'
  .exact zcP r n acc h
theorem cJ:∀ (l:List (Str×NameKind)) (h:Heap) (acc:List (Str×Addr)),(∀ x c,acc.lookup x=some c->∃ v,h.IsCell c v)->∀ x c,(cellsFrom h.objs.size l acc).lookup x=some c->∃ v,(pushCells h l).IsCell c v
 | [],h,acc,k=>k
 | (z,q)::r,h,acc,k=>by
  unfold cellsFrom pushCells
  split
  .have:=cJ r (h.push { cls:=.type "cell", data:=.cell none }) ((z,h.objs.size)::acc) (fun x c e=>by
    rw [ZB] at e
    cases hx:x==z with
    |true=>rw [hx] at e;cases e;exact ⟨_,_,Zd _ rfl,rfl⟩
    |false =>
     rw [hx] at e;obtain ⟨v,o,ho,hd⟩:=k x c e;exact ⟨v,o,Zb _ ho,hd⟩)
   rw [ZF] at this;exact this
  .exact cJ r h acc k
theorem nfe {M:Model} {A:Around} {E:Value->Shared->Prop} {s:Shared} {sc:Scope} {gl:Addr} {cl:List (Str×Addr)} {qual:Str} {env:Env} {Q:Env->Shared->Prop}
  (hQ:∀ h',h'=pushCells (s.heap.push { cls:=.type "dict", data:=.dict #[] }) sc.names->h'.Ns s.heap.objs.size (fun _=>none)->(∀ b o,s.heap.get? b=some o->h'.get? b=some o) ->
   Q { scope:=sc,locals:=s.heap.objs.size,globals:=gl,cells:=cellsFrom (s.heap.objs.size+1) sc.names cl,qual:=qual,func:=none,code:=env.code,frame:=env.frame,builtins:=env.builtins } { s with heap:=h' }) :
  wpAny M A (newFunctionEnv sc gl cl [] qual none .none (some env)) Q E s:=by
 simp only [newFunctionEnv,Option.isSome_some,if_true];refine Za (wpAny_alloc (Za (wpAny_layCells _ (fun name kind cells=>by cases hkc:kind==NameKind.cell<;>simp [hkc]) _ _ _ _ ?_)));rw [show ({ s with heap:=s.heap.push { cls:=.type "dict", data:=.dict #[] } }:Shared).heap.objs.size=s.heap.objs.size+1 from ZF ..];rw [ZbC];refine Za (Zc (Zc (hQ _ rfl ((Heap.Ns.new s.heap (.type "dict")).keeps (pushCells_keeps _ _)) fun b o e=>pushCells_keeps _ _ b o (Zb _ e))))
end L2
namespace L2
open PySem PySem.Spec PyProof.Rows PySem.Calls
theorem cQ (elt target iter:Expr) (ifs:List Expr) (scope:Scope) (pos:Pos) (it acc:Value) (env:Env) :
  compTurn (.ListComp elt [⟨target,iter,ifs,0⟩] scope pos) 0 it acc env=(do
   standAt iter.pos
   match ← pyNext it with
   |none=>pure (.done .next)
   |some v =>
    letOwnedTupleGo target it v
    assign target env v
    let mut ok:=true
    for c in ifs do
     if ok then ok ← isTrue c env (eval c env)
    if ok then
     (do let _ ← call (.builtin "list.append") [acc,← eval elt env])
    again (.compLoop (.ListComp elt [⟨target,iter,ifs,0⟩] scope pos) 0 it acc env)):=by rfl
section
variable {prog : Program} {w : World} {A : Around} {R : Result → Shared → Prop} {s : Shared}
theorem cP {elt target iter:Expr} {ifs:List Expr} {scope:Scope} {pos:Pos} {it acc:Value} {env:Env} (I:Nat->Shared->Prop)
  (turn:∀ n s,I n s->wpAny (model prog w) A (pyNext it) (fun r s₁=>match r with
   |none=>R (.ok .next) s₁
   |some v=>wpAny (model prog w) A (letOwnedTupleGo target it v) (fun _ s₁=>wpAny (model prog w) A (assign target env v) (fun _ s₂ =>
     wpAny (model prog w) A (forIn ifs true fun c r=>if r=true then do let ok ← isTrue c env (eval c env);pure (ForInStep.yield ok) else pure (ForInStep.yield r)) (fun ok s₃ =>
      if ok=true then wpAny (model prog w) A (eval elt env) (fun x s₄ =>
       wpAny (model prog w) A (call (.builtin "list.append") [acc,x]) (fun _ s₅=>∃ m,m<n/\I m s₅) (fun _ _=>False) s₄) (fun _ _=>False) s₃
      else ∃ m,m<n/\I m s₃) (fun _ _=>False) s₂) (fun _ _=>False) s₁) (fun _ _=>False) s₁) (fun _ _=>False) s)
  (n:Nat) (h:I n s) :
  codeAny (model prog w) A (.compLoop (.ListComp elt [⟨target,iter,ifs,0⟩] scope pos) 0 it acc env) R s:=by
 refine codeAny_loop rfl I (fun n s hI=>?_) n h;show wpAny _ A ((compTurn (.ListComp elt [⟨target,iter,ifs,0⟩] scope pos) 0 it acc env).onRaise (fun x=>do noteFrame x env;theTreesLotGoes x)) _ _ s;refine wpAny_noted ?_;rw [cQ];refine Za (Zce (Za (ZN (turn n s hI) (fun r s₁ h₁=>?_) fun _ _ h'=>h'.elim)))
 cases r with
 |none=>exact Zc h₁
 |some v =>
  refine Za (ZN h₁ (fun _ s₁ h₁=>?_) fun _ _ h'=>h'.elim);refine Za (ZN h₁ (fun _ s₂ h₂=>Za (ZN h₂ (fun ok s₃ h₃=>?_) fun _ _ h'=>h'.elim)) fun _ _ h'=>h'.elim)
  cases ok with
  |false=>exact Zc ⟨rfl,h₃⟩
  |true =>
   exact Za (Za (ZN h₃ (fun x s₄ h₄=>Za (ZN h₄ (fun _ s₅ h₅=>Zc (Zc ⟨rfl,h₅⟩)) fun _ _ h'=>h'.elim)) fun _ _ h'=>h'.elim))
end
structure IsBlock (X:Cx) (N:List Str) (sc:Scope) (X':Cx):Prop where
 prog:X'.prog=X.prog
 w:X'.w=X.w
 K:X'.K=X.K
 mg:X'.mg=X.mg
 base:X'.base=X.base
 A:X'.A=X.A
 calm:X'.calm=X.calm
 N:X'.N=N
 scope:X'.env.scope=relabel sc X.env
 xe:X'.xe=fun _ _=>False
 fn:∀ x,sc.names.lookup x=some .cell->X'.fn x=true
def ocl (X:Cx) (sc:Scope) (C:Addr):List (Str×Addr):=cellsFrom (C+1) sc.names (clo X.env sc.names [])
def kI (X:Cx) (N:List Str) (sc:Scope) (C:Addr) (s2:Shared) (H2:Hp) (fp:List Addr) (pins:List (Addr×Obj)):Cx where
 prog:=X.prog
 w:=X.w
 K:=X.K
 mg:=X.mg
 base:=X.base
 A:=X.A
 N:=N
 s₀:=s2
 H₀:=H2
 env:=compEnvC sc (ocl X sc C) C X.env
 outer:=X.stack
 stack:=X.stack
 ex:=fp
 fn:=fun x=>sc.names.lookup x==some .cell
 calm:=X.calm
 pn:=X.pn++pins
 xe:=fun _ _=>False
theorem za9 (X:Cx) (N:List Str) (sc:Scope) (C:Addr) (s2:Shared) (H2:Hp) (fp:List Addr) (pins:List (Addr×Obj)):IsBlock X N sc (kI X N sc C s2 H2 fp pins) :=
 ⟨rfl,rfl,rfl,rfl,rfl,rfl,rfl,rfl,rfl,rfl,fun x h=>by show (sc.names.lookup x==some .cell)=true;rw [h];rfl⟩
structure BlkSc (X:Cx) (sc:Scope):Prop where
 kind:sc.kind=.function
 cells:∀ x,(x,NameKind.cell)∈sc.names->sc.names.lookup x=some .cell
 frees:∀ x,(x,NameKind.free)∈sc.names->sc.names.lookup x=some .free
 free:∀ x,(x,NameKind.free)∈sc.names->X.env.kindOf x=some .cell\/X.env.kindOf x=some .free
 names:∀ y∈sc.names,y.2=.local->sc.names.lookup y.1=some .local
section
variable {X : Cx} {pins : List (Addr × Obj)} {σ : St} {H2 : Hp} {s2 : Shared} {sc : Scope} {N : List Str} {C : Addr} {fp : List Addr}
theorem vE (ok:X.Ok) (B:BlkSc X sc) {x:Str} {c:Addr} (h:(clo X.env sc.names []).lookup x=some c):X.env.cells.lookup x=some c/\sc.names.lookup x=some .free:=by
 rcases cN _ _ _ h with ⟨⟨k,m,e⟩,q⟩|h
 .subst e;have hf:=B.free x m;obtain ⟨c',hc'⟩:=ok.has x hf;rw [hc'] at q;exact ⟨by rw [hc',q];rfl,B.frees x m⟩
 .simp at h
theorem vM (ok:X.Ok) (B:BlkSc X sc) {x:Str} {c:Addr} (h:(ocl X sc C).lookup x=some c):(X.env.cells.lookup x=some c/\sc.names.lookup x=some .free)\/(sc.names.lookup x=some .cell/\C<c):=by
 rcases cK _ _ _ h with h|⟨h,q⟩
 .exact .inl (vE ok B h)
 .exact .inr ⟨B.cells x h,q⟩
theorem B_has (B:BlkSc X sc) {x:Str} (h:(relabel sc X.env).names.lookup x=some .cell\/(relabel sc X.env).names.lookup x=some .free):(x,NameKind.free)∈sc.names\/(x,NameKind.cell)∈sc.names:=by
 rcases h with h|h
 .obtain ⟨k,hk,e⟩:=wT h;rcases e with e|⟨e,_⟩
  .subst e;exact .inr (qY hk)
  .subst e;exact .inl (qY hk)
 .obtain ⟨k,hk,e⟩:=wT h;rcases e with e|⟨e,z⟩
  .subst e;exact .inl (qY hk)
  .cases z
theorem zb0 {x:Str} (h:(x,NameKind.free)∈sc.names\/(x,NameKind.cell)∈sc.names):∃ c,(ocl X sc C).lookup x=some c:=by
 rcases h with h|h
 .exact cH _ _ _ (cM _ _ _ h)
 .exact zcQ _ _ _ h
theorem zcR (I2:Inv X pins σ H2 s2) {x:Str} {c:Addr} (h:X.env.cells.lookup x=some c):c<s2.heap.objs.size:=by
 obtain ⟨v,o,e,_⟩:=I2.cell x c h;exact Zf e
theorem mZ (I2:Inv X pins σ H2 s2) (B:BlkSc X sc) (f2:∀ b∈fp,kF X pins H2 b) (hfp:∀ b∈fp,b<s2.heap.objs.size) (hC:s2.heap.objs.size<=C):(kI X N sc C s2 H2 fp pins).Ok where
 mod:=I2.ok.mod
 kind:=B.kind
 glob:=I2.ok.glob
 blt:=I2.ok.blt
 above:=hC
 inj:=zcP _ _ _ ⟨fun x c h=>Zaz (Zi (zcR I2 (vE I2.ok B h).1) hC),fun x y c hx hy=>I2.ok.inj x y c (vE I2.ok B hx).1 (vE I2.ok B hy).1⟩
 has:=fun x h=>zb0 (B_has B h)
 cab:=fun x c h e=>by
  rcases vM I2.ok B e with ⟨_,q⟩|⟨_,q⟩
  .have h:(sc.names.lookup x==some .cell)=true:=h;rw [q] at h;cases h
  .exact Zy hC (Za5 q)
 hd:=I2.ok.hd
 frames:=I2.ok.frames
 stk:=.inl rfl
 exf:=fun b hb=>⟨Zl (Zi (hfp b hb) hC),fun x c h=>by
  rcases vM I2.ok B h with ⟨q,_⟩|⟨_,q⟩
  .exact (f2 b hb).2.2.2.2.1 x c q
  .exact Z1 (ZbW (Zi (hfp b hb) hC) q)⟩
 bs:=I2.bs
 bsz:=Zy I2.ok.bsz I2.sz
 noex:=fun b o e hb=>by
  rcases (f2 b hb).2.2.2.1 with h|h
  .exact I2.ok.noex b o e h
  .exact absurd (Zi (Zf e) (Zy I2.ok.bsz h)) (Zad _)
 exfs:=fun b hb hm=>by
  rcases Zk.mp (I2.stkSub b hm) with h|h
  .exact (f2 b hb).2.1 h
  .exact (f2 b hb).2.2.1 h
 funs:=I2.stack
 frf:=I2.stkFree
theorem zcV {s4:Shared} {τ:St} {m:Str->Option Value} (I2:Inv X pins σ H2 s2) (B:BlkSc X sc) (f2:∀ b∈fp,kF X pins H2 b) (hfp:∀ b∈fp,b<s2.heap.objs.size) (hC:s2.heap.objs.size<=C)
  (ho:s4.os=s2.os) (hg:s4.gens=s2.gens) (keep:∀ b o,s2.heap.get? b=some o->s4.heap.get? b=some o) (hcs:∀ x c,(ocl X sc C).lookup x=some c->∃ v,s4.heap.IsCell c v) (hns:s4.heap.Ns C m) (hl:τ.length=N.length)
  (cap:∀ (i:Nat) (x:Str) (v:V),N[i]?=some x->τ[i]?=some (some v)->Vis (relabel sc X.env) x->sc.names.lookup x=some .free/\∃ j:Nat,X.N[j]?=some x/\σ[j]?=some (some v)) :
  Inv (kI X N sc C s2 H2 fp pins) [] τ H2 s4:=by
 refine ⟨mZ I2 B f2 hfp hC,ho,by rw [hg];exact I2.bare,Un.kept keep,⟨m,hns,fun i x v hN hτ hv=>?_⟩,hcs,I2.hok.fresh hC,fun x c h=>?_,fun p hp=>?_,I2.hok.kept keep,hl⟩
 .obtain ⟨hnl,j,hj,hσ⟩:=cap i x v hN hτ hv;have hmem:=qY hnl;have hf:=B.free x hmem
  have hkind:(relabel sc X.env).names.lookup x=some .cell\/(relabel sc X.env).names.lookup x=some .free:=by
   rcases hv with h|h|h
   .obtain ⟨k,hk,e⟩:=wT h;rw [hnl] at hk;cases hk;rcases e with e|⟨_,e⟩<;>cases e
   .exact .inl h
   .exact .inr h
  obtain ⟨m0,_,hl0⟩:=I2.loc;obtain ⟨u,r,lk⟩:=hl0 j x v hj hσ (hf.elim (fun h=>.inr (.inl h)) fun h=>.inr (.inr h));refine ⟨u,r,.inr ⟨hkind,?_⟩⟩;rcases lk with ⟨hk,_⟩|⟨_,c,hc,hcell⟩
  .rw [hk] at hf;rcases hf with hf|hf<;>cases hf
  .obtain ⟨c',hc'⟩:=zb0 (X:=X) (C:=C) (.inl hmem);rcases vM I2.ok B hc' with ⟨e,_⟩|⟨e,_⟩
   .rw [hc] at e;cases e;refine ⟨c,hc',?_⟩;obtain ⟨o,e1,r1⟩:=hcell;exact ⟨o,keep _ _ e1,r1⟩
   .rw [hnl] at e;cases e
 .rcases vM I2.ok B h with ⟨e,_⟩|⟨_,e⟩
  .exact I2.freeC x c e
  .exact I2.hok.fresh (Zy hC (Za5 e))
 .have hp':p∈X.pn++pins:=by simpa [kI] using hp
  obtain ⟨q1,q2,q3,q4,q5⟩:=I2.pin p hp';refine ⟨keep _ _ q1,q2,Zl (Zi (Zf q1) hC),fun z=>?_,q5⟩;rcases Zk.mp (I2.stkSub _ z) with h|h
  .exact q3 h
  .exact q4 h
end
theorem vS.adopt {P:Program} {w:World} {H:Hp} {h h':Heap} {a:Addr} {o:HO} (x:vS P w H h) (k:∀ b u v,H b=some v->h.get? b=some u->h'.get? b=some u) (hn:H a=none) (new:xR P w (yH H a o) h' a o):vS P w (yH H a o) h':=fun b u e=>by
 by_cases hb:b=a
 .subst hb;rw [yO] at e;cases e;exact new
 .rw [zR hb] at e;refine (x b u e).stay (fun c v hc q=>?_) (fun c q=>by rw [zR (yR q hn)];exact q) fun c xs q=>by rw [zR (yR q hn)];exact q
  rcases hc with rfl|hc
  .exact k _ _ _ e q
  .exact k _ _ _ hc q
end L2
namespace L2
open PySem PySem.Spec PyProof.Rows PySem.Calls
def PTs (X:Cx) (ifs:List Expr) (t:TT):Prop :=
 ∀ (pins:List (Addr×Obj)) (s:Shared) (σ:St) (H:Hp) (Q:Bool->Hp->Prop),Inv X pins σ H s->t σ H Q ->
  wpAny (model X.prog X.w) X.A (forIn ifs true fun c r=>if r=true then do let ok ← isTrue c X.env (eval c X.env);pure (ForInStep.yield ok) else pure (ForInStep.yield r)) (TP X pins σ Q) X.xe s
theorem zfU {X:Cx}:PTs X [] (fun _ H Q=>Q true H):=fun _ _ _ H _ I h=>wpAny_tests_nil ⟨H,I,h⟩
theorem zfT {X:Cx} {c:Expr} {t:TT} (h:PT X c t):PTs X [c] t:=fun pins s σ H Q I q=>wpAny_tests_one (h pins s σ H Q I q)
def tLCb (J:It) (τ:St) (g:TG) (tc:TT) (te:TE) (Qf:List V->Hp->Prop) (H1:Hp):Prop :=
 ∃ Pv:Nat->Nat->St->List V->Hp->Prop,(∃ m,Pv 0 m τ [] H1)/\∀ i m τ acc H,Pv i m τ acc H ->
  (J.stop i H/\Qf acc H) \/
  (J.go i H/\acc.length<sizeLine/\∀ x H',J.yld i H x H'->g x τ H' fun σ2 H2=>tc σ2 H2 fun b H3=>if b=true then te σ2 H3 fun v H4=>∃ m',m' < m/\Pv (i+1) m' σ2 (acc++[v]) H4 else ∃ m',m' < m/\Pv (i+1) m' σ2 acc H3)
structure Off (X:Cx) (pins:List (Addr×Obj)) (C:Addr):Prop where
 ne:C≠X.env.locals
 ge:X.s₀.heap.objs.size<=C
 cl:∀ x c,X.env.cells.lookup x=some c->c≠C
 pn:∀ p∈X.pn++pins,p.1≠C
theorem Off.turned {X:Cx} {pins:List (Addr×Obj)} {C:Addr} {σ:St} {H:Hp} {s:Shared} {h':Heap} (o:Off X pins C) (I:Inv X pins σ H s) (hn:H C=none) (k:Heap.SameBut C s.heap h'):Inv X pins σ H { s with heap:=h' } :=
 I.turned (t':=s.toks) (fun b u hb e=>k.extBut b u hb e) hn o.ne (.inr o.ge) o.cl o.pn
theorem Inv.off {X:Cx} {pins:List (Addr×Obj)} {σ:St} {H:Hp} {s:Shared} {C:Addr} (I:Inv X pins σ H s) (hC:s.heap.objs.size<=C):Off X pins C :=
 ⟨(Zl (Zi I.lt hC)).symm,Zy I.sz hC,fun x c h=>by
  obtain ⟨v,o,e,_⟩:=I.cell x c h;exact Zl (Zi (Zf e) hC),fun p hp=>Zl (Zi (Zf (I.pin p hp).1) hC)⟩
abbrev kM (its:List Value) (n:Nat):Obj:={ cls:=.type "list", data:=.seq its.toArray n }
set_option maxHeartbeats 8000000 in
theorem zce {X:Cx} {pins:List (Addr×Obj)} {σ τ:St} {H2:Hp} {s2:Shared} {sc:Scope} {N:List Str} {fp:List Addr} {it:Addr} {tn:Nat->Heap->Prop} {J:It} {tg iter elt:Expr} {ifs:List Expr} {pos:Pos} {g:TG} {tc:TT} {te:TE}
  {Qf:List V->Hp->Prop} {RR:Value->Addr->Result->Shared->Prop} {E:Value->Shared->Prop}
  (hc:X.calm=true) (I2:Inv X pins σ H2 s2) (T:Turn X.prog X.w X.K tg J fp it tn) (t0:tn 0 s2.heap) (f2:∀ b∈fp,kF X pins H2 b) (B:BlkSc X sc) (hl:τ.length=N.length)
  (cap:∀ (i:Nat) (x:Str) (v:V),N[i]?=some x->τ[i]?=some (some v)->Vis (relabel sc X.env) x->sc.names.lookup x=some .free/\∃ j:Nat,X.N[j]?=some x/\σ[j]?=some (some v))
  (hg:∀ X',IsBlock X N sc X'->PG X' tg g) (ht:∀ X',IsBlock X N sc X'->PTs X' ifs tc) (he:∀ X',IsBlock X N sc X'->PE X' elt te)
  (h:tLCb J τ g tc te Qf H2)
  (fin:∀ (D C:Addr) (acc:List V) (H':Hp) (s':Shared) (m:Str->Option Value),D≠C->H' D=none->H' C=none->Off X pins C->Inv X pins σ (yH H' D (.lst acc)) s'->s'.heap.Ns C m->Qf acc H'->RR (.ref D) C (.ok .next) s') :
  wpAny (model X.prog X.w) X.A (newList []) (fun acc s₃=>wpAny (model X.prog X.w) X.A (newFunctionEnv sc X.env.globals (clo X.env sc.names []) [] X.env.qual none .none (some X.env)) (fun cenv s₄ =>
   codeAny (model X.prog X.w) X.A (.compStart (.ListComp elt [⟨tg,iter,ifs,0⟩] sc pos) 0 (.ref it) acc { cenv with scope:=relabel sc X.env }) (RR acc cenv.locals) s₄) E s₃) E s2:=by
 refine ZA (nfe fun h₁ heq hns₁ hk₁=>?_);dsimp only at heq hns₁ hk₁ ⊢;generalize hH2:s2.heap.push { cls:=.type "list", dict:=none,data:=.seq ([]:List Value).toArray }=G2 at heq hns₁ hk₁ ⊢
 have hcs:∀ x c,(ocl X sc G2.objs.size).lookup x=some c->∃ v,h₁.IsCell c v:=fun x c e=>by
  rw [heq];refine cJ sc.names (G2.push { cls:=.type "dict", data:=.dict #[] }) (clo X.env sc.names []) (fun y d q=>?_) x c (by rw [ZF];exact e);obtain ⟨v,o,ho,hd⟩:=I2.cell y d (vE I2.ok B q).1;exact ⟨v,o,Zb _ (hH2▸Zb _ ho),hd⟩
 have hC:G2.objs.size=s2.heap.objs.size+1:=by rw [← hH2,ZF]
 have hDC:s2.heap.objs.size≠G2.objs.size:=by rw [hC];exact Zl (Zbf _)
 have hCle:s2.heap.objs.size<=G2.objs.size:=by rw [hC];exact Zbj _
 have below:∀ b,b<s2.heap.objs.size->b≠G2.objs.size/\b≠s2.heap.objs.size:=fun b hb=>⟨by rw [hC];exact Zl (Zaz hb),Zl hb⟩
 have hfp:∀ b∈fp,b<s2.heap.objs.size:=fun b hb=>by
  obtain ⟨o,e,_⟩:=T.obj _ _ t0 b hb;exact Zf e
 have hDf:∀ b∈fp,b≠s2.heap.objs.size:=fun b hb=>(below b (hfp b hb)).2;have hCf:∀ b∈fp,b≠G2.objs.size:=fun b hb=>(below b (hfp b hb)).1;have old:∀ b o,s2.heap.get? b=some o->h₁.get? b=some o:=fun b o e=>hk₁ b o (hH2▸Zb _ e);have hacc:h₁.get? s2.heap.objs.size=some (kM [] 0):=hk₁ _ _ (hH2▸Zd _ rfl)
 have fresh:∀ a,s2.heap.objs.size<=a->s2.heap.get? a=none:=fun a ha=>by
  cases e:s2.heap.get? a with
  |none=>rfl
  |some o'=>exact absurd (Zf e) (Nat.not_lt.mpr ha)
 have hsub:∀ b∈rH X.stack,b<s2.heap.objs.size:=fun b hb=>by
  obtain ⟨_,o,e,_⟩:=I2.stack.mem hb;exact Zf e
 obtain ⟨Pv,⟨m0,p0⟩,step⟩:=h;generalize hD:s2.heap.objs.size=D at *;generalize hCe:G2.objs.size=C at *;have hXb:IsBlock X N sc (kI X N sc C s2 H2 fp pins):=za9 ..;generalize hXd:kI X N sc C s2 H2 fp pins=X' at hXb
 have J0:Inv X' [] τ H2 { s2 with heap:=h₁ }:=by
  rw [← hXd];exact zcV I2 B f2 (by rw [hD];exact hfp) (by rw [hD];exact hCle) rfl rfl old hcs hns₁ hl cap
 have offD:Off X' [] D:=by
  rw [← hXd];refine ⟨hDC,by show s2.heap.objs.size<=D;rw [hD];exact zzR _,fun x c hx=>?_,fun p hp=>?_⟩
  .rcases vM I2.ok B hx with ⟨q,_⟩|⟨_,q⟩
   .have:=zcR I2 q;rw [hD] at this;exact Zl this
   .exact Z1 (Nat.lt_of_le_of_lt hCle q)
  .have hp':p∈X.pn++pins:=by simpa [kI] using hp
   have:=Zf (I2.pin p hp').1;rw [hD] at this;exact Zl this
 have offC:Off X pins C:=I2.off (by rw [hD];exact hCle)
 have fpok:∀ {H':Hp} {ob:Obj},(∀ b∈fp,H' b=none)->∀ b∈fp,kF X' [(D,ob)] H' b:=fun {H' ob} hn b hb=>by
  rw [← hXd];refine ⟨hn b hb,hCf b hb,fun z=>(mZ (N:=N) I2 B f2 (by rw [hD];exact hfp) (by rw [hD];exact hCle)).exfs b hb z,.inl hb,fun x c hx=>(mZ (N:=N) I2 B f2 (by rw [hD];exact hfp) (by rw [hD];exact hCle)).exf b hb |>.2 x c hx,fun p hp=>?_⟩;rcases Z3.mp hp with hp|hp
  .exact (f2 b hb).2.2.2.2.2 p hp
  .rw [zzO hp];exact (hDf b hb).symm
 have Dfs:D∉X'.fs:=by
  rw [← hXd];intro z;exact Zad _ (hsub D z)
 have pinD:∀ {H':Hp} {τ':St} {s':Shared} {its:List Value} {n:Nat},Inv X' [] τ' H' s'->H' D=none->s'.heap.get? D=some (kM its n)->Inv X' [(D,kM its n)] τ' H' s':=fun {H' τ' s' its n} I hn e =>
  I.pins_of fun p hp=>by
   rw [zzO hp];exact ⟨e,hn,by rw [← hXd];exact hDC,Dfs,fun v z=>nomatch z⟩
 have loop:∀ s₃:Shared,s₃={ s2 with heap:=h₁ } ->
   codeAny (model X.prog X.w) X.A (.compLoop (.ListComp elt [⟨tg,iter,ifs,0⟩] sc pos) 0 (.ref it) (.ref D) (compEnvC sc (ocl X sc C) C X.env)) (RR (.ref D) C) s₃:=by
  rintro s₃ rfl;have tn0:tn 0 h₁:=T.keep _ _ _ t0 fun b _ o e=>old b o e;have fr0:∀ b∈fp,H2 b=none:=fun b hb=>(f2 b hb).1;have Df0:H2 D=none:=I2.hok.fresh (by rw [hD];exact zzR _);have eX:X'.env=compEnvC sc (ocl X sc C) C X.env:=by rw [← hXd];rfl
  have ep:X'.prog=X.prog:=hXb.prog;have ew:X'.w=X.w:=hXb.w;have eA:X'.A=X.A:=hXb.A;refine cP (fun k s'=>∃ i τ' acc H' its n,Inv X' [] τ' H' s'/\tn i s'.heap/\(∀ b∈fp,H' b=none)/\H' D=none/\s'.heap.get? D=some (kM its n)/\zE acc its/\acc.length<=sizeLine/\Pv i k τ' acc H') ?_ m0 ⟨0,τ,[],H2,[],0,J0,tn0,fr0,Df0,hacc,.nil,ZX _,p0⟩;rintro k s3 ⟨i,τ3,acc,H3,its,n,I3,st3,fr3,D3,o3,v3,lenA,p3⟩;have I3':=pinD I3 D3 o3;rcases step i k τ3 acc H3 p3 with ⟨stop,qf⟩|⟨go,hsz,turn⟩
  .have td:=T.done X' ep ew hXb.K (by rw [hXb.calm];exact hc) i _ s3 τ3 H3 (fun _ _=>False) I3' (fpok fr3) st3 stop;rw [eA] at td;refine yG td fun r s4 ⟨hr,I4⟩=>?_;subst hr;have o4:=(I4.pin (D,kM its n) (Zw _ (Zx.mpr rfl))).1;obtain ⟨m4,hn4,_⟩:=I4.loc;rw [eX] at hn4;refine fin D C acc H3 s4 m4 hDC D3 ?_ offC ?_ hn4 qf
   .have:=I4.free;rw [eX] at this;exact this
   .have base:Un (rH X.stack) fp H2 H3 s2.heap s4.heap:=by have:=I4.base;rw [← hXd] at this;exact this
    have hb:∀ b o,s2.heap.get? b=some o->b≠D:=fun b o e=>by have:=Zf e;rw [hD] at this;exact Zl this
    refine I2.call' (ch:=fp) (by have:=I4.os;rw [← hXd] at this;exact this) ⟨base.keep,base.slot,fun b o e n' hx=>?_,base.there,fun b xs e=>?_,fun b o u e=>?_,fun b ps e=>?_⟩ ?_ I4.bare ?_
    .rw [zR (hb b o e)];exact base.free b o e n' hx
    .rw [zR (yR (base.tups b xs e) D3)];exact base.tups b xs e
    .rw [zR (yR (base.frzs b o u e) D3)];exact base.frzs b o u e
    .obtain ⟨mo,e'⟩:=base.tbls b ps e;exact ⟨mo,by rw [zR (yR e' D3)];exact e'⟩
    .have hk:=I4.hok;rw [ep,ew] at hk;exact hk.adopt (fun b u v _ q=>q) D3 ⟨lenA,its,n,v3,o4⟩
    .intro b hb';obtain ⟨q1,q2,q3,q4,q5,q6⟩:=f2 b hb';exact ⟨q4,q2,q5,q6⟩
  .have td:=T.item X' ep ew hXb.K (by rw [hXb.calm];exact hc) i _ s3 τ3 H3 (fun _ _=>False) I3' (fpok fr3) st3 go;rw [eA] at td;refine yG td fun r s4 ⟨u,hr,h4⟩=>?_;subst hr;refine yG h4 fun _ s5 ⟨x,H5,I5,r5,y5,st5,fr5⟩=>?_;have I5':=I5.pinned (fpok fr5) (T.obj _ _ st5);have q1:=hg X' hXb _ s5 τ3 H5 x u _ I5' r5 (turn x H5 y5);rw [ep,ew,eA,eX,hXb.xe] at q1;refine yG q1 fun _ s6 ⟨σ6,H6,I6,q6⟩=>?_;have q2:=ht X' hXb _ s6 σ6 H6 _ I6 q6;rw [ep,ew,eA,eX,hXb.xe] at q2;refine yG q2 fun b s7 ⟨H7,I7,q7⟩=>?_
   have back:∀ {H8:Hp} {s8:Shared},Inv X' ([(D,kM its n)]++sU fp s5.heap) σ6 H8 s8->Inv X' [] σ6 H8 s8/\tn (i+1) s8.heap/\(∀ b∈fp,H8 b=none)/\H8 D=none/\s8.heap.get? D=some (kM its n):=fun {H8 s8} I8=>by
    have pp:∀ p,p∈[(D,kM its n)]++sU fp s5.heap->_:=fun p hp=>I8.pin p (Zw _ hp);refine ⟨I8.pins_of (pins':=[]) (fun p hp=>nomatch hp),T.keep _ _ _ st5 fun b hb o e=>(pp (b,o) (Zw _ (kO hb e))).1,fun b hb=>?_,?_,?_⟩
    .obtain ⟨o,e,d⟩:=T.obj _ _ st5 b hb;exact (pp (b,o) (Zw _ (kO hb e))).2.1
    .exact (pp (D,kM its n) (Z7 _ (Zx.mpr rfl))).2.1
    .exact (pp (D,kM its n) (Z7 _ (Zx.mpr rfl))).1
   cases b with
   |false =>
    rw [if_neg (by decide)] at q7;rw [if_neg (by decide)];obtain ⟨m',hm,p'⟩:=q7;obtain ⟨b1,b2,b3,b4,b5⟩:=back I7;exact ⟨m',hm,i+1,σ6,acc,H7,its,n,b1,b2,b3,b4,b5,v3,lenA,p'⟩
   |true =>
    rw [if_pos rfl] at q7;rw [if_pos rfl];have q3:=he X' hXb _ s7 σ6 H7 _ I7 q7;rw [ep,ew,eA,eX,hXb.xe] at q3;refine yG q3 fun y s8 ⟨v,H8,I8,r8,m',hm,p'⟩=>?_;obtain ⟨b1,b2,b3,b4,b5⟩:=back I8;refine append_at (hsz:=by show its.toArray.size<=sizeLine;rw [zzS,← v3.length];exact Za5 hsz) b5 fun h₅ hs₅ hD₅=>?_;refine ⟨m',hm,i+1,σ6,acc++[v],H8,its++[y],n+1,offD.turned b1 b4 hs₅,T.keep _ _ _ b2 fun b hb o e=>hs₅.extBut b o (hDf b hb) e,b3,b4,?_,v3.append (.cons r8 .nil),by rw [zzW];exact hsz,p'⟩;show h₅.get? D=_;rw [hD₅,List.push_toArray]
 exact codeAny_compStart_list (loop _ rfl) (T.self _ 0 _ _ _ (T.keep _ _ _ t0 fun b _ o e=>old b o e) (loop _ rfl))
def tLC (wi:TI) (cap:St->St) (g:TG) (tc:TT) (te:TE):TE:=fun σ H Q=>wi σ H fun J H1=>tLCb J (cap σ) g tc te (fun acc H'=>∀ p,H' p=none->Q (.ref p) (yH H' p (.lst acc))) H1
section
variable {X : Cx} {sc : Scope} {N : List Str} {tg iter elt : Expr} {ifs : List Expr} {pos : Pos} {wi : TI} {g : TG} {tc : TT} {te : TE} {cap : St → St}
def Caps (X:Cx) (sc:Scope) (N:List Str) (cap:St->St):Prop:=∀ σ:St,σ.length=X.N.length->(cap σ).length=N.length /\
 ∀ (i:Nat) (x:Str) (v:V),N[i]?=some x->(cap σ)[i]?=some (some v)->Vis (relabel sc X.env) x->sc.names.lookup x=some .free/\∃ j:Nat,X.N[j]?=some x/\σ[j]?=some (some v)
theorem pe_lc (hc:X.calm=true) (hi:PI X tg iter wi) (B:BlkSc X sc) (hcap:Caps X sc N cap)
  (hg:∀ X',IsBlock X N sc X'->PG X' tg g) (ht:∀ X',IsBlock X N sc X'->PTs X' ifs tc) (he:∀ X',IsBlock X N sc X'->PE X' elt te)
  (hs:∀ x,foldedSetIterable iter X.env x=pure x:=by intro _;rfl):PE X (.ListComp elt [⟨tg,iter,ifs,0⟩] sc pos) (tLC wi cap g tc te):=by
 intro pins s σ H Q I h;rw [eval_ListComp];refine wpAny_comprehension_free (use:=none) rfl hs (nF fun x hx=>I.ok.has x (B.free x hx)) B.kind B.names (yG (hi pins s σ H _ I h) fun v s1 h1=>yG h1 fun itv s2 h2=>?_);obtain ⟨it,fp,tn,J,H2,e,I2,T,st2,f2,q⟩:=h2;subst e;obtain ⟨cl,cc⟩:=hcap σ I.len;refine zce (RR:=fun acc C=>compPost (model X.prog X.w) X.A X.xe none (EP X pins σ Q) acc C) hc I2 T st2 f2 B cl cc hg ht he q fun D C acc H' s' m hDC hD hC off I' hn qf=>?_;refine ⟨m,hn,fun h' hk=>⟨.ref D,_,off.turned I' (by rw [zR hDC.symm];exact hC) hk,rfl,qf D hD⟩⟩
theorem zdA {i:Nat} {y:Str} {py spos:Pos} (hc:X.calm=true) (hi:PI X tg iter wi) (B:BlkSc X sc) (hcap:Caps X sc N cap)
  (hg:∀ X',IsBlock X N sc X'->PG X' tg g) (ht:∀ X',IsBlock X N sc X'->PTs X' ifs tc) (he:∀ X',IsBlock X N sc X'->PE X' elt te)
  (hN:X.N.Nodup) (hy:X.N[i]?=some y) (hx:Loc X.env.scope y) (hf:X.fn y=true\/X.env.scope.names.lookup y=some .local)
  (hsw:swapsWith (.ListComp elt [⟨tg,iter,ifs,0⟩] sc pos) (some (.Name y py)) spos.line X.env=pure true)
  (hs:∀ x,foldedSetIterable iter X.env x=pure x:=by intro _;rfl):PS X (.Assign [.Name y py] (.ListComp elt [⟨tg,iter,ifs,0⟩] sc pos) spos) (tAsg (tLC wi cap g tc te) (zee i)):=by
 intro pins s σ H D I h;rw [exec_Assign_Name_used _ _ _ _ hsw];refine Za (Zce (Za ?_));show wpAny _ X.A (do let _ ← comprehension (.ListComp elt [⟨tg,iter,ifs,0⟩] sc pos) sc X.env _ (newList []) false (eval iter X.env) (some (assign (.Name y py) X.env))) _ _ s
 refine Za (ZN (wpAny_comprehension_free (use:=some (assign (.Name y py) X.env)) (Q:=fun _ s'=>SP X pins D .next s') rfl hs (nF fun x hx=>I.ok.has x (B.free x hx)) B.kind B.names
  (yG (hi pins s σ H _ I h) fun v s1 h1=>yG h1 fun itv s2 h2=>?_)) (fun _ s' hq=>Zc (Zc hq)) fun _ _ e=>e)
 obtain ⟨it,fp,tn,J,H2,e,I2,T,st2,f2,q⟩:=h2;subst e;obtain ⟨cl,cc⟩:=hcap σ I.len;refine zce (RR:=fun acc C=>compPost (model X.prog X.w) X.A X.xe (some (assign (.Name y py) X.env)) (fun _ s'=>SP X pins D .next s') acc C) hc I2 T st2 f2 B cl cc hg ht he q fun D' C acc H' s' m hDC hD hC off I' hn qf=>?_;show wpAny _ X.A (assign (.Name y py) X.env (.ref D')) _ _ _;refine wpAny_assign_Name (gO I' hN hy hx (v:=.ref D') rfl (fun s'' I'' hsm=>?_) hf);obtain ⟨a,hsb,ha⟩:=hsm
 have hCa:C≠a:=by
  rcases ha with ha|ha
  .rw [ha];exact off.ne
  .exact (off.cl y a ha).symm
 refine ⟨m,hn.sameBut hsb hCa,fun h' hk=>⟨_,_,off.turned I'' (by rw [zR hDC.symm];exact hC) hk,qf D' hD⟩⟩
end
end L2
namespace L3
open PySem PySem.Spec PyProof.Rows L2 PySem.SeqAt
mutual
def vV:W->W->Bool
 | .non,.non=>true
 | .bl a,.bl b=>a==b
 | .bl a,.int j=>(if a then 1 else 0)==j
 | .int i,.bl b=>i==(if b then 1 else 0)
 | .int i,.int j=>i==j
 | .str x,.str y=>x==y
 | .tup xs,.tup ys=>wB xs ys
 |_,_=>false
def wB:List W->List W->Bool
 | [],[]=>true
 |x::xs,y::ys=>vV x y&&wB xs ys
 |_,_=>false
end
mutual
def uP:W->Bool
 | .ref _=>false
 | .ty _=>false
 | .lsf _=>false
 | .exc _ _ _=>false
 | .dcf _ _=>false
 | .tup ws=>wU ws
 |_=>true
def wU:List W->Bool
 | []=>true
 |w::ws=>uP w&&wU ws
end
mutual
def nG:W->Nat
 | .tup ws=>qP ws+1
 |_=>0
def qP:List W->Nat
 | []=>0
 |w::ws=>max (nG w) (qP ws)
end
theorem xN {w:W} {ws:List W}:wU (w::ws)=true↔uP w=true/\wU ws=true:=by simp [wU]
section
variable {X : Cx} {pins : List (Addr × Obj)} {σ : L2.St} {H : Hp} {s : Shared}
theorem W.ind {P:W->Prop} (non:P .non) (bl:∀ b,P (.bl b)) (int:∀ i,P (.int i)) (str:∀ x,P (.str x)) (ty:∀ n,P (.ty n)) (ref:∀ a,P (.ref a)) (tup:∀ ws,(∀ w∈ws,P w)->P (.tup ws)) (lsf:∀ ws,P (.lsf ws)) (exc:∀ C ns ws,P (.exc C ns ws)) (dcf:∀ ks ws,P (.dcf ks ws)):∀ w:W,P w:=fun w =>
 W.rec (motive_1:=P) (motive_2:=fun ws=>∀ w∈ws,P w) non bl int str ty ref (fun ws h=>tup ws h) (fun ws _=>lsf ws) (fun C ns ws _=>exc C ns ws) (fun ks ws _=>dcf ks ws) (fun _ h=>nomatch h) (fun w ws h hs v hv=>(Zk.mp hv).elim (fun e=>e▸h) (hs v)) w
theorem za7:∀ (ws:List W),(∀ w∈ws,uP w=true->vV w w=true)->wU ws=true->wB ws ws=true:=by
 intro ws
 induction ws with
 |nil=>intro _ _;simp [wB]
 |cons w ws ih =>
  intro h hp;have h':=xN.mp hp;simp only [wB,h w zzT h'.1,ih (fun z hz=>h z (Zo _ hz)) h'.2,Bool.and_self]
theorem zel {w:W}:uP w=true->vV w w=true:=by
 induction w using W.ind with
 |non=>intro _;simp [vV]
 |bl _=>intro _;simp [vV]
 |int _=>intro _;simp [vV]
 |str _=>intro _;simp [vV]
 |ty _=>intro h;cases h
 |lsf _=>intro h;cases h
 |exc _ _ _=>intro h;cases h
 |dcf _ _=>intro h;cases h
 |ref _=>intro h;cases h
 |tup ws ih=>intro h;exact za7 ws ih h
theorem gI (I:Inv X pins σ H s):∀ (xs ys:List W) (vs:List V),(∀ x∈xs,∀ (y:W) (v:V),wX X.K H x v->wX X.K H y v->uP x=true->uP y=true->x=y)->zF X.K H xs vs->zF X.K H ys vs->wU xs=true->wU ys=true->xs=ys:=by
 intro xs
 induction xs with
 |nil =>
  intro ys vs _ h h' _ _
  cases ys with
  |nil=>rfl
  |cons y ys=>obtain ⟨_,_,e,_⟩:=h';rw [show _=[] from h] at e;cases e
 |cons x xs ih =>
  intro ys vs hx h h' px py;obtain ⟨v,r,e,q,t⟩:=h;subst e
  cases ys with
  |nil=>cases h'
  |cons y ys =>
   obtain ⟨v',r',e',q',t'⟩:=h';cases e';rw [hx x zzT y v q q' (xN.mp px).1 (xN.mp py).1,ih ys r (fun z hz=>hx z (Zo _ hz)) t t' (xN.mp px).2 (xN.mp py).2]
theorem zbJ (I:Inv X pins σ H s):∀ (x y:W) (v:V),wX X.K H x v->wX X.K H y v->uP x=true->uP y=true->x=y:=by
 intro x
 induction x using W.ind with
 |tup xs ih =>
  intro y v h h' hx hy;obtain ⟨a,vs,e,q,r⟩:=h;subst e
  cases y with
  |tup ys =>
   obtain ⟨b,us,e',q',r'⟩:=h';cases e';have:=I.tuple_inj q q';subst this;rw [gI I xs ys vs ih r r' hx hy]
  |ref _=>cases hy
  |ty _=>cases hy
  |lsf _=>cases hy
  |exc _ _ _=>cases hy
  |dcf _ _=>cases hy
  |non=>cases h'
  |bl _=>cases h'
  |int _=>cases h'
  |str _=>cases h'
 |ty _=>intro y v _ _ hx;cases hx
 |lsf _=>intro y v _ _ hx;cases hx
 |exc _ _ _=>intro y v _ _ hx;cases hx
 |dcf _ _=>intro y v _ _ hx;cases hx
 |ref _=>intro y v _ _ hx;cases hx
 |non =>
  intro y v h h' _ hy;cases h
  cases y with
  |tup ys=>obtain ⟨_,_,e,_⟩:=h';cases e
  |ref _=>cases hy
  |ty _=>cases hy
  |lsf _=>cases hy
  |exc _ _ _=>cases hy
  |dcf _ _=>cases hy
  |non=>rfl
  |bl _=>cases h'
  |int _=>cases h'
  |str _=>cases h'
 |bl _ =>
  intro y v h h' _ hy;cases h
  cases y with
  |tup ys=>obtain ⟨_,_,e,_⟩:=h';cases e
  |ref _=>cases hy
  |ty _=>cases hy
  |lsf _=>cases hy
  |exc _ _ _=>cases hy
  |dcf _ _=>cases hy
  |non=>cases h'
  |bl _=>cases h';rfl
  |int _=>cases h'
  |str _=>cases h'
 |int _ =>
  intro y v h h' _ hy;cases h
  cases y with
  |tup ys=>obtain ⟨_,_,e,_⟩:=h';cases e
  |ref _=>cases hy
  |ty _=>cases hy
  |lsf _=>cases hy
  |exc _ _ _=>cases hy
  |dcf _ _=>cases hy
  |non=>cases h'
  |bl _=>cases h'
  |int _=>cases h';rfl
  |str _=>cases h'
 |str _ =>
  intro y v h h' _ hy;cases h
  cases y with
  |tup ys=>obtain ⟨_,_,e,_⟩:=h';cases e
  |ref _=>cases hy
  |ty _=>cases hy
  |lsf _=>cases hy
  |exc _ _ _=>cases hy
  |dcf _ _=>cases hy
  |non=>cases h'
  |bl _=>cases h'
  |int _=>cases h'
  |str _=>cases h';rfl
theorem zdx (I:Inv X pins σ H s) {xs ys:List W} {vs:List V} (h:zF X.K H xs vs) (h':zF X.K H ys vs) (hx:wU xs=true) (hy:wU ys=true):xs=ys :=
 gI I xs ys vs (fun x _=>zbJ I x) h h' hx hy
def uN (xs ys:List W) (j:Nat):Bool:=match xs[j]?,ys[j]? with
 |some x,some y=>vV x y
 |_,_=>false
theorem tJ:∀ xs ys:List W,((List.range (min xs.length ys.length)).all (uN xs ys)&&xs.length==ys.length)=wB xs ys
 | [],[]=>rfl
 | [],_::_=>by simp [wB]
 |_::_,[]=>by simp [wB]
 |x::xs,y::ys=>by
  have ih:=tJ xs ys;simp only [Zh,Nat.add_min_add_right,wB];rw [List.range_succ_eq_map,Zaq,ZbT];have h0:uN (x::xs) (y::ys) 0=vV x y:=rfl;have h1:(uN (x::xs) (y::ys) ∘ Nat.succ)=uN xs ys:=by funext j;simp [uN]
  rw [h0,h1,← ih,Bool.and_assoc];congr 2;simp
theorem zek {xs ys:List W} (h:xs.length≠ys.length):wB xs ys=false:=by
 rw [← tJ];have:(xs.length==ys.length)=false:=by simpa using h
 rw [this,Bool.and_false]
theorem zcC {xs ys:List W} (h:xs.length=ys.length):(List.range xs.length).all (uN xs ys)=wB xs ys:=by
 rw [← tJ,h,Nat.min_self];simp
theorem wO (I:Inv X pins σ H s) {ws:List W} {v:V} {u:Value} (h:wX X.K H (.tup ws) v) (r:zB v u):∃ a vs its,v=.ref a/\u=.ref a/\tB X.K H a vs/\zF X.K H ws vs/\zE vs its/\s.heap.IsTuple a its.toArray/\ws.length<=sizeLine:=by
 obtain ⟨a,vs,rfl,q,rs⟩:=h;obtain ⟨its,vr,it,hl⟩:=I.tuple q;exact ⟨a,vs,its,rfl,r,q,rs,vr,it,by rw [← rs.length];exact hl⟩
theorem zaG (I:Inv X pins σ H s):∀ (xs ys:List W) (vs vs':List V) (us us':List Value) (A:Around),(∀ x∈xs,∀ (y:W) (v v':V) (u u':Value) (A:Around),wX X.K H x v->zB v u->wX X.K H y v'->zB v' u'->uP x=true->uP y=true->A.units+min (nG x) (nG y)<cLine->EqAt A s u u' (vV x y)) ->
  zF X.K H xs vs->zE vs us->zF X.K H ys vs'->zE vs' us'->wU xs=true->wU ys=true ->
  A.units+min (qP xs) (qP ys)<cLine->∀ (j:Nat) (h1:j<us.length) (h2:j<us'.length),EqAt A s us[j] us'[j] (uN xs ys j):=by
 intro xs
 induction xs with
 |nil=>intro ys vs vs' us us' A _ h r _ _ _ _ _ j h1;rw [show _=[] from h] at r;cases r;exact absurd h1 (Za6 _)
 |cons x xs ih =>
  intro ys vs vs' us us' A he h r h' r' hx hy hu j h1 h2
  cases ys with
  |nil=>rw [show _=[] from h'] at r';cases r';exact absurd h2 (Za6 _)
  |cons y ys =>
   obtain ⟨v,t,e,h,hs⟩:=h;obtain ⟨v',t',e',h',hs'⟩:=h';subst e;subst e'
   cases r with
   |cons r rs =>
    cases r' with
    |cons r' rs' =>
     have px:=xN.mp hx;have py:=xN.mp hy;simp only [qP] at hu
     cases j with
     |zero=>exact he x zzT y _ _ _ _ A h r h' r' px.1 py.1 (by omega)
     |succ j=>exact ih ys _ _ _ _ A (fun z hz=>he z (Zo _ hz)) hs rs hs' rs' px.2 py.2 (by omega) j (Nat.lt_of_succ_lt_succ h1) (Nat.lt_of_succ_lt_succ h2)
theorem ze9 (I:Inv X pins σ H s):∀ (x y:W) (v v':V) (u u':Value) (A:Around),wX X.K H x v->zB v u->wX X.K H y v'->zB v' u'->uP x=true->uP y=true->A.units+min (nG x) (nG y)<cLine->EqAt A s u u' (vV x y):=by
 intro x
 induction x using W.ind with
 |tup xs ih =>
  intro y v v' u u' A h r h' r' hx hy hu;obtain ⟨a,vs,its,rfl,rfl,q,rs,vr,it,_⟩:=wO I h r
  cases y with
  |tup ys =>
   obtain ⟨b,us,its',rfl,rfl,q',rs',vr',it',_⟩:=wO I h' r'
   by_cases e:a=b
   .subst e;have:=I.tuple_inj q q';subst this;have:=zdx I rs rs' hx hy;subst this;rw [show vV (.tup xs) (.tup xs)=true from zel (w:=.tup xs) hx];exact EqAt.same _
   .show EqAt A s _ _ (wB xs ys);rw [← tJ];have l1:its.toArray.size=xs.length:=by rw [zzS,← vr.length,rs.length]
    have l2:its'.toArray.size=ys.length:=by rw [zzS,← vr'.length,rs'.length]
    rw [← l1,← l2];refine EqAt.of_refs e (RcAt.tuples it it' (by simp only [nG] at hu;omega) fun j j1 j2=>?_);exact zaG I xs ys _ _ _ _ A.in1 ih rs vr rs' vr' hx hy (by simp only [nG] at hu;show A.units+1+_<_;omega) j (by simpa using j1) (by simpa using j2)
  |ref _=>cases hy
  |ty _=>cases hy
  |lsf _=>cases hy
  |exc _ _ _=>cases hy
  |dcf _ _=>cases hy
  |non=>cases h';cases r';exact EqAt.tuple_none it (by omega)
  |bl _=>cases h';cases r';exact EqAt.tuple_bool _ it (by omega)
  |int _=>cases h';obtain ⟨t,rfl⟩:=r';exact EqAt.tuple_int _ _ it (by omega)
  |str _=>cases h';obtain ⟨t,rfl⟩:=r';exact EqAt.tuple_str _ _ it (by omega)
 |ty _=>intro y v v' u u' A _ _ _ _ hx;cases hx
 |lsf _=>intro y v v' u u' A _ _ _ _ hx;cases hx
 |exc _ _ _=>intro y v v' u u' A _ _ _ _ hx;cases hx
 |dcf _ _=>intro y v v' u u' A _ _ _ _ hx;cases hx
 |ref _=>intro y v v' u u' A _ _ _ _ hx;cases hx
 |non =>
  intro y v v' u u' A h r h' r' hx hy hu;cases h;cases r
  cases y with
  |tup ys=>obtain ⟨b,us,its',rfl,rfl,q',rs',vr',it',_⟩:=wO I h' r';exact EqAt.none_tuple it' (by omega)
  |ref _=>cases hy
  |ty _=>cases hy
  |lsf _=>cases hy
  |exc _ _ _=>cases hy
  |dcf _ _=>cases hy
  |non=>cases h';cases r';exact EqAt.same _
  |bl _=>cases h';cases r';exact EqAt.none_bool _
  |int _=>cases h';obtain ⟨t,rfl⟩:=r';exact EqAt.none_int _ _
  |str _=>cases h';obtain ⟨t,rfl⟩:=r';exact EqAt.none_str _ _
 |bl _ =>
  intro y v v' u u' A h r h' r' hx hy hu;cases h;cases r
  cases y with
  |tup ys=>obtain ⟨b,us,its',rfl,rfl,q',rs',vr',it',_⟩:=wO I h' r';exact EqAt.bool_tuple _ it' (by omega)
  |ref _=>cases hy
  |ty _=>cases hy
  |lsf _=>cases hy
  |exc _ _ _=>cases hy
  |dcf _ _=>cases hy
  |non=>cases h';cases r';exact EqAt.bool_none _
  |bl _=>cases h';cases r';exact EqAt.bool_bool _ _
  |int _=>cases h';obtain ⟨t,rfl⟩:=r';exact EqAt.bool_int _ _ _
  |str _=>cases h';obtain ⟨t,rfl⟩:=r';exact EqAt.bool_str _ _ _
 |int _ =>
  intro y v v' u u' A h r h' r' hx hy hu;cases h;obtain ⟨t0,rfl⟩:=r
  cases y with
  |tup ys=>obtain ⟨b,us,its',rfl,rfl,q',rs',vr',it',_⟩:=wO I h' r';exact EqAt.int_tuple _ _ it' (by omega)
  |ref _=>cases hy
  |ty _=>cases hy
  |lsf _=>cases hy
  |exc _ _ _=>cases hy
  |dcf _ _=>cases hy
  |non=>cases h';cases r';exact EqAt.int_none _ _
  |bl _=>cases h';cases r';exact EqAt.int_bool _ _ _
  |int _=>cases h';obtain ⟨t,rfl⟩:=r';exact EqAt.int_int _ _ _ _
  |str _=>cases h';obtain ⟨t,rfl⟩:=r';exact EqAt.int_str _ _ _ _
 |str _ =>
  intro y v v' u u' A h r h' r' hx hy hu;cases h;obtain ⟨t0,rfl⟩:=r
  cases y with
  |tup ys=>obtain ⟨b,us,its',rfl,rfl,q',rs',vr',it',_⟩:=wO I h' r';exact EqAt.str_tuple _ _ it' (by omega)
  |ref _=>cases hy
  |ty _=>cases hy
  |lsf _=>cases hy
  |exc _ _ _=>cases hy
  |dcf _ _=>cases hy
  |non=>cases h';cases r';exact EqAt.str_none _ _
  |bl _=>cases h';cases r';exact EqAt.str_bool _ _ _
  |int _=>cases h';obtain ⟨t,rfl⟩:=r';exact EqAt.str_int _ _ _ _
  |str _=>cases h';obtain ⟨t,rfl⟩:=r';exact EqAt.str_str _ _ _ _
theorem zcD (I:Inv X pins σ H s) {xs ys:List W} {vs vs':List V} {us us':List Value} {A:Around} (h:zF X.K H xs vs) (r:zE vs us) (h':zF X.K H ys vs') (r':zE vs' us') (hx:wU xs=true) (hy:wU ys=true)
  (hu:A.units+min (qP xs) (qP ys)<cLine):∀ (j:Nat) (h1:j<us.length) (h2:j<us'.length),EqAt A s us[j] us'[j] (uN xs ys j) :=
 zaG I xs ys _ _ _ _ A (fun x _=>ze9 I x) h r h' r' hx hy hu
end
section
variable {X : Cx} {pins : List (Addr × Obj)} {σ : L2.St} {H : Hp} {s : Shared}
theorem zh8 (I:Inv X pins σ H s) (x y:W) (v v':V) (u u':Value) (A:Around) (h:wX X.K H x v) (r:zB v u) (h':wX X.K H y v') (r':zB v' u') (hx:uP x=true) (hy:uP y=true) (hu:A.units+min (nG x) (nG y)<cLine):RcAt A s u u' (vV x y)/\RcNeAt A s u u' (!vV x y):=by
 have h0:A.units<cLine:=by omega
 cases x with
 |ref _=>cases hx
 |ty _=>cases hx
 |lsf _=>cases hx
 |exc _ _ _=>cases hx
 |dcf _ _=>cases hx
 |tup xs =>
  obtain ⟨a,vs,its,rfl,rfl,q,rs,vr,it,_⟩:=wO I h r
  cases y with
  |ref _=>cases hy
  |ty _=>cases hy
  |lsf _=>cases hy
  |exc _ _ _=>cases hy
  |dcf _ _=>cases hy
  |tup ys =>
   obtain ⟨b,us,its',rfl,rfl,q',rs',vr',it',_⟩:=wO I h' r';have l1:its.toArray.size=xs.length:=by rw [zzS,← vr.length,rs.length]
   have l2:its'.toArray.size=ys.length:=by rw [zzS,← vr'.length,rs'.length]
   have key:∀ (j:Nat) (j1:j<its.toArray.size) (j2:j<its'.toArray.size),EqAt A.in1 s its.toArray[j] its'.toArray[j] (uN xs ys j):=fun j j1 j2 =>
    zcD I rs vr rs' vr' hx hy (A:=A.in1) (by simp only [nG] at hu;show A.units+1+_<_;omega) j (by simpa using j1) (by simpa using j2)
   show RcAt A s _ _ (wB xs ys)/\RcNeAt A s _ _ (!wB xs ys);rw [← tJ,← l1,← l2];exact ⟨RcAt.tuples it it' h0 key,RcNeAt.tuples it it' h0 key⟩
  |non=>cases h';cases r';exact ⟨RcAt.tuple_none it h0,RcNeAt.tuple_none it h0⟩
  |bl _=>cases h';cases r';exact ⟨RcAt.tuple_bool _ it h0,RcNeAt.tuple_bool _ it h0⟩
  |int _=>cases h';obtain ⟨t,rfl⟩:=r';exact ⟨RcAt.tuple_int _ _ it h0,RcNeAt.tuple_int _ _ it h0⟩
  |str _=>cases h';obtain ⟨t,rfl⟩:=r';exact ⟨RcAt.tuple_str _ _ it h0,RcNeAt.tuple_str _ _ it h0⟩
 |non =>
  cases h;cases r
  cases y with
  |ref _=>cases hy
  |ty _=>cases hy
  |lsf _=>cases hy
  |exc _ _ _=>cases hy
  |dcf _ _=>cases hy
  |tup ys=>obtain ⟨b,us,its',rfl,rfl,q',rs',vr',it',_⟩:=wO I h' r';exact ⟨RcAt.none_tuple it' h0,RcNeAt.none_tuple it' h0⟩
  |non=>cases h';cases r';exact ⟨RcAt.none_none,RcNeAt.none_none⟩
  |bl _=>cases h';cases r';exact ⟨RcAt.none_bool _,RcNeAt.none_bool _⟩
  |int _=>cases h';obtain ⟨t,rfl⟩:=r';exact ⟨RcAt.none_int _ _,RcNeAt.none_int _ _⟩
  |str _=>cases h';obtain ⟨t,rfl⟩:=r';exact ⟨RcAt.none_str _ _,RcNeAt.none_str _ _⟩
 |bl _ =>
  cases h;cases r
  cases y with
  |ref _=>cases hy
  |ty _=>cases hy
  |lsf _=>cases hy
  |exc _ _ _=>cases hy
  |dcf _ _=>cases hy
  |tup ys=>obtain ⟨b,us,its',rfl,rfl,q',rs',vr',it',_⟩:=wO I h' r';exact ⟨RcAt.bool_tuple _ it' h0,RcNeAt.bool_tuple _ it' h0⟩
  |non=>cases h';cases r';exact ⟨RcAt.bool_none _,RcNeAt.bool_none _⟩
  |bl _=>cases h';cases r';exact ⟨RcAt.bool_bool _ _,RcNeAt.bool_bool _ _⟩
  |int _=>cases h';obtain ⟨t,rfl⟩:=r';exact ⟨RcAt.bool_int _ _ _,RcNeAt.bool_int _ _ _⟩
  |str _=>cases h';obtain ⟨t,rfl⟩:=r';exact ⟨RcAt.bool_str _ _ _,RcNeAt.bool_str _ _ _⟩
 |int _ =>
  cases h;obtain ⟨t0,rfl⟩:=r
  cases y with
  |ref _=>cases hy
  |ty _=>cases hy
  |lsf _=>cases hy
  |exc _ _ _=>cases hy
  |dcf _ _=>cases hy
  |tup ys=>obtain ⟨b,us,its',rfl,rfl,q',rs',vr',it',_⟩:=wO I h' r';exact ⟨RcAt.int_tuple _ _ it' h0,RcNeAt.int_tuple _ _ it' h0⟩
  |non=>cases h';cases r';exact ⟨RcAt.int_none _ _,RcNeAt.int_none _ _⟩
  |bl _=>cases h';cases r';exact ⟨RcAt.int_bool _ _ _,RcNeAt.int_bool _ _ _⟩
  |int _=>cases h';obtain ⟨t,rfl⟩:=r';exact ⟨RcAt.int_int _ _ _ _,RcNeAt.int_int _ _ _ _⟩
  |str _=>cases h';obtain ⟨t,rfl⟩:=r';exact ⟨RcAt.int_str _ _ _ _,RcNeAt.int_str _ _ _ _⟩
 |str _ =>
  cases h;obtain ⟨t0,rfl⟩:=r
  cases y with
  |ref _=>cases hy
  |ty _=>cases hy
  |lsf _=>cases hy
  |exc _ _ _=>cases hy
  |dcf _ _=>cases hy
  |tup ys=>obtain ⟨b,us,its',rfl,rfl,q',rs',vr',it',_⟩:=wO I h' r';exact ⟨RcAt.str_tuple _ _ it' h0,RcNeAt.str_tuple _ _ it' h0⟩
  |non=>cases h';cases r';exact ⟨RcAt.str_none _ _,RcNeAt.str_none _ _⟩
  |bl _=>cases h';cases r';exact ⟨RcAt.str_bool _ _ _,RcNeAt.str_bool _ _ _⟩
  |int _=>cases h';obtain ⟨t,rfl⟩:=r';exact ⟨RcAt.str_int _ _ _ _,RcNeAt.str_int _ _ _ _⟩
  |str _=>cases h';obtain ⟨t,rfl⟩:=r';exact ⟨RcAt.str_str _ _ _ _,RcNeAt.str_str _ _ _ _⟩
theorem zb9 (I:Inv X pins σ H s) {G:Hw} {p:Addr} {ws:List W} (ab:xP X.K H G) (e:yV G p=some ws):∃ vs its,rQ X.K H p vs/\zF X.K H ws vs/\zE vs its/\s.heap.IsList p its.toArray/\PlainL s.heap p its.toArray/\ws.length<=sizeLine:=by
 obtain ⟨vs,q,r⟩:=ab.seq e;obtain ⟨its,vr,pl,hl⟩:=I.list q;exact ⟨vs,its,q,r,vr,(let ⟨o,n,h1,h2,_,h3⟩:=pl;⟨o,h1,h2,n,h3⟩),pl,by rw [← r.length];exact hl⟩
theorem zh9 (I:Inv X pins σ H s) {G:Hw} {p q:Addr} {xs ys:List W} {A:Around} (ab:xP X.K H G) (e:yV G p=some xs) (e':yV G q=some ys) (hx:wU xs=true) (hy:wU ys=true) (hu:A.units+1+min (qP xs) (qP ys)<cLine) :
  RcAt A s (.ref p) (.ref q) (wB xs ys)/\RcNeAt A s (.ref p) (.ref q) (!wB xs ys):=by
 obtain ⟨vs,its,_,rs,vr,il,_⟩:=zb9 I ab e;obtain ⟨us,its',_,rs',vr',il',_⟩:=zb9 I ab e';have h0:A.units<cLine:=by omega
 have l1:its.toArray.size=xs.length:=by rw [zzS,← vr.length,rs.length]
 have l2:its'.toArray.size=ys.length:=by rw [zzS,← vr'.length,rs'.length]
 have key:∀ (j:Nat) (j1:j<its.toArray.size) (j2:j<its'.toArray.size),EqAt A.in1 s its.toArray[j] its'.toArray[j] (uN xs ys j):=fun j j1 j2 =>
  zcD I rs vr rs' vr' hx hy (A:=A.in1) hu j (by simpa using j1) (by simpa using j2)
 by_cases hl:xs.length=ys.length
 .rw [← zcC hl,← l1];exact ⟨RcAt.lists il il' (by omega) h0 key,RcNeAt.lists il il' (by omega) h0 key⟩
 .rw [zek hl];have:(its.toArray.size != its'.toArray.size)=true:=by simp only [bne_iff_ne];omega
  exact ⟨RcAt.lists_lengths il il' this h0,RcNeAt.lists_lengths il il' this h0⟩
end
end L3
namespace PySem
open Sem (wp)
open Builtin
theorem gR:fillsNumberSlot (.type "tuple") "mul" = pure false :=
 fillsNumberSlot_seq (id := "tuple.__mul__") (r:=some (.builtin "tuple.__rmul__")) ZbG.lookup (by decide +kernel) F.slot_tuple_rmul.lookup (by decide +kernel)
theorem gU:seqRepeat? (.type "tuple")=pure (some (.builtin "tuple.__mul__")):=by
 unfold seqRepeat?;rw [seqSlot_of (T := "tuple") (name := "__mul__") (id := "tuple.__mul__") ZbG.lookup (by decide +kernel),seqSlot_of (T := "tuple") (name := "__rmul__") (id := "tuple.__rmul__") F.slot_tuple_rmul.lookup (by decide +kernel)];rfl
theorem zbs (a:Int) (t:Tok) (l:Addr) (items:Array Value) (n:Nat) (dd:Option Addr) (sl:Array (Option Value)) :
  Meets (Builtin.«int.__rmul__» ⟨[.int a t,.ref l],[]⟩) (fun _ R s=>s.heap.get? l=some { cls:=.type "tuple", dict:=dd,data:=.seq items n,slots:=sl }/\R (.ok (.ret Value.notImplemented)) s) :=
 .of_wp fun prog w A R s h=>by obtain ⟨hp,g,d,tk,os⟩:=s;obtain ⟨hl,h⟩:=h;wp_walk;exact ⟨_,rfl,h⟩
theorem zhv (l:Addr) (items:Array Value) (n:Nat) (u:Tok) (dd:Option Addr) (sl:Array (Option Value)) :
  Meets (Builtin.«tuple.__mul__» ⟨[.ref l,.int 1 u],[]⟩) (fun _ R s=>s.heap.get? l=some { cls:=.type "tuple", dict:=dd,data:=.seq items n,slots:=sl }/\R (.ok (.ret (Value.ref l))) s) :=
 .of_wp fun prog w A R s h=>by obtain ⟨hp,g,d,tk,os⟩:=s;obtain ⟨hl,h⟩:=h;wp_walk;exact ⟨_,rfl,h⟩
theorem zfy (l:Addr) (items:Array Value) (n:Nat) (u:Tok) (dd:Option Addr) (sl:Array (Option Value)) (hi:items.isEmpty=false) :
  Meets (Builtin.«tuple.__mul__» ⟨[.ref l,.int 0 u],[]⟩) (fun _ R s=>s.heap.get? l=some { cls:=.type "tuple", dict:=dd,data:=.seq items n,slots:=sl }/\R (.ok (.ret (Value.ref s.heap.objs.size))) { s with heap:=s.heap.push { cls:=.type "tuple", data:=.seq #[] } }) :=
 .of_wp fun prog w A R s h=>by obtain ⟨hp,g,d,tk,os⟩:=s;obtain ⟨hl,h⟩:=h;wp_walk;exact ⟨_,rfl,h⟩
end PySem
namespace L3
open PySem PySem.Spec PyProof.Rows L2
section
variable {X : Cx}
def rRepT (K:zA):R2:=fun x y H Q=>∃ a k xs,x=.ref a/\y=.int k/\tB K H a xs/\((k=1/\Q (.ref a) H)\/(k=0/\xs≠[]/\∀ p,H p=none->Q (.ref p) (yH H p (.tup []))))
theorem zga:kX X (binaryOp .Mult) (rRepT X.K):=by
 intro pins s σ H x y v u Q I rx ry h;obtain ⟨a,k,xs,rfl,rfl,ha,h⟩:=h;cases rx;obtain ⟨t,rfl⟩:=ry;obtain ⟨its,r1,p1,_⟩:=I.tuple ha;obtain ⟨⟨cls,dd,data,sl⟩,ho,hc,n,hd⟩:=id p1;simp only at hc hd;subst hc hd;rcases h with ⟨rfl,q⟩|⟨rfl,hx,q⟩
 .exact Zbd (T := "tuple") (U := "int") (by decide) ⟨_,ho,rfl⟩ (fun s'=>ZbM s' 1 t) gR Zcm Za3 gU Zcg.lookup
   (Zbz Za3 (ZbM s 1 t) Zcf (Zb3 _ _) (zbs 1 t a its.toArray n dd sl)
    ⟨ho,rfl,⟨_,ho,rfl⟩,Zbz ZbG ⟨_,ho,rfl⟩ F.entry_tuple_mul (F.args_tuple_mul_2 _ _) (zhv a its.toArray n t dd sl) ⟨ho,.ref a,H,I,rfl,q⟩⟩)
 .have he:its.toArray.isEmpty=false:=by
   cases its with
   |nil=>exact absurd (r1.nil_iff.mp rfl) hx
   |cons _ _=>rfl
  refine Zbd (T := "tuple") (U := "int") (by decide) ⟨_,ho,rfl⟩ (fun s'=>ZbM s' 0 t) gR Zcm Za3 gU Zcg.lookup
   (Zbz Za3 (ZbM s 0 t) Zcf (Zb3 _ _) (zbs 0 t a its.toArray n dd sl)
    ⟨ho,rfl,⟨_,ho,rfl⟩,Zbz ZbG ⟨_,ho,rfl⟩ F.entry_tuple_mul (F.args_tuple_mul_2 _ _) (zfy a its.toArray n t dd sl he) ⟨ho,?_⟩⟩)
  refine ⟨.ref s.heap.objs.size,_,I.laid (t':=s.toks) (o:=.tup []) (fun b ob q=>Zb _ q) (zzR _) ?_,rfl,q _ (I.hok.fresh (zzR _))⟩;exact ⟨ZX _,[],.nil,ZcC _ _⟩
end
end L3
namespace L3
open PySem PySem.Spec PyProof.Rows L2 PySem.SeqAt
abbrev R3:=W->W->Hw->Q3->Prop
def jK (K:zA) (H:Hp) (Q:VK):Q3:=fun w G'=>∀ v H',yK K H H'->wX K H' w v->xP K H' G'->Q v H'
theorem jK.mono {K:zA} {H H1:Hp} {Q:VK} (g:yK K H H1) {w:W} {G:Hw} (h:jK K H Q w G):jK K H1 Q w G:=fun v H' g'=>h v H' (g.trans g')
def rP (r:R3):Prop:=∀ x y G (Q Q':Q3),(∀ w G',Q w G'->Q' w G')->r x y G Q->r x y G Q'
def sL (K:zA) (r:R3):R2:=fun v u H Q=>∃ x y G,wX K H x v/\wX K H y u/\xP K H G/\r x y G (jK K H Q)
def jO:Operator->R3
 | .Add=>fun x y G Q=>match x,y with
  | .int i,.int j=>Q (.int (i+j)) G
  | .str a,.str b=>a.length+b.length<=sizeLine/\Q (.str (a++b)) G
  | .tup a,.tup b=>a.length+b.length<=sizeLine/\Q (.tup (a++b)) G
  | .ref p,.ref q=>(match G p,G q with
   |some (.lst xs),some (.lst ys)=>xs.length+ys.length<=sizeLine/\∀ r,G r=none->Q (.ref r) (put G r (.lst (xs++ys)))
   |_,_=>False)
  |_,_=>False
 | .Sub=>fun x y G Q=>match x,y with
  | .int i,.int j=>Q (.int (i-j)) G
  |_,_=>False
 | .Mult=>fun x y G Q=>match x,y with
  | .int i,.int j=>bT i j/\Q (.int (i * j)) G
  | .tup xs,.int k=>(k=1/\Q (.tup xs) G)\/(k=0/\xs≠[]/\Q (.tup []) G)
  | .ref p,.int k=>(match G p with
   |some (.lst xs)=>(-(2 ^ 63)<=k/\k<2 ^ 63/\xs.length * k.toNat<=sizeLine)/\∀ r,G r=none->Q (.ref r) (put G r (.lst (List.replicate k.toNat xs).flatten))
   |_=>False)
  |_,_=>False
 | .Mod=>fun x y G Q=>match x,y with
  | .int i,.int j=>0<j/\Q (.int (i % j)) G
  |_,_=>False
 | .FloorDiv=>fun x y G Q=>match x,y with
  | .int i,.int j=>CDiv i j/\Q (.int (i / j)) G
  |_,_=>False
 | .Pow=>fun x y G Q=>match x,y with
  | .int i,.int j=>CPow i j/\Q (.int (i ^ j.toNat)) G
  |_,_=>False
 |_=>fun _ _ _ _=>False
theorem fD:∀ op,rP (jO op):=by
 intro op x y G Q Q' k h
 cases op with
 |Add =>
  cases x with
  |int i=>cases y with
   |int j=>exact k _ _ h
   |_=>exact h.elim
  |str i=>cases y with
   |str j=>exact ⟨h.1,k _ _ h.2⟩
   |_=>exact h.elim
  |tup a=>cases y with
   |tup b=>exact ⟨h.1,k _ _ h.2⟩
   |_=>exact h.elim
  |ref p=>cases y with
   |ref q =>
    simp only [jO] at h ⊢
    split at h
    .exact ⟨h.1,fun r hr=>k _ _ (h.2 r hr)⟩
    .exact h.elim
   |_=>exact h.elim
  |_=>exact h.elim
 |Mult =>
  cases x with
  |int i=>cases y with
   |int j=>exact ⟨h.1,k _ _ h.2⟩
   |_=>exact h.elim
  |tup a=>cases y with
   |int j=>exact h.imp (fun z=>⟨z.1,k _ _ z.2⟩) fun z=>⟨z.1,z.2.1,k _ _ z.2.2⟩
   |_=>exact h.elim
  |ref p=>cases y with
   |int q =>
    simp only [jO] at h ⊢
    split at h
    .exact ⟨h.1,fun r hr=>k _ _ (h.2 r hr)⟩
    .exact h.elim
   |_=>exact h.elim
  |_=>exact h.elim
 |Sub =>
  cases x with
  |int i=>cases y with
   |int j=>exact k _ _ h
   |_=>exact h.elim
  |_=>exact h.elim
 |Mod =>
  cases x with
  |int i=>cases y with
   |int j=>exact ⟨h.1,k _ _ h.2⟩
   |_=>exact h.elim
  |_=>exact h.elim
 |FloorDiv =>
  cases x with
  |int i=>cases y with
   |int j=>exact ⟨h.1,k _ _ h.2⟩
   |_=>exact h.elim
  |_=>exact h.elim
 |Pow =>
  cases x with
  |int i=>cases y with
   |int j=>exact ⟨h.1,k _ _ h.2⟩
   |_=>exact h.elim
  |_=>exact h.elim
 |_=>exact h.elim
section
variable {X : Cx}
theorem zF.nil_iff {K:zA} {H:Hp} {ws:List W} {vs:List V} (h:zF K H ws vs):vs=[]↔ws=[]:=by
 have:=h.length
 constructor
 .intro e;subst e;exact List.eq_nil_of_length_eq_zero this.symm
 .intro e;subst e;exact List.eq_nil_of_length_eq_zero this
theorem zhc {pins:List (Addr×Obj)} {s:Shared} {σ:L2.St} {H:Hp} {a b:Addr} {Q:Value->Shared->Prop} {E:Value->Shared->Prop} {ws:List Value} (ht:IsTup s.heap a #[]) (hb:IsTup s.heap b ws.toArray) (h:Q (.ref b) s) :
  wpAny (model X.prog X.w) X.A (binaryOp .Add (.ref a) (.ref b)) Q E s:=by
 obtain ⟨⟨cls,dd,data,sl⟩,ho,hc,n,hd⟩:=id ht;obtain ⟨⟨cls2,dd2,data2,sl2⟩,ho2,hc2,n2,hd2⟩:=id hb;simp only at hc hd hc2 hd2;subst hc hd hc2 hd2
 exact concat_meets ⟨_,ho,rfl⟩ ⟨_,ho2,rfl⟩ Zcl ZcE Zbx Zbs (Zbl _ _)
  (tuple_addW0 a b #[] ws.toArray n n2 dd dd2 sl sl2 rfl) ⟨ho,ho2,h⟩
theorem jM {K:zA} {H:Hp} {G:Hw} {Q:VK} {ws:List W} {vs:List V} (ab:xP K H G) (r:zF K H ws vs) (h:∀ p,G p=none->jK K H Q (.ref p) (put G p (.lst ws))):∀ p,H p=none->Q (.ref p) (yH H p (.lst vs)):=fun p hp =>
 h p (ab.free hp) _ _ (xJ hp) rfl (ab.new hp ⟨vs,rfl,r.mono (xJ hp)⟩)
theorem uX {K:zA} {H:Hp} {G:Hw} {Q:VK} {ws:List W} {vs:List V} (ab:xP K H G) (r:zF K H ws vs) (h:jK K H Q (.tup ws) G):∀ p,H p=none->Q (.ref p) (yH H p (.tup vs)):=fun p hp =>
 h _ _ (xJ hp) ⟨p,vs,rfl,.of yO,r.mono (xJ hp)⟩ (ab.tup hp)
theorem zF.flat {K:zA} {H:Hp} {ws:List W} {vs:List V} (h:zF K H ws vs):∀ k:Nat,zF K H (List.replicate k ws).flatten (List.replicate k vs).flatten
 | 0=>rfl
 |k+1=>by rw [Zao,Zao,ZaQ,ZaQ];exact h.append (zF.flat h k)
theorem zjG (op:Operator):kX X (binaryOp op) (sL X.K (jO op)):=by
 intro pins s σ H v u a b Q I rv ru h;obtain ⟨x,y,G,rx,ry,ab,h⟩:=h
 cases op with
 |Add =>
  cases x with
  |int i =>
   cases y with
   |int j=>cases rx;cases ry;exact ziE pins s σ H _ _ _ _ Q I rv ru ⟨i,j,rfl,rfl,h _ _ .refl rfl ab⟩
   |_=>exact h.elim
  |str i =>
   cases y with
   |str j=>cases rx;cases ry;exact zaW pins s σ H _ _ _ _ Q I rv ru ⟨i,j,rfl,rfl,h.1,h.2 _ _ .refl rfl ab⟩
   |_=>exact h.elim
  |tup xs =>
   cases y with
   |tup ys =>
    obtain ⟨a1,vs,its,rfl,rfl,q,rs,vr,it,_⟩:=wO I rx rv;obtain ⟨b1,us,its',rfl,rfl,q',rs',vr',it',_⟩:=wO I ry ru
    by_cases e:xs=[]
    .subst e;have e1:vs=[]:=(rs.nil_iff).mpr rfl;subst e1;cases vr;exact zhc (pins:=pins) (σ:=σ) (H:=H) it it' ⟨.ref b1,H,I,rfl,h.2 _ _ .refl ⟨b1,us,rfl,q',rs'⟩ ab⟩
    .refine zgc pins s σ H (.ref a1) (.ref b1) _ _ Q I rfl rfl ⟨a1,b1,vs,us,rfl,rfl,q,q',fun z=>e (rs.nil_iff.mp z),by rw [rs.length,rs'.length];exact h.1,fun z=>?_,fun _=>?_⟩
     .have:ys=[]:=rs'.nil_iff.mp z;subst this;exact h.2 _ _ .refl ⟨a1,vs,rfl,q,by rw [ZO];exact rs⟩ ab
     .exact uX ab (rs.append rs') h.2
   |_=>exact h.elim
  |ref p =>
   cases y with
   |ref q =>
    cases rx;cases ry;simp only [jO] at h
    split at h
    .rename_i xs ys e1 e2;obtain ⟨vs,q1,r1⟩:=ab.lst e1;obtain ⟨us,q2,r2⟩:=ab.lst e2;exact ziD pins s σ H _ _ _ _ Q I rv ru ⟨p,q,vs,us,rfl,rfl,q1,q2,by rw [r1.length,r2.length];exact h.1,jM ab (r1.append r2) h.2⟩
    .exact h.elim
   |_=>exact h.elim
  |_=>exact h.elim
 |Sub =>
  cases x with
  |int i =>
   cases y with
   |int j=>cases rx;cases ry;exact ziy pins s σ H _ _ _ _ Q I rv ru ⟨i,j,rfl,rfl,h _ _ .refl rfl ab⟩
   |_=>exact h.elim
  |_=>exact h.elim
 |Mult =>
  cases x with
  |int i =>
   cases y with
   |int j=>cases rx;cases ry;exact ziB pins s σ H _ _ _ _ Q I rv ru ⟨i,j,rfl,rfl,h.1,h.2 _ _ .refl rfl ab⟩
   |_=>exact h.elim
  |tup xs =>
   cases y with
   |int k =>
    obtain ⟨a1,vs,its,rfl,rfl,q,rs,vr,it,_⟩:=wO I rx rv;cases ry;refine zga pins s σ H (.ref a1) (.int k) _ _ Q I rfl ru ⟨a1,k,vs,rfl,rfl,q,?_⟩;rcases h with ⟨e,h⟩|⟨e,hx,h⟩
    .exact .inl ⟨e,h _ _ .refl ⟨a1,vs,rfl,q,rs⟩ ab⟩
    .exact .inr ⟨e,fun z=>hx (rs.nil_iff.mp z),uX ab (ws:=[]) (vs:=[]) rfl h⟩
   |_=>exact h.elim
  |ref p =>
   cases y with
   |int k =>
    cases rx;cases ry;simp only [jO] at h
    split at h
    .rename_i xs e1;obtain ⟨vs,q1,r1⟩:=ab.lst e1;exact ziz pins s σ H _ _ _ _ Q I rv ru ⟨p,k,vs,rfl,rfl,q1,h.1.1,h.1.2.1,by rw [r1.length];exact h.1.2.2,jM ab (r1.flat _) h.2⟩
    .exact h.elim
   |_=>exact h.elim
  |_=>exact h.elim
 |Mod =>
  cases x with
  |int i =>
   cases y with
   |int j=>cases rx;cases ry;exact ziC pins s σ H _ _ _ _ Q I rv ru ⟨i,j,rfl,rfl,h.1,h.2 _ _ .refl rfl ab⟩
   |_=>exact h.elim
  |_=>exact h.elim
 |FloorDiv =>
  cases x with
  |int i =>
   cases y with
   |int j=>cases rx;cases ry;exact zgb pins s σ H _ _ _ _ Q I rv ru ⟨i,j,rfl,rfl,h.1,h.2 _ _ .refl rfl ab⟩
   |_=>exact h.elim
  |_=>exact h.elim
 |Pow =>
  cases x with
  |int i =>
   cases y with
   |int j=>cases rx;cases ry;exact ziA pins s σ H _ _ _ _ Q I rv ru ⟨i,j,rfl,rfl,h.1,h.2 _ _ .refl rfl ab⟩
   |_=>exact h.elim
  |_=>exact h.elim
 |_=>exact h.elim
end
theorem nR {k:Str}:∀ {es:List DictEntry} {ks:List Str} {vs:List V},zhj es ks vs->(es.all fun e=>isExactStrKey e.key)=true/\(match (ks.zip vs).lookup k with
  |some v=>∃ u,(es.find? fun e=>e.key.isStr k).map (·.val)=some u/\zB v u
  |none=>(es.find? fun e=>e.key.isStr k).map (·.val)=none)
 | [],ks,vs,h=>by obtain ⟨rfl,rfl⟩:=h;exact ⟨rfl,rfl⟩
 |e::r,ks,vs,h=>by
  obtain ⟨x,t,v,ks',vs',rfl,rfl,hk,hv,hr⟩:=h;have ih:=nR (k:=k) hr;refine ⟨by rw [Zaq,hk,ih.1];rfl,?_⟩;rw [Za2,ZB,ZY,KTD.key_is hk k]
  by_cases hx:k=x
  .subst hx;simp only [beq_self_eq_true,decide_true];exact ⟨e.val,rfl,hv⟩
  .have e1:(k==x)=false:=by simpa using hx
   rw [e1,decide_eq_false hx];exact ih.2
theorem ze2 {X:Cx} {pins:List (Addr×Obj)} {σ:L2.St} {H:Hp} {s:Shared} {a:Addr} {ks:List Str} {vs:List V} {k:Str} {tk:Tok} {A:Around} {Q:Option Value->Shared->Prop} {E:Value->Shared->Prop} (I:Inv X pins σ H s) (h:KD X.K a ks vs)
  (q:match (ks.zip vs).lookup k with|some v=>∀ u s',zB v u->Inv X pins σ H s'->Q (some u) s'|none=>∀ s',Inv X pins σ H s'->Q none s'):wpAny (model X.prog X.w) A (dictGet a (.str k tk)) Q E s:=by
 obtain ⟨o,es,ep,l,_,hd,_,_,hr⟩:=h;have ho:=I.kIn _ _ l;obtain ⟨hx,hf⟩:=nR (k:=k) hr;have J:Inv X pins σ H { s with toks:=s.toks+1 }:=I.tok _;unfold dictGet
 try with_reducible refine ZK ?_
 refine Za (wpAny_pyHash_str (Za ?_));refine KTD.kt_dictFind_strs (s:={ s with toks:=s.toks+1 }) ho hd (by obtain ⟨es'⟩:=es;simpa using hx) ?_
 have key:Q (findBy (fun k v=>v.isStr k) es k) { s with toks:=s.toks+1 }:=by
  have e:findBy (fun k v=>v.isStr k) es k=(es.toList.find? fun e=>e.key.isStr k).map (·.val):=by obtain ⟨es'⟩:=es;simp [findBy]
  rw [e];revert q hf
  cases (ks.zip vs).lookup k with
  |some v=>intro q hf;obtain ⟨u,e1,r⟩:=hf;rw [e1];exact q u _ r J
  |none=>intro q hf;rw [hf];exact q _ J
 rw [findBy_of_findIdx?] at key;revert key
 cases es.findIdx? fun e=>e.key.isStr k with
 |none=>exact fun key=>Zc key
 |some i=>exact fun key=>Za (wpAny_dictEntries (s:={ s with toks:=s.toks+1 }) ho hd (Zc key))
theorem zi3 {X:Cx} {pins:List (Addr×Obj)} {σ:L2.St} {H:Hp} {s:Shared} {a:Addr} {ks:List Str} {vs:List V} (I:Inv X pins σ H s) (h:KD X.K a ks vs):s.TypeIs (.ref a) "dict" := by
 obtain ⟨o,es,ep,l,hc,_⟩:=h;exact ⟨o,I.kIn _ _ l,hc.1⟩
theorem vI {K:zA} {H:Hp} {k:Str} {w:W}:∀ {ks:List Str} {ws:List W} {vs:List V},zF K H ws vs->(ks.zip ws).lookup k=some w->∃ v,(ks.zip vs).lookup k=some v/\wX K H w v
 | [],ws,vs,_,e=>by simp at e
 |x::ks,[],vs,_,e=>by simp at e
 |x::ks,y::ws,vs,r,e=>by
  obtain ⟨v,vs',rfl,rv,rs⟩:=r;rw [Za2,ZB] at e ⊢
  cases hx:(k==x) with
  |true=>rw [hx] at e;cases e;exact ⟨v,rfl,rv⟩
  |false=>rw [hx] at e;exact vI rs e
theorem sA {K:zA} {H:Hp} {k:Str}:∀ {ks:List Str} {ws:List W} {vs:List V},zF K H ws vs->(ks.zip ws).lookup k=none->(ks.zip vs).lookup k=none
 | [],ws,vs,_,e=>by simp
 |x::ks,[],vs,r,e=>by rw [show vs=[] from r];rfl
 |x::ks,y::ws,vs,r,e=>by
  obtain ⟨v,vs',rfl,rv,rs⟩:=r;rw [Za2,ZB] at e ⊢
  cases hx:(k==x) with
  |true=>rw [hx] at e;cases e
  |false=>rw [hx] at e;exact sA rs e
theorem ze1 {X:Cx} {pins:List (Addr×Obj)} {σ:L2.St} {H:Hp} {s:Shared} {a:Addr} {ks:List Str} {vs:List V} {k:Str} {tk:Tok} {A:Around} {Q:Bool->Shared->Prop} {E:Value->Shared->Prop} (I:Inv X pins σ H s) (h:KD X.K a ks vs)
  (q:∀ s',Inv X pins σ H s'->Q ((ks.zip vs).lookup k).isSome s'):wpAny (model X.prog X.w) A (contains (.ref a) (.str k tk)) Q E s:=by
 have hT:=zi3 I h;have hd:(a==sysModules)=false:=by obtain ⟨o,es,ep,l,_,_,_,z,_⟩:=h;exact z
 have nn:¬ ((some (Value.builtin "dict.__contains__")==some Value.none)=true):=by rw [beq_builtin_none];simp
 unfold contains;refine ZK (Za (Zat hT Zba.lookup ?_));dsimp only;rw [if_neg nn];refine Za (wpAny_callSpecialUnlessNone?_slot (name:=Str.ofString "__contains__") hT Zba (ZC Zba hT PySem.F.entry_dict_contains (show wpAny _ _ (dictGet a (.str k tk) >>= _) _ _ s from Za (ze2 I h ?_)) (PySem.F.args_dict_contains_2 _ _)));revert q
 cases (ks.zip vs).lookup k with
 |some v=>exact fun q u s' r J=>Zc ⟨_,rfl,ZE (q s' J)⟩
 |none=>exact fun q s' J=>Za (wpAny_pendingKey_other hd (Zc ⟨_,rfl,ZE (q s' J)⟩))
def bS (G:Hw):W->W->Option Bool
 | .ref p,.ref q=>match yV G p,yV G q with
  |some a,some b=>if (wU a&&wU b&&decide (min (qP a) (qP b)<=150))=true then some (wB a b) else none
  |_,_=>none
 |x,y=>if (uP x&&uP y&&decide (min (nG x) (nG y)<=150))=true then some (vV x y) else none
def inR (neg:Bool) (x:W) (ws:List W) (G:Hw) (Q:Q3):Prop:=(uP x=true/\wU ws=true/\min (qP ws) (nG x)<=150)/\Q (.bl (if neg then !ws.any fun w=>vV w x else ws.any fun w=>vV w x)) G
def inStr (neg:Bool) (i j:Str):Bool:=if neg then !(!(Builtin.Str.occurrences j i 0 j.length 1).isEmpty) else !(Builtin.Str.occurrences j i 0 j.length 1).isEmpty
def qC:W->Option yM
 | .int i=>some (.inl i)
 | .str x=>some (.inr x)
 |_=>none
def cX {α:Type} (kvs:List (yM×α)) (k:yM):Bool:=kvs.any fun p=>decide (p.1=k)
def sN (neg:Bool):R3:=fun x y G Q=>match y with
 | .tup ws=>inR neg x ws G Q
 | .ref p=>(match G p with
  |some (.lst ws)=>inR neg x ws G Q
  |some (.fix ws)=>inR neg x ws G Q
  |some (.dic kvs)=>(match qC x with|some k=>Q (.bl (if neg then !cX kvs k else cX kvs k)) G|none=>False)
  |_=>False)
 | .str j=>(match x with
  | .str i=>Q (.bl (inStr neg i j)) G
  |_=>False)
 | .dcf ks ws=>(match x with
  | .str k=>Q (.bl (if neg then !((ks.zip ws).lookup k).isSome else ((ks.zip ws).lookup k).isSome)) G
  |_=>False)
 |_=>False
def isR (neg:Bool):R3:=fun x y G Q=>match y with
 | .non=>Q (.bl (if neg then (match x with|.non=>false|_=>true) else (match x with|.non=>true|_=>false))) G
 | .bl b=>Q (.bl (if neg then (match x with|.bl c=>!(c==b)|_=>true) else (match x with|.bl c=>c==b|_=>false))) G
 |_=>False
def pJ (p:Int->Int->Bool) (q:Option (Str->Str->Bool):=none):R3:=fun x y G Q=>match x,y with
 | .int i,.int j=>Q (.bl (p i j)) G
 | .str i,.str j=>(match q with
  |some q=>Q (.bl (q i j)) G
  |none=>False)
 |_,_=>False
def ltS (x y:Str):Bool:=decide (x.cps.toList<y.cps.toList)
def leS (x y:Str):Bool:=!decide (y.cps.toList<x.cps.toList)
def leR:R3:=fun x y G Q=>match x,y with
 | .int i,.int j=>Q (.bl (decide (i<=j))) G
 | .str i,.str j=>Q (.bl (leS i j)) G
 |_,_=>False
def yL:CmpOp->R3
 | .Eq=>fun x y G Q=>match bS G x y with|some b=>Q (.bl b) G|none=>False
 | .NotEq=>fun x y G Q=>match bS G x y with|some b=>Q (.bl (!b)) G|none=>False
 | .Is=>isR false
 | .IsNot=>isR true
 | .In=>sN false
 | .NotIn=>sN true
 | .Lt=>pJ (fun i j=>decide (i<j)) (some ltS)
 | .LtE=>leR
 | .Gt=>pJ fun i j=>decide (j<i)
 | .GtE=>pJ fun i j=>decide (j<=i)
theorem sT (p:Int->Int->Bool) (q:Option (Str->Str->Bool)):rP (pJ p q):=by
 intro x y G Q Q' k h;cases q<;>cases x<;>cases y<;>simp only [pJ] at h ⊢<;>first|exact h.elim|exact k _ _ h
theorem zdU:rP leR:=by
 intro x y G Q Q' k h;cases x<;>cases y<;>simp only [leR] at h ⊢<;>first|exact h.elim|exact k _ _ h
theorem gE (neg:Bool):rP (sN neg):=by
 intro x y G Q Q' k h;unfold sN at h ⊢
 cases y with
 |tup ws=>exact ⟨h.1,k _ _ h.2⟩
 |ref p =>
  simp only at h ⊢
  split at h
  .exact ⟨h.1,k _ _ h.2⟩
  .exact ⟨h.1,k _ _ h.2⟩
  .split at h
   .exact k _ _ h
   .exact h.elim
  .exact h.elim
 |str j =>
  cases x with
  |str i=>exact k _ _ h
  |_=>exact h.elim
 |dcf ks ws =>
  cases x with
  |str i=>exact k _ _ h
  |_=>exact h.elim
 |_=>exact h.elim
theorem zaA (neg:Bool):rP (isR neg):=by
 intro x y G Q Q' k h;unfold isR at h ⊢
 cases y with
 |non=>exact k _ _ h
 |bl b=>exact k _ _ h
 |_=>exact h.elim
theorem xZ:∀ op,rP (yL op):=by
 intro op x y G Q Q' k h
 cases op with
 |Eq =>
  simp only [yL] at h ⊢
  split at h
  .exact k _ _ h
  .exact h.elim
 |NotEq =>
  simp only [yL] at h ⊢
  split at h
  .exact k _ _ h
  .exact h.elim
 |Is=>exact zaA false x y G Q Q' k h
 |IsNot=>exact zaA true x y G Q Q' k h
 |In=>exact gE false x y G Q Q' k h
 |NotIn=>exact gE true x y G Q Q' k h
 |Lt=>exact sT (fun i j=>decide (i<j)) (some ltS) x y G Q Q' k h
 |LtE=>exact zdU x y G Q Q' k h
 |Gt=>exact sT (fun i j=>decide (j<i)) none x y G Q Q' k h
 |GtE=>exact sT (fun i j=>decide (j<=i)) none x y G Q Q' k h
section
variable {X : Cx} {pins : List (Addr × Obj)} {σ : L2.St} {H : Hp} {s : Shared}
open Classical in
def eqI (K:zA) (H:Hp) (x:W) (y:Value):Bool:=if ∃ w v,wX K H w v/\zB v y/\uP w=true/\vV w x=true then true else false
theorem ze7 (I:Inv X pins σ H s) {x w:W} {v:V} {y:Value} (r:wX X.K H w v) (q:zB v y) (p:uP w=true):eqI X.K H x y=vV w x:=by
 unfold eqI
 cases e:vV w x with
 |true=>rw [if_pos ⟨w,v,r,q,p,e⟩]
 |false =>
  rw [if_neg];rintro ⟨w',v',r',q',p',e'⟩;have:=zB.inj q q';subst this;rw [zbJ I w' w v r' r p' p,e] at e';cases e'
theorem zgL (I:Inv X pins σ H s) {x:W}:∀ {ws:List W} {vs:List V} {us:List Value},zF X.K H ws vs->zE vs us->wU ws=true->us.any (eqI X.K H x)=ws.any fun w=>vV w x:=by
 intro ws
 induction ws with
 |nil=>intro vs us h r _;rw [show _=[] from h] at r;cases r;rfl
 |cons w ws ih =>
  intro vs us h r p;obtain ⟨v,t,e,h,hs⟩:=h;subst e
  cases r with
  |cons r rs =>
   have p':=xN.mp p;rw [ZaG,ZaG,ze7 I h r p'.1,ih hs rs p'.2]
theorem zjy (I:Inv X pins σ H s) {x:W} {vx:V} {ux:Value} {A:Around} (rx:wX X.K H x vx) (qx:zB vx ux) (px:uP x=true):∀ {ws:List W} {vs:List V} {us:List Value},zF X.K H ws vs->zE vs us->wU ws=true->A.units+min (qP ws) (nG x)<cLine ->
  ∀ y∈us,EqAt A s y ux (eqI X.K H x y):=by
 intro ws
 induction ws with
 |nil=>intro vs us h r _ _ y hy;rw [show _=[] from h] at r;cases r;cases hy
 |cons w ws ih =>
  intro vs us h r p hu y hy;obtain ⟨v,t,e,h,hs⟩:=h;subst e;simp only [qP] at hu
  cases r with
  |cons r rs =>
   have p':=xN.mp p;rcases Zk.mp hy with e|hy
   .subst e;rw [ze7 I h r p'.1];exact ze9 I w x v vx _ ux A h r rx qx p'.1 px (by omega)
   .exact ih hs rs p'.2 (by omega) y hy
theorem zai {M:Model} {A:Around} {E:Value->Shared->Prop} {Q:Value->Shared->Prop} {v:Value} {b:Bool} (hb:∀ p,v≠.builtin p) (h:Q (.bool (v==.bool b)) s):wpAny M A (compareOp .Is v (.bool b)) Q E s:=by
 cases v<;>first|exact Zc h|exact absurd rfl (hb _)
theorem nN {M:Model} {A:Around} {E:Value->Shared->Prop} {Q:Value->Shared->Prop} {v:Value} {b:Bool} (hb:∀ p,v≠.builtin p) (h:Q (.bool (!(v==.bool b))) s):wpAny M A (compareOp .IsNot v (.bool b)) Q E s:=by
 cases v<;>first|exact Zc h|exact absurd rfl (hb _)
theorem zeO {v:V} {u:Value} (r:zB v u):∀ p,u≠.builtin p:=by
 cases v<;>first
  | (obtain ⟨t,e⟩:=r;subst e;intro p z;cases z)
  | (intro p z;subst z;cases r)
theorem zjo (neg:Bool):kX X (compareOp (if neg then .IsNot else .Is)) (sL X.K (isR neg)):=by
 intro pins s σ H v u a b Q I rv ru h;obtain ⟨x,y,G,rx,ry,ab,h⟩:=h;have fin:∀ k k':Bool,jK X.K H Q (.bl k) G->k=k'->EP X pins σ Q (.bool k') s:=fun k k' q e=>⟨.bl k',H,I,rfl,by rw [← e];exact q _ _ .refl rfl ab⟩
 cases y with
 |non =>
  cases ry;cases ru
  cases neg with
  |false =>
   refine is_none_gen (fin _ _ h ?_)
   cases x<;>first
    | (cases rx;cases rv;rfl)
    | (cases rx;obtain ⟨t,rfl⟩:=rv;rfl)
    | (obtain ⟨_,_,rfl,_⟩:=rx;cases rv;rfl)
  |true =>
   refine isnot_none_gen (fin _ _ h ?_)
   cases x<;>first
    | (cases rx;cases rv;rfl)
    | (cases rx;obtain ⟨t,rfl⟩:=rv;rfl)
    | (obtain ⟨_,_,rfl,_⟩:=rx;cases rv;rfl)
 |bl c =>
  cases ry;cases ru
  cases neg with
  |false =>
   refine zai (zeO rv) (fin _ _ h ?_)
   cases x<;>first
    | (cases rx;cases rv;rfl)
    | (cases rx;cases rv;rename_i d;cases c<;>cases d<;>rfl)
    | (cases rx;obtain ⟨t,rfl⟩:=rv;rfl)
    | (obtain ⟨_,_,rfl,_⟩:=rx;cases rv;rfl)
  |true =>
   refine nN (zeO rv) (fin _ _ h ?_)
   cases x<;>first
    | (cases rx;cases rv;rfl)
    | (cases rx;cases rv;rename_i d;cases c<;>cases d<;>rfl)
    | (cases rx;obtain ⟨t,rfl⟩:=rv;rfl)
    | (obtain ⟨_,_,rfl,_⟩:=rx;cases rv;rfl)
 |_=>exact h.elim
theorem zdY {K:zA} {H:Hp} {y:W} {v:V} {k:yM} (r:wX K H y v) (h:qC y=some k):v=kV k:=by
 cases y<;>cases h<;>exact r
theorem zcs {K:zA} {H:Hp} {k:yM}:∀ {l:List (yM×W)} {l':List (yM×V)},yZ K H l l'->(kB l' k).isSome=cX l k
 | [],_,h=>by rw [show _=[] from h];rfl
 |p::r,_,⟨v,t,e,h,hr⟩=>by
  have ih:=zcs (k:=k) hr;subst e;unfold kB cX at ih ⊢;rw [ZY,ZaG]
  cases decide (p.1=k) with
  |true=>rfl
  |false=>exact ih
theorem pX (us:List Value) (e:Value->Bool):us.toArray.any e=us.any e:=by simp
theorem zeW (neg:Bool) (hu:X.A.units+200<cLine):kX X (compareOp (if neg then .NotIn else .In)) (sL X.K (sN neg)):=by
 intro pins s σ H v u a b Q I rv ru h;obtain ⟨x,y,G,rx,ry,ab,h⟩:=h;have fin:∀ k:Bool,jK X.K H Q (.bl k) G->EP X pins σ Q (.bool k) s:=fun k q=>⟨.bl k,H,I,rfl,q _ _ .refl rfl ab⟩
 have sq:∀ (p:Addr) (ws:List W) (vs:List V) (its:List Value),zF X.K H ws vs->zE vs its->(s.heap.IsTuple p its.toArray\/s.heap.IsList p its.toArray)->inR neg x ws G (jK X.K H Q) ->
   wpAny (model X.prog X.w) X.A (compareOp (if neg then .NotIn else .In) a (.ref p)) (EP X pins σ Q) X.xe s:=fun p ws vs its rs vr ht hin=>by
  obtain ⟨⟨p1,p2,p3⟩,q⟩:=hin;have he:∀ y,y∈its.toArray->EqAt X.A.in1 s y a (eqI X.K H x y):=fun y hy=>zjy I rx rv p1 rs vr p2 (by show X.A.units+1+_<_;omega) y (by simpa using hy);have ea:=zgL I (x:=x) rs vr p2
  cases neg with
  |false =>
   rcases ht with ht|ht
   .exact in_tupleAt _ ht he (by rw [pX,ea];exact fin _ q)
   .exact in_listAt _ ht he (by rw [pX,ea];exact fin _ q)
  |true =>
   rcases ht with ht|ht
   .exact notIn_tupleAt _ ht he (by rw [pX,ea];exact fin _ q)
   .exact notIn_listAt _ ht he (by rw [pX,ea];exact fin _ q)
 cases y with
 |tup ws =>
  obtain ⟨b1,us,its',rfl,rfl,q',rs',vr',it',_⟩:=wO I ry ru;exact sq b1 ws us its' rs' vr' (.inl it') h
 |ref p =>
  cases ry;cases ru
  have lk:∀ ws,yV G p=some ws->inR neg x ws G (jK X.K H Q)->wpAny (model X.prog X.w) X.A (compareOp (if neg then .NotIn else .In) a (.ref p)) (EP X pins σ Q) X.xe s:=fun ws e q=>by
   obtain ⟨vs,its,_,rs,vr,il,_⟩:=zb9 I ab e;exact sq p ws vs its rs vr (.inr il) q
  simp only [sN] at h
  split at h
  .rename_i ws e;exact lk ws (by unfold yV;rw [e]) h
  .rename_i ws e;exact lk ws (by unfold yV;rw [e]) h
  .rename_i kvs e
   split at h
   .rename_i kk ek;obtain ⟨l,e1,rk⟩:=ab.dic e;have ev:=zdY rx ek;subst ev;have hs:(kB l kk).isSome=cX kvs kk:=zcs rk;have dg:DGet H p (kV kk) (kB l kk):=.inl ⟨l,kk,.inl e1,rfl,rfl⟩
    cases neg with
    |false=>exact d_in (by omega) I dg rv fun s' I'=>⟨.bl (kB l kk).isSome,H,I',rfl,by rw [hs];exact h _ H .refl rfl ab⟩
    |true=>exact zg6 (by omega) I dg rv fun s' I'=>⟨.bl (!(kB l kk).isSome),H,I',rfl,by rw [hs];exact h _ H .refl rfl ab⟩
   .exact h.elim
  .exact h.elim
 |str j =>
  cases x with
  |str i =>
   cases rx;cases ry
   cases neg with
   |false=>exact zbY pins s σ H _ _ _ _ Q I rv ru ⟨i,j,rfl,rfl,h _ _ .refl rfl ab⟩
   |true=>exact dH pins s σ H _ _ _ _ Q I rv ru ⟨i,j,rfl,rfl,h _ _ .refl rfl ab⟩
  |_=>exact h.elim
 |dcf ks ws =>
  cases x with
  |str k =>
   obtain ⟨a1,vs,rfl,kd,rs⟩:=ry;obtain rfl:b=Value.ref a1:=ru;cases rx;obtain ⟨tk,rfl⟩:=rv
   have hs:((ks.zip vs).lookup k).isSome=((ks.zip ws).lookup k).isSome:=by
    cases e:(ks.zip ws).lookup k with
    |none=>rw [sA rs e];rfl
    |some w=>obtain ⟨v,e',_⟩:=vI rs e;rw [e'];rfl
   cases neg with
   |false =>
    show wpAny _ _ (contains (.ref a1) (.str k tk) >>= fun z=>pure (Value.bool z)) _ _ _;exact Za (ze1 I kd fun s' J=>Zc ⟨.bl _,H,J,rfl,by rw [hs];exact h _ _ .refl rfl ab⟩)
   |true =>
    show wpAny _ _ (contains (.ref a1) (.str k tk) >>= fun z=>pure (Value.bool (!z))) _ _ _;exact Za (ze1 I kd fun s' J=>Zc ⟨.bl _,H,J,rfl,by rw [hs];exact h _ _ .refl rfl ab⟩)
  |_=>exact h.elim
 |_=>exact h.elim
theorem zbX {op:CmpOp} {p:Int->Int->Bool} {f:Option (Str->Str->Bool)} (ho:kX X (compareOp op) (rI0 fun i j=>.bl (p i j)))
  (hq:∀ q,f=some q->∀ (i j:Str) (t t':Tok) (s:Shared) (Q:Value->Shared->Prop),Q (.bool (q i j)) s->wpAny (model X.prog X.w) X.A (compareOp op (.str i t) (.str j t')) Q X.xe s:=by (intro _ z;cases z)):kX X (compareOp op) (sL X.K (pJ p f)):=by
 intro pins s σ H v u a b Q I rv ru h;obtain ⟨x,y,G,rx,ry,ab,h⟩:=h
 cases x with
 |int i =>
  cases y with
  |int j=>cases rx;cases ry;exact ho pins s σ H _ _ _ _ Q I rv ru ⟨i,j,rfl,rfl,h _ _ .refl rfl ab⟩
  |_=>exact h.elim
 |str i =>
  cases y with
  |str j =>
   cases f with
   |none=>exact h.elim
   |some q =>
    cases rx;cases ry;obtain ⟨t,rfl⟩:=rv;obtain ⟨t',rfl⟩:=ru;exact hq q rfl i j t t' s _ ⟨.bl (q i j),H,I,rfl,h _ _ .refl rfl ab⟩
  |_=>exact h.elim
 |_=>exact h.elim
theorem le_ok:kX X (compareOp .LtE) (sL X.K leR):=by
 intro pins s σ H v u a b Q I rv ru h;obtain ⟨x,y,G,rx,ry,ab,h⟩:=h
 cases x with
 |int i =>
  cases y with
  |int j=>cases rx;cases ry;exact op_le pins s σ H _ _ _ _ Q I rv ru ⟨i,j,rfl,rfl,h _ _ .refl rfl ab⟩
  |_=>exact h.elim
 |str i =>
  cases y with
  |str j =>
   cases rx;cases ry;obtain ⟨t,rfl⟩:=rv;obtain ⟨t',rfl⟩:=ru;exact PySem.P.le_str ⟨.bl (leS i j),H,I,rfl,h _ _ .refl rfl ab⟩
  |_=>exact h.elim
 |_=>exact h.elim
theorem ze8 (I:Inv X pins σ H s) (hu:X.A.units+200<cLine) {G:Hw} {x y:W} {v v':V} {u u':Value} {b:Bool} (ab:xP X.K H G) (h:wX X.K H x v) (r:zB v u) (h':wX X.K H y v') (r':zB v' u') (e:bS G x y=some b) :
  RcAt X.A s u u' b/\RcNeAt X.A s u u' (!b):=by
 have gen:∀ (hh:(if (uP x&&uP y&&decide (min (nG x) (nG y)<=150))=true then some (vV x y) else none)=some b),RcAt X.A s u u' b/\RcNeAt X.A s u u' (!b):=fun hh=>by
  split at hh
  .rename_i c;simp only [Zp,decide_eq_true_eq] at c;cases hh;exact zh8 I x y v v' u u' X.A h r h' r' c.1.1 c.1.2 (by omega)
  .cases hh
 cases x with
 |ref p =>
  cases y with
  |ref q =>
   simp only [bS] at e
   split at e
   .rename_i a1 b1 e1 e2
    split at e
    .rename_i c;simp only [Zp,decide_eq_true_eq] at c;cases e;cases h;cases h';cases r;cases r';exact zh9 I ab e1 e2 c.1.1 c.1.2 (by omega)
    .cases e
   .cases e
  |_=>exact gen e
 |_=>cases y<;>exact gen e
theorem jP (hu:X.A.units+200<cLine) (op:CmpOp):kX X (compareOp op) (sL X.K (yL op)):=by
 cases op with
 |Eq =>
  intro pins s σ H v u a b Q I rv ru h;obtain ⟨x,y,G,rx,ry,ab,h⟩:=h;simp only [yL] at h
  split at h
  .rename_i k e;exact (ze8 I hu ab rx rv ry ru e).1 _ _ _ _ ⟨.bl k,H,I,rfl,h _ _ .refl rfl ab⟩
  .exact h.elim
 |NotEq =>
  intro pins s σ H v u a b Q I rv ru h;obtain ⟨x,y,G,rx,ry,ab,h⟩:=h;simp only [yL] at h
  split at h
  .rename_i k e;exact (ze8 I hu ab rx rv ry ru e).2 _ _ _ _ ⟨.bl (!k),H,I,rfl,h _ _ .refl rfl ab⟩
  .exact h.elim
 |Is=>exact zjo false
 |IsNot=>exact zjo true
 |In=>exact zeW false hu
 |NotIn=>exact zeW true hu
 |Lt=>exact zbX (f:=some ltS) op_lt fun q e i j t t' s Q z=>by cases e;exact lt_str z
 |LtE=>exact le_ok
 |Gt=>exact zbX (f:=none) op_gt
 |GtE=>exact zbX (f:=none) op_ge
end
end L3
namespace L3
open PySem PySem.Spec PyProof.Rows L2 HT
section
variable {prog : Program} {w : World} {A : Around} {E : Value → Shared → Prop} {s : Shared}
theorem zcv {t sl:Addr} {items:Array Value} {vl vu:Value} {lo hi:Option Int} {Q:Value->Shared->Prop} (ht:IsTup s.heap t items) (hs:s.heap.IsSliceOf sl vl vu .none) (pl:IsPart vl lo) (pu:IsPart vu hi)
  (hw:wY items.size 0 lo=0/\wY items.size items.size hi=items.size) (h:Q (.ref t) s):wpAny (model prog w) A (getItem (.ref t) (.ref sl)) Q E s:=by
 obtain ⟨os,hos,hcs,hds⟩:=id hs;have hTs:s.TypeIs (.ref sl) "slice" := ⟨os,hos,hcs⟩;unfold getItem
 try with_reducible refine ZK ?_
 first|refine Za (Zc ?_)|skip
 refine Za (Zb8 ht.typeIs (by decide) ?_)
 refine Za (ZJ (name:=Str.ofString "__getitem__") ht.typeIs ZV
  (ZC ZV ht.typeIs entry_tuple_getitem ?_ (args_tuple_getitem _ _)))
 show wpAny _ _ (Builtin.Tuple.tupleItemsOf (.ref t) >>= _) _ _ s;refine Za (tupleItemsOf_ ht ?_);refine Za (Za8 hTs ?_);rw [if_pos (by decide)];refine Za (qH hs pl pu ?_)
 have yes:(((wY items.size 0 lo:Nat):Int)==0&&(1:Int)==1&&(wY items.size items.size hi-wY items.size 0 lo)==items.size)=true:=by
  rw [hw.1,hw.2];simp
 show wpAny _ _ (if (((wY items.size 0 lo:Nat):Int)==0&&(1:Int)==1&&(wY items.size items.size hi-wY items.size 0 lo)==items.size)=true then _ else _) _ _ s;rw [if_pos yes];refine Za (m:=Builtin.Tuple.tupleIsExact (.ref t)) ?_;unfold Builtin.Tuple.tupleIsExact;refine Za (Za8 ht.typeIs (Zc ?_));rw [if_pos (by decide)];exact Za (ZaU (Zc ⟨_,rfl,Zc h⟩))
end
section
variable {X : Cx}
def rSlW (K:zA):V->Option Int->Option Int->Hp->VK->Prop:=fun x lo hi H Q=>∃ a xs,x=.ref a/\tB K H a xs/\(HT.wY xs.length 0 lo=0/\HT.wY xs.length xs.length hi=xs.length)/\Q (.ref a) H
theorem zdp:SlR X (rSlW X.K):=by
 intro pins s σ H x v vl vu lo hi sl Q I rx hs pl pu h;obtain ⟨a,xs,rfl,hx,hw,q⟩:=h;cases rx;obtain ⟨its,r,ht,hz⟩:=I.tuple hx;have hlen:its.toArray.size=xs.length:=by rw [zzS];exact r.length.symm
 exact ⟨"tuple", _,ZV.lookup,ht.typeIs,zcv ht hs pl pu (by rw [hlen];exact hw) ⟨.ref a,H,I,rfl,q⟩⟩
end
end L3
namespace L3
open PySem PySem.Spec PyProof.Rows L2 PySem.SeqAt
def jF (G:Hw):W->Option Bool
 | .non=>some false
 | .bl b=>some b
 | .int i=>some (i != 0)
 | .str y=>if y.length<=sizeLine then some ((y.length:Int) != 0) else none
 | .tup ws=>some (!ws.isEmpty)
 | .ref p=>match G p with
  |some (.lst ws)=>some (!ws.isEmpty)
  |some (.fix ws)=>some (!ws.isEmpty)
  |some (.dic kvs)=>some (!kvs.isEmpty)
  |_=>none
 |_=>none
theorem zF.empty {K:zA} {H:Hp} {ws:List W} {vs:List V} (h:zF K H ws vs):vs.isEmpty=ws.isEmpty:=by
 have:=h.length;cases ws<;>cases vs<;>simp_all
theorem yZ.length {K:zA} {H:Hp} {κ:Type}:∀ {l:List (κ×W)} {l':List (κ×V)},yZ K H l l'->l'.length=l.length
 | [],_,h=>by rw [show _=[] from h];rfl
 |_::_,_,⟨v,t,e,_,r⟩=>by rw [e,Zh,Zh,yZ.length r]
theorem zfw {K:zA} {H:Hp} {G:Hw} {w:W} {v:V} {k:Bool} (r:wX K H w v) (ab:xP K H G) (h:jF G w=some k):TruV K v H k:=by
 cases w with
 |non=>cases r;cases h;rfl
 |bl b=>cases r;cases h;rfl
 |int i=>cases r;cases h;rfl
 |str y =>
  cases r;simp only [jF] at h
  split at h
  .rename_i c;cases h;exact ⟨c,rfl⟩
  .cases h
 |ty n=>cases h
 |lsf n=>cases h
 |exc _ _ _=>cases h
 |dcf _ _=>cases h
 |tup ws =>
  obtain ⟨a,vs,rfl,q,rs⟩:=r;cases h;exact .inr (.inl ⟨vs,q,by rw [rs.empty]⟩)
 |ref p =>
  cases r
  have lk:∀ ws,yV G p=some ws->k=!ws.isEmpty->TruV K (.ref p) H k:=fun ws e q=>by
   obtain ⟨vs,sq,rs⟩:=ab.seq e;exact .inl ⟨vs,sq,by rw [rs.empty];exact q⟩
  simp only [jF] at h
  split at h
  .rename_i ws e;cases h;exact lk ws (by unfold yV;rw [e]) rfl
  .rename_i ws e;cases h;exact lk ws (by unfold yV;rw [e]) rfl
  .rename_i kvs e;cases h;obtain ⟨l,e',rk⟩:=ab.dic e;refine .inr (.inr ⟨l,e',?_⟩);have:=rk.length;cases kvs<;>cases l<;>simp_all
  .cases h
def vF {α:Type} (kvs:List (yM×α)) (k:yM):Option α:=(kvs.find? fun kv=>decide (kv.1=k)).map (·.2)
def qV {α:Type} (kvs:List (yM×α)) (k:yM) (v:α):List (yM×α) :=
 if (kvs.any fun kv=>decide (kv.1=k))=true then kvs.map (fun kv=>if kv.1=k then (kv.1,v) else kv) else kvs++[(k,v)]
theorem yZ.get {K:zA} {H:Hp} {k:yM} {w:W}:∀ {l:List (yM×W)} {l':List (yM×V)},yZ K H l l'->vF l k=some w->∃ v,kB l' k=some v/\wX K H w v
 | [],_,h,e=>by cases e
 |p::r,_,⟨v,t,e,h,hr⟩,q=>by
  subst e;unfold vF at q;rw [ZY] at q;unfold kB;rw [ZY]
  by_cases hk:p.1=k
  .simp only [hk,decide_true] at q ⊢;cases q;exact ⟨v,rfl,h⟩
  .simp only [hk,decide_false] at q ⊢;exact yZ.get hr q
theorem yZ.any {K:zA} {H:Hp} {k:yM}:∀ {l:List (yM×W)} {l':List (yM×V)},yZ K H l l'->(l'.any fun kv=>decide (kv.1=k))=l.any fun kv=>decide (kv.1=k)
 | [],_,h=>by rw [show _=[] from h];rfl
 |p::r,_,⟨v,t,e,h,hr⟩=>by subst e;rw [ZaG,ZaG,yZ.any hr]
theorem yZ.app {K:zA} {H:Hp} {κ:Type}:∀ {l:List (κ×W)} {l':List (κ×V)} {m:List (κ×W)} {m':List (κ×V)},yZ K H l l'->yZ K H m m'->yZ K H (l++m) (l'++m')
 | [],_,_,_,h,h'=>by rw [show _=[] from h];exact h'
 |p::r,_,_,_,⟨v,t,e,h,hr⟩,h'=>by rw [e];exact ⟨v,_,rfl,h,yZ.app hr h'⟩
theorem yZ.repl {K:zA} {H:Hp} {k:yM} {w:W} {v:V} (q:wX K H w v):∀ {l:List (yM×W)} {l':List (yM×V)},yZ K H l l' ->
  yZ K H (l.map fun kv=>if kv.1=k then (kv.1,w) else kv) (l'.map fun kv=>if kv.1=k then (kv.1,v) else kv)
 | [],_,h=>by rw [show _=[] from h];rfl
 |p::r,_,⟨u,t,e,h,hr⟩=>by
  subst e;rw [zzU,zzU]
  by_cases hk:p.1=k
  .simp only [hk,if_true];exact ⟨v,_,rfl,q,yZ.repl q hr⟩
  .simp only [hk,if_false];exact ⟨u,_,rfl,h,yZ.repl q hr⟩
theorem yZ.put {K:zA} {H:Hp} {k:yM} {w:W} {v:V} {l:List (yM×W)} {l':List (yM×V)} (h:yZ K H l l') (q:wX K H w v):yZ K H (qV l k w) (vZ l' k v):=by
 unfold qV vZ;rw [h.any]
 split
 .exact yZ.repl q h
 .exact h.app ⟨v,[],rfl,q,rfl⟩
theorem zcg {K:zA} {H:Hp} {y:W} {v:V} {k:yM} (r:wX K H y v) (h:qC y=some k):v=kV k:=by
 cases y<;>first|(cases h;cases r;rfl)|cases h
theorem ix_kd {X:Cx} {value slice:PySem.Expr} {pins:List (Addr×Obj)} {s:Shared} {σ:L2.St} {H:Hp} {a:Addr} {u:Value} {ks:List Str} {vs:List V} {k:Str} {v:V} {Q:VK} (I:Inv X pins σ H s) (h:KD X.K a ks vs) (ry:zB (.str k) u) (e:(ks.zip vs).lookup k=some v) (q:Q v H)
  (hs:subscripted slice false (.ref a) u=operate [.ref a,u] (getItem (.ref a) u)):wpAny (model X.prog X.w) X.A (subscriptTail value slice (.ref a) u) (EP X pins σ Q) X.xe s:=by
 have hT:=zi3 I h;obtain ⟨tk,rfl⟩:=ry;refine tail_any hT ZaM.lookup ?_ hs;unfold getItem
 try with_reducible refine ZK ?_
 refine Za (Zb8 hT (by decide) (Za ?_));refine ZJ (name:=Str.ofString "__getitem__") hT ZaM (ZC ZaM hT PySem.F.entry_dict_getitem ?_ (PySem.F.args_dict_getitem_2 _ _));show wpAny _ _ (dictGet a (.str k tk) >>= _) _ _ s;refine Za (ze2 I h ?_);rw [e];exact fun u s' r J=>Zc ⟨u,rfl,Zc ⟨v,H,J,r,q⟩⟩
def rX:R3:=fun x y G Q=>match x,y with
 | .tup ws,.int i=>(match rR ws i with|some w=>Q w G|none=>False)
 | .str z,.int i=>z.length<=sizeLine/\(match rR z.cps.toList i with|some c=>Q (.str ⟨#[c]⟩) G|none=>False)
 | .ref p,y=>(match G p with
  |some (.lst ws)=>(match y with|.int i=>(match rR ws i with|some w=>Q w G|none=>False)|_=>False)
  |some (.fix ws)=>(match y with|.int i=>(match rR ws i with|some w=>Q w G|none=>False)|_=>False)
  |some (.dic kvs)=>(match qC y with|some k=>(match vF kvs k with|some w=>Q w G|none=>False)|none=>False)
  |_=>False)
 | .dcf ks ws,.str k=>(match (ks.zip ws).lookup k with|some w=>Q w G|none=>False)
 |_,_=>False
theorem zcZ {K:zA} {H:Hp} {ws:List W} {vs:List V} {i:Int} {w:W} (h:zF K H ws vs) (e:rR ws i=some w):∃ v,rR vs i=some v/\wX K H w v:=by
 unfold rR at e ⊢;rw [h.length]
 cases q:cZ ws.length i with
 |none=>rw [q] at e;cases e
 |some j =>
  rw [q] at e;exact h.get e
theorem zaz:rP rX:=by
 intro x y G Q Q' k h
 cases x with
 |tup ws =>
  cases y<;>simp only [rX] at h ⊢<;>first
   |exact h.elim
   | (split at h<;>first|exact k _ _ h|exact h.elim)
 |str z =>
  cases y<;>simp only [rX] at h ⊢<;>first
   |exact h.elim
   | (refine ⟨h.1,?_⟩;have h:=h.2;split at h<;>first|exact k _ _ h|exact h.elim)
 |ref p =>
  simp only [rX] at h ⊢
  split at h
  .cases y<;>simp only at h ⊢<;>first
    |exact h.elim
    | (split at h<;>first|exact k _ _ h|exact h.elim)
  .cases y<;>simp only at h ⊢<;>first
    |exact h.elim
    | (split at h<;>first|exact k _ _ h|exact h.elim)
  .split at h
   .split at h
    .exact k _ _ h
    .exact h.elim
   .exact h.elim
  .exact h.elim
 |dcf ks ws =>
  cases y<;>simp only [rX] at h ⊢<;>first
   |exact h.elim
   | (split at h<;>first|exact k _ _ h|exact h.elim)
 |_=>exact h.elim
section
variable {X : Cx}
theorem zi7 (hu:X.A.units+200<cLine) {value slice:PySem.Expr} {pins:List (Addr×Obj)} {s:Shared} {σ:L2.St} {H:Hp} {a:Addr} {u:Value} {y v:V} {Q:VK} (I:Inv X pins σ H s) (g:DGet H a y (some v)) (hd:IsD H a) (ry:zB y u) (q:Q v H)
  (hs:subscripted slice false (.ref a) u=operate [.ref a,u] (getItem (.ref a) u)):wpAny (model X.prog X.w) X.A (subscriptTail value slice (.ref a) u) (EP X pins σ Q) X.xe s:=by
 exact tail_any (zjp I hd).1 ZaM.lookup (zcK (by omega) I g ry fun w' s' I' r'=>⟨v,H,I',r',q⟩) hs
theorem ix_ok (hu:X.A.units+200<cLine):IxR X (sL X.K rX):=by
 intro value slice pins s σ H v u a b Q I rv ru h hs;obtain ⟨x,y,G,rx,ry,ab,h⟩:=h
 cases x with
 |tup ws =>
  cases y with
  |int i =>
   obtain ⟨a1,vs,rfl,q,rs⟩:=rx;cases ry;simp only [rX] at h
   split at h
   .rename_i w e;obtain ⟨vv,ev,rp⟩:=zcZ rs e;exact zi5 value slice pins s σ H _ _ _ _ Q I rv ru ⟨a1,vs,i,vv,rfl,rfl,q,ev,h _ _ .refl rp ab⟩ hs
   .exact h.elim
  |_=>exact h.elim
 |str z =>
  cases y with
  |int i =>
   cases rx;cases ry;simp only [rX] at h;obtain ⟨hz,h⟩:=h
   split at h
   .rename_i c e;exact zi6 value slice pins s σ H _ _ _ _ Q I rv ru ⟨z,i,c,rfl,rfl,hz,e,h _ _ .refl rfl ab⟩ hs
   .exact h.elim
  |_=>exact h.elim
 |ref p =>
  cases rx
  have lk:∀ ws i w,yV G p=some ws->y=.int i->rR ws i=some w->jK X.K H Q w G->wpAny (model X.prog X.w) X.A (subscriptTail value slice a b) (EP X pins σ Q) X.xe s:=fun ws i w e ey ew q=>by
   subst ey;obtain ⟨vs,sq,rs⟩:=ab.seq e;obtain ⟨vv,ev,rp⟩:=zcZ rs ew;cases ry;exact zgo value slice pins s σ H _ _ _ _ Q I rv ru ⟨p,vs,i,vv,rfl,rfl,sq,ev,q _ _ .refl rp ab⟩ hs
  simp only [rX] at h
  split at h
  .rename_i ws e
   cases y with
   |int i =>
    simp only at h
    split at h
    .rename_i w ew;exact lk ws i w (by unfold yV;rw [e]) rfl ew h
    .exact h.elim
   |_=>exact h.elim
  .rename_i ws e
   cases y with
   |int i =>
    simp only at h
    split at h
    .rename_i w ew;exact lk ws i w (by unfold yV;rw [e]) rfl ew h
    .exact h.elim
   |_=>exact h.elim
  .rename_i kvs e
   split at h
   .rename_i k ek
    split at h
    .rename_i w ew;obtain ⟨l,e',rk⟩:=ab.dic e;obtain ⟨vv,ev,rp⟩:=rk.get ew;have ey:=zcg ry ek;subst ey;obtain rfl:a=Value.ref p:=rv;exact zi7 hu I (.inl ⟨l,k,.inl e',rfl,ev.symm⟩) (.inl ⟨l,.inl e'⟩) ru (h _ _ .refl rp ab) hs
    .exact h.elim
   .exact h.elim
  .exact h.elim
 |dcf ks ws =>
  cases y with
  |str k =>
   obtain ⟨a1,vs,rfl,kd,rs⟩:=rx;obtain rfl:a=Value.ref a1:=rv;cases (show u=.str k from ry);simp only [rX] at h
   split at h
   .rename_i w e;obtain ⟨vv,ev,rp⟩:=vI rs e;exact ix_kd I kd ru ev (h _ _ .refl rp ab) hs
   .exact h.elim
  |_=>exact h.elim
 |_=>exact h.elim
end
def tH {α:Type} (xs:List α) (lo hi:Option Int):List α:=(xs.drop (HT.wY xs.length 0 lo)).take (HT.wY xs.length xs.length hi-HT.wY xs.length 0 lo)
theorem cR {K:zA} {H:Hp} {ws:List W} {vs:List V} (h:zF K H ws vs) (lo hi:Option Int):zF K H (tH ws lo hi) (cutV vs lo hi):=by
 unfold tH cutV;rw [h.length];exact (h.drop _).take _
def slR:W->Option Int->Option Int->Hw->Q3->Prop:=fun x lo hi G Q=>match x with
 | .tup ws=>Q (.tup (tH ws lo hi)) G
 | .ref p=>(match yV G p with|some ws=>∀ r,G r=none->Q (.ref r) (put G r (.lst (tH ws lo hi)))|none=>False)
 | .lsf ws=>∀ r,G r=none->Q (.ref r) (put G r (.lst (tH ws lo hi)))
 | .str x=>x.length<=sizeLine/\Q (.str (Txt.slice x lo hi)) G
 |_=>False
theorem zak {x:W} {lo hi:Option Int} {G:Hw} {Q Q':Q3} (k:∀ w G',Q w G'->Q' w G') (h:slR x lo hi G Q):slR x lo hi G Q':=by
 cases x with
 |tup ws=>exact k _ _ h
 |ref p =>
  simp only [slR] at h ⊢
  split at h
  .exact fun r hr=>k _ _ (h r hr)
  .exact h.elim
 |lsf ws=>exact fun r hr=>k _ _ (h r hr)
 |str x=>exact ⟨h.1,k _ _ h.2⟩
 |_=>exact h.elim
theorem zhS {X:Cx} {pins:List (Addr×Obj)} {s:Shared} {σ:L2.St} {H:Hp} {x:Str} {v vl vu:Value} {lo hi:Option Int} {sl:Addr} {Q:VK} (I:Inv X pins σ H s) (rv:zB (.str x) v) (hs:s.heap.IsSliceOf sl vl vu .none)
  (pl:IsPart vl lo) (pu:IsPart vu hi) (hz:x.length<=sizeLine) (q:Q (.str (Txt.slice x lo hi)) H):∃ T id,typeLookup (.type T) "__getitem__" = pure (some (.builtin id))/\s.TypeIs v T/\wpAny (model X.prog X.w) X.A (getItem v (.ref sl)) (EP X pins σ Q) X.xe s:=by
 obtain ⟨t,rfl⟩:=rv;have fin:∀ t' k,EP X pins σ Q (.str (Txt.slice x lo hi) t') { s with toks:=k }:=fun t' k=>⟨.str (Txt.slice x lo hi),H,I.tok _,⟨t',rfl⟩,q⟩;have hz':=Zy (Txt.slice_le x lo hi) hz;refine ⟨"str", _,F.slot_str_getitem.lookup,typeIs_str _ _ _,?_⟩;obtain ⟨o,ho,hc,hd⟩:=hs
 cases pl with
 |none =>
  cases pu with
  |none=>exact Za1 (l:=none) (u:=none) (st:=none) ⟨o,ho,hc,hd⟩ rfl (ZbP ⟨hz',fin⟩)
  |int j tj=>exact Za1 (l:=none) (u:=some (j,tj)) (st:=none) ⟨o,ho,hc,hd⟩ rfl (ZbP ⟨hz',fin⟩)
 |int i ti =>
  cases pu with
  |none=>exact Za1 (l:=some (i,ti)) (u:=none) (st:=none) ⟨o,ho,hc,hd⟩ rfl (ZbP ⟨hz',fin⟩)
  |int j tj=>exact Za1 (l:=some (i,ti)) (u:=some (j,tj)) (st:=none) ⟨o,ho,hc,hd⟩ rfl (ZbP ⟨hz',fin⟩)
def lowSl (K:zA) (r:W->Option Int->Option Int->Hw->Q3->Prop):V->Option Int->Option Int->Hp->VK->Prop:=fun v lo hi H Q=>∃ x G,wX K H x v/\xP K H G/\r x lo hi G (jK K H Q)
theorem sl_ok {X:Cx}:SlR X (lowSl X.K slR):=by
 intro pins s σ H v u vl vu lo hi sl Q I rv hs pl pu h;obtain ⟨x,G,rx,ab,h⟩:=h
 cases x with
 |tup ws =>
  obtain ⟨a,vs,rfl,q,rs⟩:=rx
  by_cases hw:HT.wY vs.length 0 lo=0/\HT.wY vs.length vs.length hi=vs.length
  .have e:tH ws lo hi=ws:=by
    have hw':=hw;rw [rs.length] at hw';unfold tH;rw [hw'.1,hw'.2,List.drop_zero,Nat.sub_zero,Zcj]
   have h':jK X.K H Q (.tup (tH ws lo hi)) G:=h;rw [e] at h';exact zdp pins s σ H _ _ vl vu lo hi sl Q I rv hs pl pu ⟨a,vs,rfl,q,hw,h' _ _ .refl ⟨a,vs,rfl,q,rs⟩ ab⟩
  .exact zhR pins s σ H _ _ vl vu lo hi sl Q I rv hs pl pu ⟨a,vs,rfl,q,hw,uX ab (cR rs lo hi) h⟩
 |ref p =>
  cases rx;simp only [slR] at h
  split at h
  .rename_i ws e;obtain ⟨vs,sq,rs⟩:=ab.seq e;exact zbC pins s σ H _ _ vl vu lo hi sl Q I rv hs pl pu ⟨p,vs,rfl,sq,jM ab (cR rs lo hi) h⟩
  .exact h.elim
 |lsf ws =>
  obtain ⟨a,vs,rfl,q,rs⟩:=rx;exact zbC pins s σ H _ _ vl vu lo hi sl Q I rv hs pl pu ⟨a,vs,rfl,.inr q,jM ab (cR rs lo hi) h⟩
 |str x =>
  cases (show v=.str x from rx);exact zhS I rv hs pl pu h.1 (h.2 _ _ .refl rfl ab)
 |_=>exact h.elim
def rN:W->W->W->Hw->(Hw->Prop)->Prop:=fun o i v G Q=>match o with
 | .ref p=>(match G p with
  |some (.lst ws)=>(match i with|.int k=>(match cZ ws.length k with|some j=>Q (put G p (.lst (ws.set j v)))|none=>False)|_=>False)
  |some (.dic kvs)=>(match qC i with|some k=>kvs.length<sizeLine/\Q (put G p (.dic (qV kvs k v)))|none=>False)
  |_=>False)
 |_=>False
theorem zbD {o i v:W} {G:Hw} {Q Q':Hw->Prop} (k:∀ G',Q G'->Q' G') (h:rN o i v G Q):rN o i v G Q':=by
 cases o with
 |ref p =>
  simp only [rN] at h ⊢
  split at h
  .cases i<;>simp only at h ⊢<;>first
    |exact h.elim
    | (split at h<;>first|exact k _ h|exact h.elim)
  .split at h
   .exact ⟨h.1,k _ h.2⟩
   .exact h.elim
  .exact h.elim
 |_=>exact h.elim
def zeX (K:zA):TSet:=fun o i v H Q=>∃ x y z G,wX K H x o/\wX K H y i/\wX K H z v/\xP K H G/\rN x y z G fun G'=>∀ H',yK K H H'->xP K H' G'->Q H'
theorem zhU {X:Cx} (hu:X.A.units+200<cLine):PSet X (zeX X.K):=by
 intro pins s σ H o i v ov iv u Q I ro ri rv h;obtain ⟨x,y,z,G,rx,ry,rz,ab,h⟩:=h
 cases x with
 |ref p =>
  cases rx;simp only [rN] at h
  split at h
  .rename_i ws e
   cases y with
   |int k =>
    simp only at h
    split at h
    .rename_i j ej;cases ry;obtain ⟨vs,q1,r1⟩:=ab.lst e;refine zdq pins s σ H _ _ _ _ _ _ Q I ro ri rv ⟨p,vs,k,j,rfl,rfl,q1,by rw [r1.length];exact ej,?_⟩;have g:=ab.grow (u:=.lst (vs.set j v)) e;exact h _ g (ab.chg e ⟨_,rfl,((r1.mono g).set (rz.mono g) j)⟩)
    .exact h.elim
   |_=>exact h.elim
  .rename_i kvs e
   split at h
   .rename_i k ek;obtain ⟨l,e',rk⟩:=ab.dic e;have ey:=zcg ry ek;subst ey;obtain rfl:ov=Value.ref p:=ro;refine zcJ (by omega) I (.inl ⟨l,k,e',rfl,by rw [rk.length];exact h.1,rfl⟩) ri rv fun s' I'=>⟨_,I',?_⟩;have g:=ab.grow (u:=.dK (vZ l k v)) e;exact h.2 _ g (ab.chg e ⟨_,rfl,(rk.mono g).put (rz.mono g)⟩)
   .exact h.elim
  .exact h.elim
 |_=>exact h.elim
end L3
namespace L3
open PySem PySem.Spec PyProof.Rows L2
abbrev XQ:=Str->List (Str×W)->Hw->Prop
def XN:XQ:=fun _ _ _=>False
abbrev mU:=List W->Hw->Q3->XQ->Prop
structure Fn3 where
 nm:Str
 sp:mU
structure Mt3 where
 nm:Str
 T:String
 sp:W->List W->Hw->Q3->Prop
abbrev I3:=wK->Hw->(List W->(Hw->Prop)->Hw->Prop)->Prop
structure It3 where
 nm:Str
 sp:List W->Hw->(List W->(Hw->Prop)->Hw->Prop)->Prop
structure Sx3 where
 m:Scope->Expr->Option (List Expr)
 sp:List W->Hw->Q3->Prop
structure Ix3 where
 m:Scope->Expr->Option (List Expr)
 sp:List W->Hw->(List W->(Hw->Prop)->Hw->Prop)->Prop
structure Ctx3 where
 fn:List Fn3
 gl:List (Str×W)
 mt:List Mt3
 it:List It3
 cl:List (Addr×List Str)
 sx:List Sx3
 ix:List Ix3
set_option genInjectivity false
mutual
inductive IE where
 |var (i:Nat)|con (c:Const)|glb (i:Nat)
 |bin (op:Operator) (a b:IE)|neg (a:IE)|not (a:IE)
 |cmp (op:CmpOp) (a b:IE)|chn (o1 o2:CmpOp) (a b c:IE)
 |and (a b:IE)|or (a b:IE)|ite (c a b:IE)
 |ix (a i:IE)|sl (a:IE) (lo hi:IO)
 |tup (es:IEs)|lst (es:IEs)|dct (ks:List Str) (es:IEs)
 |call (f:Nat) (es:IEs)|mth (m:Nat) (o:IE) (es:IEs)|att (o:IE) (f:Str)
 |lc (tg:ITg) (names:List Str) (caps:List Nat) (it:II) (c:IO) (elt:IE)
 |spc (i:Nat) (es:IEs)|ch3 (o1 o2 o3:CmpOp) (a b c d:IE)
inductive IO where
 |no|yes (e:IE)
inductive IEs where
 |nil|cons (e:IE) (es:IEs)
inductive II where
 |val (e:IE)|blt (i:Nat) (es:IEs)|spc (i:Nat) (es:IEs)
inductive ITg where
 |nm (i:Nat)|tup (ts:ITgs)
inductive ITgs where
 |nil|cons (t:ITg) (ts:ITgs)
end
mutual
inductive IS where
 |asg (i:Nat) (e:IE)|asgT (ts:ITgs) (e:IE)|asgI (o i e:IE)|asgA (o:IE) (f:Str) (e:IE)
 |ex (e:IE)|ret (e:IE)|retN|pass|brk|cnt
 |ite (c:IE) (a b:ISs)|whl (c:IE) (b:ISs)|for (tg:ITg) (it:II) (b:ISs)|dead|asgS (i j:Nat) (e:IE)
inductive ISs where
 |nil|cons (s:IS) (ss:ISs)
end
def zH:Const->Option W
 | .none=>some .non
 | .bool b=>some (.bl b)
 | .int i=>some (.int i)
 | .str x=>some (.str x)
 |_=>none
abbrev G3:=W->wK->Hw->(wK->Hw->Prop)->Prop
abbrev Gs3:=List W->wK->Hw->(wK->Hw->Prop)->Prop
mutual
def zT:ITg->G3
 | .nm i=>fun w σ G Q=>Q (σ.set i (some w)) G
 | .tup ts=>fun w σ G Q=>match w with
  | .tup ws=>zY ts ws σ G Q
  |_=>False
def zY:ITgs->Gs3
 | .nil=>fun ws σ G Q=>match ws with | []=>Q σ G|_=>False
 | .cons t ts=>fun ws σ G Q=>match ws with
  |w::r=>zT t w σ G fun σ' G'=>zY ts r σ' G' Q
  | []=>False
end
def vU (k:Nat) (caps:List Nat) (σ:wK):wK:=List.replicate k none++caps.map fun j=>(σ[j]?).join
def sgs (x:Str):List W:=x.cps.toList.map fun c=>.str ⟨#[c]⟩
def kW:yM->W
 | .inl i=>.int i
 | .inr x=>.str x
def jY (G:Hw) (p:Addr):Option (List (yM×W)):=match G p with
 |some (.dic kvs)=>some kvs
 |some (.fzd kvs)=>some kvs
 |_=>none
def qA (w:W) (G:Hw) (R:List W->(Hw->Prop)->Hw->Prop):Prop:=match w with
 | .tup ws=>R ws (fun _=>True) G
 | .ref p=>(match yV G p with
  |some ws=>R ws (fun G'=>yV G' p=some ws) G
  |none=>(match jY G p with
   |some kvs=>R (kvs.map fun kv=>kW kv.1) (fun G'=>G' p=some (.fzd kvs)) (put G p (.fzd kvs))
   |none=>False))
 | .str x=>R (sgs x) (fun _=>True) G
 |_=>False
def lcR (items:List W) (stab:Hw->Prop) (G1:Hw) (turn:W->Hw->(Option W->Hw->Prop)->Prop) (Q:Q3):Prop :=
 ∃ Pv:Nat->List W->Hw->Prop,Pv 0 [] G1/\(∀ i acc G,Pv i acc G->i<=items.length->stab G/\acc.length<=i)/\items.length<=sizeLine /\
  (∀ i w acc G,items[i]?=some w->Pv i acc G->turn w G fun o G'=>match o with|some x=>Pv (i+1) (acc++[x]) G'|none=>Pv (i+1) acc G') /\
  ∀ acc G,Pv items.length acc G->∀ p,G p=none->Q (.ref p) (put G p (.lst acc))
def zI (w:W) (G:Hw) (Q:Q3):Prop:=match w with|.int i=>Q (.int (-i)) G|_=>False
def yU (w:W) (Q:Bool->Prop):Prop:=match w with|.bl b=>Q b|_=>False
def zJ (w:W) (Q:Int->Prop):Prop:=match w with|.int i=>Q i|_=>False
def tyW (G:Hw):W->String->Prop
 | .str _,T=>T = "str"
 | .ref p,T=>match G p with
  |some (.lst _)=>T = "list"
  |some (.fix _)=>T = "list"
  |some (.dic _)=>T = "dict"
  |_=>False
 |_,_=>False
def attR (cl:List (Addr×List Str)) (f:Str) (w:W) (G:Hw) (Q:Q3):Prop:=match w with
 | .ref p=>(match G p with
  |some (.ins C fs)=>(∃ l,(C,l)∈cl/\f∈l)/\(match fs.lookup f with|some v=>Q v G|none=>False)
  |_=>False)
 |_=>False
def zbN (f:Str) (v:W):List (Str×W)->List (Str×W)
 | []=>[(f,v)]
 | (g,x)::r=>if g=f then (g,v)::r else (g,x)::zbN f v r
def satR (cl:List (Addr×List Str)) (f:Str) (o v:W) (G:Hw) (Q:Hw->Prop):Prop:=match o with
 | .ref p=>(match G p with
  |some (.ins C fs)=>(∃ l,(C,l)∈cl/\f∈l)/\fs.length<1000/\Q (put G p (.ins C (zbN f v fs)))
  |_=>False)
 |_=>False
def zg5 (ks:List Str) (ws:List W):List (yM×W):=(ks.zip ws).foldl (fun acc kv=>qV acc (.inr kv.1) kv.2) []
structure ET where
 e:E3
 t:T3
def zM (e:E3):T3:=fun σ G Q=>e σ G fun w G1=>match jF G1 w with|some b=>Q b G1|none=>False
def yN (e:E3):T3:=fun σ G Q=>e σ G fun w G1=>yU w fun b=>Q b G1
def yX (e:E3):ET:=⟨e,zM e⟩
def yP (e:E3):ET:=⟨e,yN e⟩
def dP:List E3->A3
 | []=>fun _ G Q=>Q [] G
 |e::es=>fun σ G Q=>e σ G fun x G1=>dP es σ G1 fun xs G2=>Q (x::xs) G2
section
variable (Γ : Ctx3)
mutual
def zD (E:XQ):IE->ET
 | .var i=>yX fun σ G Q=>match σ[i]? with|some (some w)=>Q w G|_=>False
 | .con c=>yX fun σ G Q=>match zH c with|some w=>Q w G|none=>False
 | .glb i=>yX fun σ G Q=>match Γ.gl[i]? with|some p=>Q p.2 G|none=>False
 | .bin op a b=>yX fun σ G Q=>(zD E a).e σ G fun x G1=>(zD E b).e σ G1 fun y G2=>jO op x y G2 Q
 | .neg a=>yX fun σ G Q=>(zD E a).e σ G fun x G1=>zI x G1 Q
 | .not a=>⟨fun σ G Q=>(zD E a).e σ G fun x G1=>yU x fun b=>Q (.bl (!b)) G1,fun σ G Q=>(zD E a).t σ G fun b G1=>Q (!b) G1⟩
 | .cmp op a b=>yP fun σ G Q=>(zD E a).e σ G fun x G1=>(zD E b).e σ G1 fun y G2=>yL op x y G2 Q
 | .chn o1 o2 a b c=>yP fun σ G Q=>(zD E a).e σ G fun x G1=>(zD E b).e σ G1 fun y G2=>yL o1 x y G2 fun z G3=>yU z fun k =>
   if k=true then (zD E c).e σ G3 fun u G4=>yL o2 y u G4 Q else Q (.bl false) G3
 | .and a b=>⟨fun σ G Q=>(zD E a).e σ G fun x G1=>yU x fun k=>if k=true then (zD E b).e σ G1 Q else Q (.bl false) G1,
   fun σ G Q=>(zD E a).t σ G fun k G1=>if k=true then (zD E b).t σ G1 Q else Q false G1⟩
 | .or a b=>⟨fun σ G Q=>(zD E a).e σ G fun x G1=>yU x fun k=>if k=true then Q (.bl true) G1 else (zD E b).e σ G1 Q,
   fun σ G Q=>(zD E a).t σ G fun k G1=>if k=true then Q true G1 else (zD E b).t σ G1 Q⟩
 | .ite c a b=>⟨fun σ G Q=>(zD E c).t σ G fun k G1=>if k=true then (zD E a).e σ G1 Q else (zD E b).e σ G1 Q,fun _ _ _=>False⟩
 | .ix a i=>yX fun σ G Q=>(zD E a).e σ G fun x G1=>(zD E i).e σ G1 fun y G2=>rX x y G2 Q
 | .sl a lo hi=>yX fun σ G Q=>(zD E a).e σ G fun x G1=>zK E lo σ G1 fun l G2=>zK E hi σ G2 fun u G3=>slR x l u G3 Q
 | .tup es=>yX fun σ G Q=>zU E es σ G fun ws G1=>ws.length<=sizeLine/\Q (.tup ws) G1
 | .lst es=>yX fun σ G Q=>zU E es σ G fun ws G1=>ws.length<=sizeLine/\∀ p,G1 p=none->Q (.ref p) (put G1 p (.lst ws))
 | .dct ks es=>yX fun σ G Q=>∀ p,G p=none->zU E es σ (put G p (.dic [])) fun ws G1=>G1 p=some (.dic [])/\ws.length=ks.length/\Q (.ref p) (put G1 p (.dic (zg5 ks ws)))
 | .call f es=>yX fun σ G Q=>zU E es σ G fun ws G1=>match Γ.fn[f]? with|some h=>h.sp ws G1 Q E|none=>False
 | .mth m o es=>yX fun σ G Q=>(zD E o).e σ G fun x G1=>match Γ.mt[m]? with|some h=>tyW G1 x h.T/\zU E es σ G1 fun ws G2=>h.sp x ws G2 Q|none=>False
 | .att o f=>yX fun σ G Q=>(zD E o).e σ G fun x G1=>attR Γ.cl f x G1 Q
 | .lc tg names caps it c elt=>yX fun σ G Q=>zP E it σ G fun items stab G1 =>
   lcR items stab G1 (fun w G' K=>zT tg w (vU names.length caps σ) G' fun σ2 G2=>zN c σ2 G2 fun b G3=>if b=true then (zD XN elt).e σ2 G3 fun x G4=>K (some x) G4 else K none G3) Q
 | .spc i es=>yX fun σ G Q=>zU E es σ G fun ws G1=>match Γ.sx[i]? with|some h=>h.sp ws G1 Q|none=>False
 | .ch3 o1 o2 o3 a b c d=>yP fun σ G Q=>(zD E a).e σ G fun x G1=>(zD E b).e σ G1 fun y G2=>yL o1 x y G2 fun z G3=>yU z fun k =>
   if k=true then (zD E c).e σ G3 fun u G4=>yL o2 y u G4 fun z2 G5=>yU z2 fun k2 =>
    if k2=true then (zD E d).e σ G5 fun t G6=>yL o3 u t G6 Q else Q (.bl false) G5
   else Q (.bl false) G3
def zK (E:XQ):IO->wK->Hw->(Option Int->Hw->Prop)->Prop
 | .no=>fun _ G Q=>Q none G
 | .yes e=>fun σ G Q=>(zD E e).e σ G fun x G1=>zJ x fun i=>Q (some i) G1
def zN:IO->T3
 | .no=>fun _ G Q=>Q true G
 | .yes e=>(zD XN e).t
def zU (E:XQ):IEs->A3
 | .nil=>fun _ G Q=>Q [] G
 | .cons e es=>fun σ G Q=>(zD E e).e σ G fun x G1=>zU E es σ G1 fun xs G2=>Q (x::xs) G2
def zP (E:XQ):II->I3
 | .val e=>fun σ G R=>(zD E e).e σ G fun w G1=>qA w G1 R
 | .blt i es=>fun σ G R=>zU E es σ G fun ws G1=>match Γ.it[i]? with|some h=>h.sp ws G1 R|none=>False
 | .spc i es=>fun σ G R=>zU E es σ G fun ws G1=>match Γ.ix[i]? with|some h=>h.sp ws G1 R|none=>False
end
def semL:IEs->List E3
 | .nil=>[]
 | .cons e es=>(zD Γ XN e).e::semL es
abbrev zQ (E:XQ) (e:IE):E3:=(zD Γ E e).e
abbrev zL (E:XQ) (e:IE):T3:=(zD Γ E e).t
def forR (items:List W) (stab:Hw->Prop) (D:End3) (σ:wK) (G1:Hw) (turn:W->End3->wK->Hw->Prop):Prop :=
 ∃ Pv:Nat->wK->Hw->Prop,Pv 0 σ G1/\(∀ i σ G,Pv i σ G->i<=items.length->stab G) /\
  (∀ i w σ G,items[i]?=some w->Pv i σ G->turn w { D with nx:=Pv (i+1),ct:=Pv (i+1),bk:=D.nx } σ G)/\∀ σ G,Pv items.length σ G->D.nx σ G
mutual
def zO (E:XQ):IS->S3
 | .asg i e=>fun D σ G=>zQ Γ E e σ G fun w G1=>D.nx (σ.set i (some w)) G1
 | .asgT ts e=>fun D σ G=>zQ Γ E e σ G fun w G1=>zT (.tup ts) w σ G1 D.nx
 | .asgI o i e=>fun D σ G=>zQ Γ E e σ G fun w G1=>zQ Γ E o σ G1 fun x G2=>zQ Γ E i σ G2 fun y G3=>rN x y w G3 fun G4=>D.nx σ G4
 | .asgA o f e=>fun D σ G=>zQ Γ E e σ G fun w G1=>zQ Γ E o σ G1 fun x G2=>satR Γ.cl f x w G2 fun G3=>D.nx σ G3
 | .ex e=>fun D σ G=>zQ Γ E e σ G fun _ G1=>D.nx σ G1
 | .ret e=>fun D σ G=>zQ Γ E e σ G D.rt
 | .retN=>fun D _ G=>D.rt .non G
 | .pass=>fun D σ G=>D.nx σ G
 | .brk=>fun D σ G=>D.bk σ G
 | .cnt=>fun D σ G=>D.ct σ G
 | .ite c a b=>fun D σ G=>zL Γ E c σ G fun k G1=>if k=true then yW E a D σ G1 else yW E b D σ G1
 | .whl c b=>fun D σ G=>∃ Pv:Nat->wK->Hw->Prop,(∃ m,Pv m σ G)/\∀ m σ G,Pv m σ G->zL Γ E c σ G fun k G1 =>
   if k=true then yW E b { D with nx:=fun σ' G'=>∃ m',m' < m/\Pv m' σ' G',ct:=fun σ' G'=>∃ m',m' < m/\Pv m' σ' G',bk:=D.nx } σ G1 else D.nx σ G1
 | .for tg it b=>fun D σ G=>zP Γ E it σ G fun items stab G1=>forR items stab D σ G1 fun w D' σ' G'=>zT tg w σ' G' fun σ2 G2=>yW E b D' σ2 G2
 | .dead=>fun _ _ _=>False
 | .asgS i j e=>fun D σ G=>zQ Γ E e σ G fun w G1=>match w with
  | .tup (x::r)=>r.length<=1000/\∀ p,G1 p=none->D.nx ((σ.set i (some x)).set j (some (.ref p))) (put G1 p (.lst r))
  |_=>False
def yW (E:XQ):ISs->S3
 | .nil=>fun D σ G=>D.nx σ G
 | .cons s ss=>fun D σ G=>zO E s { D with nx:=yW E ss D } σ G
end
end
theorem vO (Γ:Ctx3):∀ es:IEs,zU Γ XN es=dP (semL Γ es)
 | .nil=>rfl
 | .cons e es=>by
  show (fun (σ:wK) (G:Hw) (Q:List W->Hw->Prop)=>(zD Γ XN e).e σ G fun x G1=>zU Γ XN es σ G1 fun xs G2=>Q (x::xs) G2)=_;rw [vO Γ es];rfl
structure TabMono (Γ:Ctx3):Prop where
 fn:∀ f∈Γ.fn,∀ ws G (Q Q':Q3) E,(∀ w G',Q w G'->Q' w G')->f.sp ws G Q E->f.sp ws G Q' E
 mt:∀ m∈Γ.mt,∀ x ws G (Q Q':Q3),(∀ w G',Q w G'->Q' w G')->m.sp x ws G Q->m.sp x ws G Q'
 it:∀ m∈Γ.it,∀ ws G (R R':List W->(Hw->Prop)->Hw->Prop),(∀ a b c,R a b c->R' a b c)->m.sp ws G R->m.sp ws G R'
 sx:∀ m∈Γ.sx,∀ ws G (Q Q':Q3),(∀ w G',Q w G'->Q' w G')->m.sp ws G Q->m.sp ws G Q'
 ix:∀ m∈Γ.ix,∀ ws G (R R':List W->(Hw->Prop)->Hw->Prop),(∀ a b c,R a b c->R' a b c)->m.sp ws G R->m.sp ws G R'
def zjR (t:I3):Prop:=∀ σ G (R R':List W->(Hw->Prop)->Hw->Prop),(∀ a b c,R a b c->R' a b c)->t σ G R->t σ G R'
def zjQ (t:wK->Hw->(Option Int->Hw->Prop)->Prop):Prop:=∀ σ G (Q Q':Option Int->Hw->Prop),(∀ a b,Q a b->Q' a b)->t σ G Q->t σ G Q'
theorem qU {w:W} {Q Q':Bool->Prop} (k:∀ b,Q b->Q' b) (h:yU w Q):yU w Q':=by
 cases w<;>first|exact k _ h|exact h.elim
theorem fR {w:W} {Q Q':Int->Prop} (k:∀ b,Q b->Q' b) (h:zJ w Q):zJ w Q':=by
 cases w<;>first|exact k _ h|exact h.elim
theorem zb3 {w:W} {G:Hw} {Q Q':Q3} (k:∀ w G,Q w G->Q' w G) (h:zI w G Q):zI w G Q':=by
 cases w<;>first|exact k _ _ h|exact h.elim
theorem zcY {cl:List (Addr×List Str)} {f:Str} {w:W} {G:Hw} {Q Q':Q3} (k:∀ w G,Q w G->Q' w G) (h:attR cl f w G Q):attR cl f w G Q':=by
 cases w with
 |ref p =>
  simp only [attR] at h ⊢
  split at h
  .refine ⟨h.1,?_⟩;have h2:=h.2
   split at h2
   .exact k _ _ h2
   .exact h2.elim
  .exact h.elim
 |_=>exact h.elim
theorem nO {w:W} {G:Hw} {R R':List W->(Hw->Prop)->Hw->Prop} (k:∀ a b c,R a b c->R' a b c) (h:qA w G R):qA w G R':=by
 cases w with
 |tup ws=>exact k _ _ _ h
 |ref p =>
  simp only [qA] at h ⊢
  split at h
  .exact k _ _ _ h
  .split at h
   .exact k _ _ _ h
   .exact h.elim
 |str x=>exact k _ _ _ h
 |_=>exact h.elim
theorem zdW {items:List W} {stab:Hw->Prop} {G1:Hw} {turn:W->Hw->(Option W->Hw->Prop)->Prop} {Q Q':Q3} (k:∀ w G,Q w G->Q' w G) (h:lcR items stab G1 turn Q):lcR items stab G1 turn Q':=by
 obtain ⟨Pv,h0,h1,h2,h3,h4⟩:=h;exact ⟨Pv,h0,h1,h2,h3,fun acc G hp p hn=>k _ _ (h4 acc G hp p hn)⟩
theorem zbr {e:E3} (m:wJ e):vB (zM e):=fun σ G Q Q' k h=>m σ G _ _ (fun w G1 q=>by
 split at q
 .exact k _ _ q
 .exact q.elim) h
theorem zew {e:E3} (m:wJ e):vB (yN e):=fun σ G Q Q' k h=>m σ G _ _ (fun w G1 q=>qU (fun b=>k b G1) q) h
theorem xU {e:E3} (m:wJ e):wJ (yX e).e/\vB (yX e).t:=⟨m,zbr m⟩
theorem nZ {e:E3} (m:wJ e):wJ (yP e).e/\vB (yP e).t:=⟨m,zew m⟩
theorem wR {α:Type} {l:List α} {i:Nat} {x:α} (h:l[i]?=some x):x∈l:=Zv h
variable {Γ : Ctx3} (g : TabMono Γ)
include g
theorem zau (e:IE):∀ E,wJ (zD Γ E e).e/\vB (zD Γ E e).t:=by
 refine IE.rec (motive_1:=fun e=>∀ E,wJ (zD Γ E e).e/\vB (zD Γ E e).t) (motive_2:=fun o=>(∀ E,zjQ (zK Γ E o))/\vB (zN Γ o)) (motive_3:=fun es=>∀ E,qK (zU Γ E es)) (motive_4:=fun it=>∀ E,zjR (zP Γ E it))
  (motive_5:=fun _=>True) (motive_6:=fun _=>True) ?var ?con ?glb ?bin ?neg ?not ?cmp ?chn ?and ?or ?ite ?ix ?sl ?tup ?lst ?dct ?call ?mth ?att ?lc ?spc ?ch3 ?no ?yes ?nil ?cons ?val ?blt ?ispc ?nm ?tt ?tn ?tc e
 case var =>
  intro i E;refine xU fun σ G Q Q' k h=>?_
  split at h
  .exact k _ _ h
  .exact h.elim
 case con =>
  intro c E;refine xU fun σ G Q Q' k h=>?_
  split at h
  .exact k _ _ h
  .exact h.elim
 case glb =>
  intro i E;refine xU fun σ G Q Q' k h=>?_
  split at h
  .exact k _ _ h
  .exact h.elim
 case bin=>exact fun op a b ha hb E=>xU fun σ G Q Q' k h=>(ha E).1 σ G _ _ (fun x G1 h=>(hb E).1 σ G1 _ _ (fun y G2 h=>fD op x y G2 _ _ k h) h) h
 case neg=>exact fun a ha E=>xU fun σ G Q Q' k h=>(ha E).1 σ G _ _ (fun x G1 h=>zb3 k h) h
 case not=>exact fun a ha E=>⟨fun σ G Q Q' k h=>(ha E).1 σ G _ _ (fun x G1 h=>qU (fun b=>k _ _) h) h,fun σ G Q Q' k h=>(ha E).2 σ G _ _ (fun b G1 h=>k _ _ h) h⟩
 case cmp=>exact fun op a b ha hb E=>nZ fun σ G Q Q' k h=>(ha E).1 σ G _ _ (fun x G1 h=>(hb E).1 σ G1 _ _ (fun y G2 h=>xZ op x y G2 _ _ k h) h) h
 case chn =>
  exact fun o1 o2 a b c ha hb hc E=>nZ fun σ G Q Q' k h=>(ha E).1 σ G _ _ (fun x G1 h=>(hb E).1 σ G1 _ _ (fun y G2 h=>xZ o1 x y G2 _ _ (fun z G3 h=>qU (fun b h=>by
   split
   .rename_i hb;rw [if_pos hb] at h;exact (hc E).1 σ G3 _ _ (fun u G4 h=>xZ o2 y u G4 _ _ k h) h
   .rename_i hb;rw [if_neg hb] at h;exact k _ _ h) h) h) h) h
 case ch3 =>
  exact fun o1 o2 o3 a b c d ha hb hc hd E=>nZ fun σ G Q Q' k h=>(ha E).1 σ G _ _ (fun x G1 h=>(hb E).1 σ G1 _ _ (fun y G2 h=>xZ o1 x y G2 _ _ (fun z G3 h=>qU (fun b h=>by
   split
   .rename_i hb;rw [if_pos hb] at h
    exact (hc E).1 σ G3 _ _ (fun u G4 h=>xZ o2 y u G4 _ _ (fun z2 G5 h=>qU (fun b2 h=>by
     split
     .rename_i hb2;rw [if_pos hb2] at h;exact (hd E).1 σ G5 _ _ (fun t G6 h=>xZ o3 u t G6 _ _ k h) h
     .rename_i hb2;rw [if_neg hb2] at h;exact k _ _ h) h) h) h
   .rename_i hb;rw [if_neg hb] at h;exact k _ _ h) h) h) h) h
 case and =>
  exact fun a b ha hb E=>⟨fun σ G Q Q' k h=>(ha E).1 σ G _ _ (fun x G1 h=>qU (fun c h=>by
   split
   .rename_i hc;rw [if_pos hc] at h;exact (hb E).1 σ G1 _ _ k h
   .rename_i hc;rw [if_neg hc] at h;exact k _ _ h) h) h,fun σ G Q Q' k h=>(ha E).2 σ G _ _ (fun c G1 h=>by
   split
   .rename_i hc;rw [if_pos hc] at h;exact (hb E).2 σ G1 _ _ k h
   .rename_i hc;rw [if_neg hc] at h;exact k _ _ h) h⟩
 case or =>
  exact fun a b ha hb E=>⟨fun σ G Q Q' k h=>(ha E).1 σ G _ _ (fun x G1 h=>qU (fun c h=>by
   split
   .rename_i hc;rw [if_pos hc] at h;exact k _ _ h
   .rename_i hc;rw [if_neg hc] at h;exact (hb E).1 σ G1 _ _ k h) h) h,fun σ G Q Q' k h=>(ha E).2 σ G _ _ (fun c G1 h=>by
   split
   .rename_i hc;rw [if_pos hc] at h;exact k _ _ h
   .rename_i hc;rw [if_neg hc] at h;exact (hb E).2 σ G1 _ _ k h) h⟩
 case ite =>
  exact fun c a b hc ha hb E=>⟨fun σ G Q Q' k h=>(hc E).2 σ G _ _ (fun c G1 h=>by
   split
   .rename_i hc;rw [if_pos hc] at h;exact (ha E).1 σ G1 _ _ k h
   .rename_i hc;rw [if_neg hc] at h;exact (hb E).1 σ G1 _ _ k h) h,fun _ _ _ _ _ h=>h.elim⟩
 case ix=>exact fun a b ha hb E=>xU fun σ G Q Q' k h=>(ha E).1 σ G _ _ (fun x G1 h=>(hb E).1 σ G1 _ _ (fun y G2 h=>zaz x y G2 _ _ k h) h) h
 case sl=>exact fun a lo hi ha hl hh E=>xU fun σ G Q Q' k h=>(ha E).1 σ G _ _ (fun x G1 h=>(hl.1 E) σ G1 _ _ (fun l G2 h=>(hh.1 E) σ G2 _ _ (fun u G3 h=>zak k h) h) h) h
 case tup=>exact fun es hs E=>xU fun σ G Q Q' k h=>(hs E) σ G _ _ (fun ws G1 h=>⟨h.1,k _ _ h.2⟩) h
 case lst=>exact fun es hs E=>xU fun σ G Q Q' k h=>(hs E) σ G _ _ (fun ws G1 h=>⟨h.1,fun p hp=>k _ _ (h.2 p hp)⟩) h
 case dct=>exact fun ks es hs E=>xU fun σ G Q Q' k h=>fun p hp=>(hs E) σ _ _ _ (fun ws G1 h=>⟨h.1,h.2.1,k _ _ h.2.2⟩) (h p hp)
 case call =>
  exact fun f es hs E=>xU fun σ G Q Q' k h=>(hs E) σ G _ _ (fun ws G1 h=>by
   split at h
   .rename_i f' e;exact g.fn f' (wR e) ws G1 Q Q' E k h
   .exact h.elim) h
 case mth =>
  exact fun m o es ho hs E=>xU fun σ G Q Q' k h=>(ho E).1 σ G _ _ (fun x G1 h=>by
   split at h
   .rename_i m' e;exact ⟨h.1,(hs E) σ G1 _ _ (fun ws G2 h=>g.mt m' (wR e) x ws G2 Q Q' k h) h.2⟩
   .exact h.elim) h
 case att=>exact fun o f ho E=>xU fun σ G Q Q' k h=>(ho E).1 σ G _ _ (fun x G1 h=>zcY k h) h
 case lc=>exact fun tg names caps it c elt _ hi hc he E=>xU fun σ G Q Q' k h=>(hi E) σ G _ _ (fun items stab G1 h=>zdW k h) h
 case spc =>
  exact fun i es hs E=>xU fun σ G Q Q' k h=>(hs E) σ G _ _ (fun ws G1 h=>by
   split at h
   .rename_i f' e;exact g.sx f' (wR e) ws G1 Q Q' k h
   .exact h.elim) h
 case ispc =>
  exact fun i es hs E σ G R R' k h=>(hs E) σ G _ _ (fun ws G1 h=>by
   split at h
   .rename_i m' e;exact g.ix m' (wR e) ws G1 R R' k h
   .exact h.elim) h
 case no=>exact ⟨fun E σ G Q Q' k h=>k _ _ h,fun σ G Q Q' k h=>k _ _ h⟩
 case yes=>exact fun e he=>⟨fun E σ G Q Q' k h=>(he E).1 σ G _ _ (fun x G1 h=>fR (fun i=>k _ _) h) h,(he XN).2⟩
 case nil=>exact fun E σ G Q Q' k h=>k _ _ h
 case cons=>exact fun e es he hs E σ G Q Q' k h=>(he E).1 σ G _ _ (fun x G1 h=>(hs E) σ G1 _ _ (fun xs G2 h=>k _ _ h) h) h
 case val=>exact fun e he E σ G R R' k h=>(he E).1 σ G _ _ (fun w G1 h=>nO k h) h
 case blt =>
  exact fun i es hs E σ G R R' k h=>(hs E) σ G _ _ (fun ws G1 h=>by
   split at h
   .rename_i m' e;exact g.it m' (wR e) ws G1 R R' k h
   .exact h.elim) h
 case nm=>exact fun _=>trivial
 case tt=>exact fun _ _=>trivial
 case tn=>trivial
 case tc=>exact fun _ _ _ _=>trivial
theorem zC (E:XQ) (e:IE):wJ (zD Γ E e).e:=(zau g e E).1
theorem vK (E:XQ) (e:IE):vB (zD Γ E e).t:=(zau g e E).2
theorem wL (E:XQ):∀ es:IEs,qK (zU Γ E es)
 | .nil=>fun σ G Q Q' k h=>k _ _ h
 | .cons e es=>fun σ G Q Q' k h=>zC g E e σ G _ _ (fun x G1 h=>wL E es σ G1 _ _ (fun xs G2 h=>k _ _ h) h) h
theorem ziM (E:XQ):∀ o:IO,zjQ (zK Γ E o)
 | .no=>fun σ G Q Q' k h=>k _ _ h
 | .yes e=>fun σ G Q Q' k h=>zC g E e σ G _ _ (fun x G1 h=>fR (fun i=>k _ _) h) h
theorem monoC:∀ o:IO,vB (zN Γ o)
 | .no=>fun σ G Q Q' k h=>k _ _ h
 | .yes e=>vK g XN e
theorem zge (E:XQ):∀ it:II,zjR (zP Γ E it)
 | .val e=>fun σ G R R' k h=>zC g E e σ G _ _ (fun w G1 h=>nO k h) h
 | .blt i es=>fun σ G R R' k h=>wL g E es σ G _ _ (fun ws G1 h=>by
   split at h
   .rename_i m' e;exact g.it m' (wR e) ws G1 R R' k h
   .exact h.elim) h
 | .spc i es=>fun σ G R R' k h=>wL g E es σ G _ _ (fun ws G1 h=>by
   split at h
   .rename_i m' e;exact g.ix m' (wR e) ws G1 R R' k h
   .exact h.elim) h
end L3
namespace L3
open PySem PySem.Spec PyProof.Rows L2
structure MC where
 sc:Scope
 N:List Str
 own:Str->Bool
 fns:List Str
 gls:List Str
 mts:List Str
 its:List Str
 sxm:List (Scope->Expr->Option (List Expr))
 ixm:List (Scope->Expr->Option (List Expr))
def visB (sc:Scope) (x:Str):Bool:=match sc.names.lookup x with
 |some .local=>true
 |some .cell=>true
 |some .free=>true
 |_=>false
def jQ (sc:Scope) (x:Str):Bool:=sc.names.lookup x==some .globalImplicit&&!(x==("__debug__" : Str))&&!(x==("__name__" : Str))
def uM:Expr->Bool
 | .Set ..=>false
 |_=>true
def noStar:Expr->Bool
 | .Starred ..=>false
 |_=>true
def pZ:Expr->Bool
 | .Slice ..=>false
 |_=>true
def tR:Expr->Bool
 | .ListComp ..=>false
 | .SetComp ..=>false
 | .DictComp ..=>false
 |_=>true
def tD:Expr->Bool
 | .Call (.Name ..) [] [] _=>false
 |_=>true
def relS (sc out:Scope):Scope:={ sc with names:=sc.names.map fun (n,k)=>if (k==.free&&out.kind==.function&&out.names.lookup n==some .cell) then (n,.cell) else (n,k) }
def blkB (out sc:Scope):Bool:=(sc.kind==.function)&&(sc.names.all fun y=>(!(y.2==.cell) || sc.names.lookup y.1==some .cell)&&(!(y.2==.free) || sc.names.lookup y.1==some .free)) &&
 (sc.names.all fun y=>!(y.2==.free) || out.names.lookup y.1==some .cell || out.names.lookup y.1==some .free) &&
 (sc.names.all fun y=>!(y.2==.local) || sc.names.lookup y.1==some .local)
def pH:List Str->Bool
 | []=>true
 |x::r=>!r.contains x&&pH r
def mD (M:MC) (x:Str):Bool:=match M.sc.names.lookup x with
 |some .local=>true
 |some .cell=>M.own x
 |_=>false
mutual
def tgIx:ITg->List Nat
 | .nm i=>[i]
 | .tup ts=>zdf ts
def zdf:ITgs->List Nat
 | .nil=>[]
 | .cons t ts=>tgIx t++zdf ts
end
mutual
def mG (M:MC):ITg->Expr->Bool
 | .nm i,.Name x _=>M.N[i]?==some x&&mD M x
 | .tup ts,.Tuple es _ _=>mGs M ts es
 |_,_=>false
def mGs (M:MC):ITgs->List Expr->Bool
 | .nil,[]=>true
 | .cons t ts,e::es=>noStar e&&mG M t e&&mGs M ts es
 |_,_=>false
end
mutual
def mE:IE->MC->Expr->Bool
 | .var i=>fun M e=>match e with
  | .Name x _=>M.N[i]?==some x&&visB M.sc x&&!(x==("__debug__" : Str))&&!(x==("__classdict__" : Str))
  |_=>false
 | .con c=>fun M e=>match e with
  | .Constant d _ _=>decide (c=d)
  |_=>false
 | .glb i=>fun M e=>match e with
  | .Name x _=>M.gls[i]?==some x&&jQ M.sc x
  |_=>false
 | .bin op a b=>fun M e=>match e with
  | .BinOp l o r _=>decide (op=o)&&mE a M l&&mE b M r
  |_=>false
 | .neg a=>fun M e=>match e with
  | .UnaryOp .USub l _=>mE a M l
  |_=>false
 | .not a=>fun M e=>match e with
  | .UnaryOp .Not l _=>mE a M l
  |_=>false
 | .cmp op a b=>fun M e=>match e with
  | .Compare l [o] [r] _=>decide (op=o)&&mE a M l&&mE b M r&&uM r
  |_=>false
 | .chn o1 o2 a b c=>fun M e=>match e with
  | .Compare l [p1,p2] [r,t] _=>decide (o1=p1)&&decide (o2=p2)&&mE a M l&&mE b M r&&mE c M t&&uM t
  |_=>false
 | .ch3 o1 o2 o3 a b c d=>fun M e=>match e with
  | .Compare l [p1,p2,p3] [r,t,u] _=>decide (o1=p1)&&decide (o2=p2)&&decide (o3=p3)&&mE a M l&&mE b M r&&mE c M t&&mE d M u&&uM u
  |_=>false
 | .and a b=>fun M e=>match e with
  | .BoolOp .And [l,r] _=>mE a M l&&mE b M r
  | .BoolOp .And (l::r::q::rest) pos=>mE a M l&&mE b M (.BoolOp .And (r::q::rest) pos)
  |_=>false
 | .or a b=>fun M e=>match e with
  | .BoolOp .Or [l,r] _=>mE a M l&&mE b M r
  | .BoolOp .Or (l::r::q::rest) pos=>mE a M l&&mE b M (.BoolOp .Or (r::q::rest) pos)
  |_=>false
 | .ite c a b=>fun M e=>match e with
  | .IfExp t l r _=>mE c M t&&mE a M l&&mE b M r
  |_=>false
 | .ix a i=>fun M e=>match e with
  | .Subscript l r _=>mE a M l&&mE i M r&&pZ r
  |_=>false
 | .sl a lo hi=>fun M e=>match e with
  | .Subscript l (.Slice x y none _) _=>mE a M l&&mO lo M x&&mO hi M y
  |_=>false
 | .tup es=>fun M e=>match e with
  | .Tuple xs _ _=>mA es M xs
  |_=>false
 | .lst es=>fun M e=>match e with
  | .List xs _=>mA es M xs
  |_=>false
 | .dct ks es=>fun M e=>match e with
  | .Dict keys xs _=>keyB ks keys&&mA es M xs&&decide (keys.length=xs.length)&&decide (keys.length<=15)&&!ks.isEmpty
  |_=>false
 | .call f es=>fun M e=>match e with
  | .Call (.Name x _) xs [] _=>M.fns[f]?==some x&&jQ M.sc x&&mA es M xs
  |_=>false
 | .mth m o es=>fun M e=>match e with
  | .Call (.Attribute l x apos) xs [] cpos=>M.mts[m]?==some x&&tD l&&(apos.endLine==cpos.line)&&decide (xs.length<25)&&mE o M l&&mA es M xs
  |_=>false
 | .att o f=>fun M e=>match e with
  | .Attribute l x _=>x==f&&tD l&&mE o M l
  |_=>false
 | .lc tg names caps it c elt=>fun M e=>match e with
  | .ListComp x [⟨t,ix,ifs,asy⟩] sc _ =>
   let M':MC:={ M with sc:=relS sc M.sc,N:=names++caps.map (fun j=>M.N.getD j Str.empty),own:=fun x=>sc.names.lookup x==some .cell }
   decide (asy=0)&&blkB M.sc sc&&uM ix&&pH M'.N&&(caps.all fun j=>decide (j<M.N.length)&&(sc.names.lookup (M.N.getD j Str.empty)==some .free)) &&
    mI it M ix&&((tgIx tg).all fun i=>decide (i<names.length))&&mG M' tg t&&mC c M' ifs&&mE elt M' x
  |_=>false
 | .spc i es=>fun M e=>tR e&&(match M.sxm[i]? with
  |some m=>(match m M.sc e with|some xs=>mA es M xs|none=>false)
  |none=>false)
def mO:IO->MC->Option Expr->Bool
 | .no=>fun M e=>match e with|none=>true|_=>false
 | .yes a=>fun M e=>match e with|some x=>mE a M x|_=>false
def mC:IO->MC->List Expr->Bool
 | .no=>fun M e=>match e with | []=>true|_=>false
 | .yes a=>fun M e=>match e with | [x]=>mE a M x|_=>false
def mA:IEs->MC->List Expr->Bool
 | .nil=>fun M e=>match e with | []=>true|_=>false
 | .cons a as=>fun M e=>match e with|x::xs=>noStar x&&mE a M x&&mA as M xs|_=>false
def mI:II->MC->Expr->Bool
 | .val a=>fun M e=>mE a M e
 | .blt i es=>fun M e=>match e with
  | .Call (.Name x _) xs [] _=>M.its[i]?==some x&&jQ M.sc x&&mA es M xs
  |_=>false
 | .spc i es=>fun M e=>match M.ixm[i]? with
  |some m=>(match m M.sc e with|some xs=>mA es M xs|none=>false)
  |none=>false
def keyB:List Str->List (Option Expr)->Bool
 | []=>fun e=>match e with | []=>true|_=>false
 |k::ks=>fun e=>match e with|some (.Constant (.str x) _ _)::es=>k==x&&keyB ks es|_=>false
end
def zdh (M:MC) (i j:Nat):Expr->Bool
 | .Tuple [.Name x _,.Starred (.Name y _) _] _ _=>(M.N[i]?==some x&&mD M x)&&(M.N[j]?==some y&&mD M y)
 |_=>false
mutual
def mS:IS->MC->Stmt->Bool
 | .asg i a=>fun M s=>match s with
  | .Assign [.Name x py] e _=>M.N[i]?==some x&&mD M x&&mE a M e
  |_=>false
 | .asgT ts a=>fun M s=>match s with
  | .Assign [.Tuple es _ _] e _=>tR e&&zdP e&&mGs M ts es&&mE a M e
  |_=>false
 | .asgI o i a=>fun M s=>match s with
  | .Assign [.Subscript l r _] e _=>tR e&&pZ r&&mE o M l&&mE i M r&&mE a M e
  |_=>false
 | .asgA o f a=>fun M s=>match s with
  | .Assign [.Attribute l x _] e _=>x==f&&tR e&&mE o M l&&mE a M e
  |_=>false
 | .ex a=>fun M s=>match s with
  | .Expr e _=>tR e&&mE a M e
  |_=>false
 | .ret a=>fun M s=>match s with
  | .Return (some e) _=>mE a M e
  |_=>false
 | .retN=>fun M s=>match s with|.Return none _=>true|_=>false
 | .pass=>fun M s=>match s with|.Pass _=>true|_=>false
 | .brk=>fun M s=>match s with|.Break _=>true|_=>false
 | .cnt=>fun M s=>match s with|.Continue _=>true|_=>false
 | .ite c a b=>fun M s=>match s with
  | .If t x y _=>mE c M t&&sM a M x&&sM b M y
  |_=>false
 | .whl c b=>fun M s=>match s with
  | .While t x [] _=>mE c M t&&sM b M x
  |_=>false
 | .for tg it b=>fun M s=>match s with
  | .For t x y [] _=>uM x&&mG M tg t&&mI it M x&&sM b M y
  |_=>false
 | .dead=>fun M s=>true
 | .asgS i j a=>fun M s=>match s with
  | .Assign [t] e _=>tR e&&zdP e&&zdh M i j t&&mE a M e
  |_=>false
def sM:ISs->MC->List Stmt->Bool
 | .nil=>fun M s=>match s with | []=>true|_=>false
 | .cons a as=>fun M s=>match s with|x::xs=>mS a M x&&sM as M xs|_=>false
def zdP:Expr->Bool
 | .Tuple ..=>false
 |_=>true
end
theorem vD {a b:Bool} (h:(a&&b)=true):a=true/\b=true:=(Zp a b).mp h
theorem bd3 {a b c:Bool} (h:(a&&b&&c)=true):(a=true/\b=true)/\c=true:=⟨vD (vD h).1,(vD h).2⟩
theorem bd4 {a b c d:Bool} (h:(a&&b&&c&&d)=true):((a=true/\b=true)/\c=true)/\d=true:=⟨bd3 (vD h).1,(vD h).2⟩
theorem bd5 {a b c d e:Bool} (h:(a&&b&&c&&d&&e)=true):(((a=true/\b=true)/\c=true)/\d=true)/\e=true:=⟨bd4 (vD h).1,(vD h).2⟩
theorem bd6 {a b c d e f:Bool} (h:(a&&b&&c&&d&&e&&f)=true):((((a=true/\b=true)/\c=true)/\d=true)/\e=true)/\f=true:=⟨bd5 (vD h).1,(vD h).2⟩
theorem bd7 {a b c d e f g:Bool} (h:(a&&b&&c&&d&&e&&f&&g)=true):(((((a=true/\b=true)/\c=true)/\d=true)/\e=true)/\f=true)/\g=true:=⟨bd6 (vD h).1,(vD h).2⟩
theorem bd8 {a b c d e f g k:Bool} (h:(a&&b&&c&&d&&e&&f&&g&&k)=true):((((((a=true/\b=true)/\c=true)/\d=true)/\e=true)/\f=true)/\g=true)/\k=true:=⟨bd7 (vD h).1,(vD h).2⟩
theorem bd9 {a b c d e f g k l:Bool} (h:(a&&b&&c&&d&&e&&f&&g&&k&&l)=true):(((((((a=true/\b=true)/\c=true)/\d=true)/\e=true)/\f=true)/\g=true)/\k=true)/\l=true:=⟨bd8 (vD h).1,(vD h).2⟩
theorem bd10 {a b c d e f g k l m:Bool} (h:(a&&b&&c&&d&&e&&f&&g&&k&&l&&m)=true):((((((((a=true/\b=true)/\c=true)/\d=true)/\e=true)/\f=true)/\g=true)/\k=true)/\l=true)/\m=true:=⟨bd9 (vD h).1,(vD h).2⟩
end L3
namespace L2
open PySem PySem.Spec PyProof.Rows
def Itd (d:Addr) (ob:Obj) (l:List (yM×V)):It where
 go:=fun i H=>H d=some (.frz ob (.dK l))/\i<l.length
 yld:=fun i H x H'=>H'=H/\∃ p,l[i]?=some p/\x=kV p.1
 stop:=fun i H=>H d=some (.frz ob (.dK l))/\l.length<=i
def KiSt (it d:Addr) (ob:Obj) (n i:Nat) (h:Heap):Prop:=∃ ep es,ob.data=.dict es ep/\h.IsKeyIter it d i n ep
section
variable {X : Cx} {pins : List (Addr × Obj)} {σ : St} {H : Hp} {s : Shared} {d : Addr} {ob : Obj} {l : List (yM × V)}
theorem ze0 {κ:Type}:∀ {l:List (κ×V)} {vs:List (κ×Value)} {i:Nat} {k:κ} {v:Value},KV l vs->vs[i]?=some (k,v)->∃ x,l[i]?=some (k,x)
 |_,_,i,k,v,.nil,e=>by simp at e
 |p::_,_,0,k,v,.cons r t,e=>by
  simp at e;subst e;obtain ⟨a,b⟩:=p;have h1:a=k:=r.1;exact ⟨b,by simp [h1]⟩
 |_::_,_,i+1,k,v,.cons r t,e=>by
  obtain ⟨x,h⟩:=ze0 (i:=i) (k:=k) (v:=v) t (by simpa using e);exact ⟨x,by simpa using h⟩
theorem zeZ {κ:Type}:∀ {l:List (κ×V)} {vs:List (κ×Value)},KV l vs->vs.length=l.length
 |_,_,.nil=>rfl
 |_,_,.cons _ t=>by rw [Zh,Zh,zeZ t]
theorem zcw (I:Inv X pins σ H s) (e:H d=some (.frz ob (.dK l))) {es:Array DictEntry} {ep:Nat} (hd:ob.data=.dict es ep):∃ vs,KV l vs/\s.heap.DictAt (xK X.prog X.w) d vs ep/\vs.length=l.length:=by
 obtain ⟨hg,_,_,vs,kv,o,es',ep',ho,hc,hdat,r⟩:=(show xR X.prog X.w H s.heap d (.frz ob (.dK l)) from I.hok d _ e);rw [hg] at ho;cases ho;rw [hd] at hdat;cases hdat;exact ⟨vs,kv,⟨ob,es,hg,hc,hd,r⟩,zeZ kv⟩
theorem zci {k:yM} {v:Value} (h:rY k v=true):zB (kV k) v:=by
 rcases yF h with ⟨i,t,rfl,rfl⟩|⟨x,t,rfl,rfl⟩
 .exact ⟨t,rfl⟩
 .exact ⟨t,rfl⟩
theorem zbq {P:Program} {w:World} {K:PySem.W.Frag} {tg:Expr} (it:Addr):Turn P w K tg (Itd d ob l) [it] it (KiSt it d ob l.length) where
 mem:=by simp
 obj:=fun i h st b hb=>by
  cases zzO hb;obtain ⟨ep,es,_,o,e,c,z⟩:=st;exact ⟨o,e,fun v q=>by rw [z] at q;cases q⟩
 keep:=fun i h h' st k=>by
  obtain ⟨ep,es,hd,st⟩:=st;exact ⟨ep,es,hd,st.at fun o e=>k it (by simp) o e⟩
 item:=by
  intro X e1 e2 e3 hc i pins s σ H E I hf st hg;subst e1;subst e2;subst e3;obtain ⟨ep,es,hd,st⟩:=st;obtain ⟨e,hi⟩:=hg;obtain ⟨vs,kv,da,lv⟩:=zcw I e hd;obtain ⟨f0,f1,f2,f3,f4,f5⟩:=hf it (by simp);obtain ⟨⟨k,v⟩,ek⟩:∃ p,vs[i]?=some p:=⟨vs[i]'(by omega),Ze _⟩;obtain ⟨x,ex⟩:=ze0 kv ek;rw [← lv] at st;refine wpAny_pyNext_dict_item st da ek fun key h' hkey st' sb=>?_;have I1:Inv X pins σ H { s with heap:=h',toks:=s.toks }:=I.turned (fun b o hb q=>(sb.2 b hb).trans q) f0 f1 f3 f4 f5;obtain ⟨o,o1,o2,o3⟩:=id st';refine ⟨key,rfl,fP (s:={ s with heap:=h' }) o1 o2 o3 (by decide) ⟨kV k,H,I1,zci hkey,⟨rfl,(k,x),ex,rfl⟩,⟨ep,es,hd,?_⟩,fun b hb=>(hf b hb).1⟩⟩;rw [← lv];exact st'
 done:=by
  intro X e1 e2 e3 hc i pins s σ H E I hf st hg;subst e1;subst e2;subst e3;obtain ⟨ep,es,hd,st⟩:=st;obtain ⟨e,hi⟩:=hg;obtain ⟨vs,kv,da,lv⟩:=zcw I e hd;obtain ⟨f0,f1,f2,f3,f4,f5⟩:=hf it (by simp);rw [← lv] at st;exact wpAny_pyNext_dict_end (I.ok.hd hc) st da (Zas (by omega)) fun h' eb=>⟨rfl,I.turned (t':=s.toks) (fun b o hb q=>eb b o hb q) f0 f1 f3 f4 f5⟩
 self:=fun _ _ _ _ _ st h=>by
  obtain ⟨ep,es,hd,st⟩:=st;exact wpAny_pyIter_keyiter st h
theorem sY {u:HO} (e:H d=some u):yH H d u=H:=by
 funext b
 unfold yH
 split
 .rename_i h;subst h;exact e.symm
 .rfl
theorem zgG (I:Inv X pins σ H s) (e:Rd H d (.dK l)):∃ ob,Inv X pins σ (yH H d (.frz ob (.dK l))) s/\(∃ es ep,ob.data=.dict es ep)/\∀ ob',H d=some (.frz ob' (.dK l))->ob'=ob:=by
 rcases e with e|⟨ob,e⟩
 .have q:=I.hok d _ e;obtain ⟨h1,h2,vs,kv,o,es,ep,ho,hc,hdat,r⟩:=id q;have mu:Mut (H d):=by rw [e];exact True.intro
  refine ⟨o,I.un (t':=s.toks) (Un.write mu (.inl rfl) (fun b u _ z=>z) ⟨o,ho⟩) (I.hok.write mu (.inl rfl) (fun b u _ z=>z) ⟨o,ho⟩ ⟨ho,h1,h2,vs,kv,o,es,ep,ho,hc,hdat,r⟩),⟨es,ep,hdat⟩,fun ob' z=>by rw [e] at z;cases z⟩
 .obtain ⟨hg,_,_,vs,kv,o,es,ep,ho,hc,hdat,r⟩:=(show xR X.prog X.w H s.heap d (.frz ob (.dK l)) from I.hok d _ e);rw [hg] at ho;cases ho;exact ⟨ob,by rw [sY e];exact I,⟨es,ep,hdat⟩,fun ob' z=>by rw [e] at z;cases z;rfl⟩
theorem zg2 {tg:Expr} {R:It->Hp->Prop} {E:Value->Shared->Prop} (I:Inv X pins σ H s) (e:Rd H d (.dK l)) (q:∀ ob,(∀ ob',H d=some (.frz ob' (.dK l))->ob'=ob)->R (Itd d ob l) (yH H d (.frz ob (.dK l)))):wpAny (model X.prog X.w) X.A (pyIter (.ref d)) (PIE X pins σ tg R) E s:=by
 have hs:(d==sysModules)=false:=(rV I.hok e).2.1;obtain ⟨ob,J,⟨es,ep,hd⟩,same⟩:=zgG I e;obtain ⟨vs,kv,da,lv⟩:=zcw J yO hd;refine wpAny_pyIter_dict hs da ?_;refine ⟨s.heap.objs.size,[s.heap.objs.size],_,_,_,rfl,J.kept (t':=s.toks) fun b o e=>Zb _ e,zbq _,⟨ep,es,hd,⟨_,Zd _ rfl,rfl,by rw [lv];rfl⟩⟩,fun b hb=>?_,q ob same⟩;cases zzO hb;exact J.fpOk (zzR _) (J.hok.fresh (zzR _))
end
end L2
namespace L3
open PySem PySem.Spec PyProof.Rows L2 PySem.SeqAt
structure Par where
 prog:Program
 w:World
 K:zA
 mg:Str->Option Value
 base:Heap
 A:Around
structure Fits (p:Par) (X:Cx):Prop where
 prog:X.prog=p.prog
 w:X.w=p.w
 K:X.K=p.K
 mg:X.mg=p.mg
 base:X.base=p.base
 A:X.A=p.A
 calm:X.calm=true
 xe:X.xe=fun _ _=>False
structure ItIs (K:zA) (J:It) (H1:Hp) (ws:List W) (stab:Hw->Prop):Prop where
 go:∀ i H G,yK K H1 H->xP K H G->stab G->i<ws.length->J.go i H
 yld:∀ i H G x H',yK K H1 H->xP K H G->stab G->i<ws.length->J.yld i H x H'->∃ w,ws[i]?=some w/\yK K H H'/\wX K H' w x/\xP K H' G
 stop:∀ i H G,yK K H1 H->xP K H G->stab G->ws.length<=i->J.stop i H
def lowI (K:zA) (t:I3):TI:=fun τ H R=>∃ σ G,yY K H σ τ/\xP K H G/\t σ G fun ws stab G1=>∀ J H1,yK K H H1->xP K H1 G1->ItIs K J H1 ws stab->R J H1
def dY (X:Cx):List Expr->List E3->Prop
 | [],[]=>True
 |x::xs,e::es=>wJ e/\PE X x (yA X.K e)/\dY X xs es
 |_,_=>False
structure Good (Γ:Ctx3) (p:Par):Prop where
 mono:TabMono Γ
 un:p.A.units+200<cLine
 fn:∀ f∈Γ.fn,∀ X,Fits p X->Gl X f.nm->∀ (args:List Expr) (t:A3) (q pos:Pos),qK t->args.all noStar=true->PA X args (vY X.K t)->(args=[]->∀ σ G Q,t σ G Q->Q [] G)->(f.nm==("__debug__" : Str))=false->f.nm ≠ "__name__" ->
  PE X (.Call (.Name f.nm q) args [] pos) (yA X.K fun σ G Q=>t σ G fun ws G1=>f.sp ws G1 Q XN)
 gl:∀ g∈Γ.gl,∀ X,Fits p X->Gl X g.1->∀ q:Pos,(g.1==("__debug__" : Str))=false->g.1 ≠ "__name__" -> PE X (.Name g.1 q) (yA X.K fun _ G Q=>Q g.2 G)
 mt:∀ m∈Γ.mt,∀ X,Fits p X->∀ (o:Expr) (args:List Expr) (to:E3) (t:A3) (apos cpos:Pos),wJ to->qK t->tD o=true->(apos.endLine==cpos.line)=true->args.length<25->args.all noStar=true ->
  PE X o (yA X.K to)->PA X args (vY X.K t)->(args=[]->∀ σ G Q,t σ G Q->Q [] G)->PE X (.Call (.Attribute o m.nm apos) args [] cpos) (yA X.K fun σ G Q=>to σ G fun x G1=>tyW G1 x m.T/\t σ G1 fun ws G2=>m.sp x ws G2 Q)
 it:∀ i∈Γ.it,∀ X,Fits p X->Gl X i.nm->∀ (tg:Expr) (args:List Expr) (t:A3) (q pos:Pos),qK t->args.all noStar=true->PA X args (vY X.K t)->(args=[]->∀ σ G Q,t σ G Q->Q [] G)->(i.nm==("__debug__" : Str))=false->i.nm ≠ "__name__" ->
  PI X tg (.Call (.Name i.nm q) args [] pos) (lowI X.K fun σ G R=>t σ G fun ws G1=>i.sp ws G1 R)
 cl:∀ c∈Γ.cl,Cls p.K c.1/\∀ f∈c.2,vC p.K c.1 f
 sx:∀ k∈Γ.sx,∀ X,Fits p X->∀ (e:Expr) (xs:List Expr) (es:List E3),k.m X.env.scope e=some xs->dY X xs es->xs.all noStar=true->PA X xs (vY X.K (dP es)) ->
  PE X e (yA X.K fun σ G Q=>dP es σ G fun ws G1=>k.sp ws G1 Q)/\(∀ whole,isTrue e X.env whole=(do let v ← whole;standAt e.pos;holding [v] (truthy v)))/\∀ op vs pos,e≠.BoolOp op vs pos
 ix:∀ k∈Γ.ix,∀ X,Fits p X->∀ (tg e:Expr) (xs:List Expr) (es:List E3),k.m X.env.scope e=some xs->dY X xs es->xs.all noStar=true->PA X xs (vY X.K (dP es)) ->
  PI X tg e (lowI X.K fun σ G R=>dP es σ G fun ws G1=>k.sp ws G1 R)
structure Lk (Γ:Ctx3) (M:MC) (p:Par) (X:Cx):Prop where
 fits:Fits p X
 N:X.N=M.N
 sc:X.env.scope=M.sc
 nd:M.N.Nodup
 own:∀ x,M.own x=true->X.fn x=true
 kind:M.sc.kind=.function
 fns:Γ.fn.map (·.nm)=M.fns
 gls:Γ.gl.map (·.1)=M.gls
 mts:Γ.mt.map (·.nm)=M.mts
 its:Γ.it.map (·.nm)=M.its
 sxs:Γ.sx.map (·.m)=M.sxm
 ixs:Γ.ix.map (·.m)=M.ixm
theorem qO {e:Expr} {es:List Expr} {env:Env} (h:noStar e=true):starEach (e::es) env=(false,eval e env)::starEach es env:=by
 cases e<;>first|rfl|exact absurd h zzN
theorem kH {o:Expr} {f:Str} {env:Env} {t:Sem Value} (h:tD o=true):attributeBase o f env t=t:=by
 unfold attributeBase
 split
 .exact absurd h zzN
 .rfl
theorem sI {e:Expr} {env:Env} (h:uM e=true):∀ x,foldedSetIterable e env x=pure x:=fun x=>by
 cases e<;>first|rfl|exact absurd h zzN
theorem qD {op:CmpOp} {e:Expr} (h:uM e=true):behindInMarks op e=false:=by
 cases e<;>first|rfl|exact absurd h zzN
theorem zdF {e:Expr} (h:pZ e=true):zc1 e:=fun o i=>by
 cases e<;>first|rfl|exact absurd h zzN
theorem wM {e:Expr} {t:Option Expr} {n:Nat} {env:Env} (h:tR e=true):swapsWith e t n env=pure false:=by
 cases e<;>first|rfl|exact absurd h zzN
theorem zbk {sc:Scope} {x:Str} (h:visB sc x=true):Vis sc x:=by
 unfold visB at h
 split at h
 .rename_i e;exact .inl e
 .rename_i e;exact .inr (.inl e)
 .rename_i e;exact .inr (.inr e)
 .exact absurd h zzN
theorem kD {X:Cx} {sc:Scope} {x:Str} (e:X.env.scope=sc) (h:jQ sc x=true):Gl X x/\(x==("__debug__" : Str))=false/\x ≠ "__name__" := by
 unfold jQ at h;simp only [Zp,ZaP] at h;refine ⟨?_,h.1.2,fun z=>?_⟩
 .show X.env.scope.names.lookup x=_;rw [e];exact eq_of_beq h.1.1
 .subst z;have:=h.2;simp at this
theorem yB {α:Type} [BEq α] [LawfulBEq α] {a:Option α} {b:α} (h:(a==some b)=true):a=some b:=eq_of_beq h
theorem jL {α β:Type} {f:α->β} {l:List α} {i:Nat} {y:β} (h:(l.map f)[i]?=some y):∃ x,l[i]?=some x/\f x=y:=by
 rw [Zj] at h
 cases e:l[i]? with
 |none=>rw [e] at h;cases h
 |some x=>rw [e] at h;exact ⟨x,rfl,Zz h⟩
section
variable {X : Cx}
theorem zde {K:zA} {e:E3} (m:wJ e) {τ:L2.St} {H:Hp} {Q:Bool->Hp->Prop} (h:qR K (zM e) τ H Q):yA K e τ H (fun x H'=>∃ k,TruV K x H' k/\Q k H'):=by
 obtain ⟨σ,G,hs,ha,h⟩:=h;refine yC m hs ha h fun w G1 v H1 gr _ rp ab q=>?_
 split at q
 .rename_i b hb;exact ⟨b,zfw rp ab hb,q H1 gr ab⟩
 .exact q.elim
theorem pt_of {x:Expr} {e:E3} (m:wJ e) (h:PE X x (yA X.K e)) (he:∀ whole,isTrue x X.env whole=(do let v ← whole;standAt x.pos;holding [v] (truthy v))):PT X x (qR X.K (zM e)) :=
 (zdy h he).imp fun σ H Q q=>zde m q
theorem cD {K:zA} {e:E3} (m:wJ e) {τ:L2.St} {H:Hp} {Q:Bool->Hp->Prop} (h:qR K (yN e) τ H Q):yA K e τ H (fun x H'=>∃ k,x=.bl k/\Q k H'):=by
 obtain ⟨σ,G,hs,ha,h⟩:=h;refine yC m hs ha h fun w G1 v H1 gr _ rp ab q=>?_
 cases w with
 |bl b=>cases rp;exact ⟨b,rfl,q H1 gr ab⟩
 |_=>exact q.elim
theorem dG {K:zA} {ea eb:E3} {r:R3} (ma:wJ ea) (mb:wJ eb) (mr:rP r) {τ:L2.St} {H:Hp} {Q:VK} (h:yA K (fun σ G Q=>ea σ G fun x G1=>eb σ G1 fun y G2=>r x y G2 Q) τ H Q) :
  tOp (sL K r) (yA K ea) (yA K eb) τ H Q:=by
 obtain ⟨σ,G,hs,ha,h⟩:=h;refine yC ma hs ha h fun x G1 v H1 g1 hs1 rx a1 h1=>?_;refine yC mb hs1 a1 h1 fun y G2 u H2 g2 hs2 ry a2 h2=>?_;exact ⟨x,y,G2,rx.mono g2,ry,a2,mr x y G2 _ _ (fun w G' q v' H' g'=>q v' H' ((g1.trans g2).trans g')) h2⟩
def Its (x:Str):It:=⟨fun i _=>i<x.cps.size,fun i H v H'=>H'=H/\∃ c,x.cps[i]?=some c/\v=.str ⟨#[c]⟩,fun i _=>x.cps.size<=i⟩
theorem zdc {P:Program} {w:World} {K:zA} {tg:Expr} (T:String) (hT:T = "str_ascii_iterator" \/ T = "str_iterator") (x:Str) (t:Tok) (it:Addr):Turn P w K tg (Its x) [it] it (fun i h=>h.IsStrIter it T x t i) where
 mem:=by simp
 obj:=fun i h st b hb=>by
  have e:b=it:=by simpa using hb
  subst e;obtain ⟨o,e,c,d⟩:=st;exact ⟨o,e,fun v z=>by rw [d] at z;cases z⟩
 keep:=fun i h h' st k=>let ⟨o,e,r⟩:=st;⟨o,k it (by simp) o e,r⟩
 item:=by
  intro X hP hw hK hc i pins s σ H E I hf st hg;subst hP hw hK;obtain ⟨f0,f1,f2,f3,f4,f5⟩:=hf it (by simp);have hi:i<x.cps.size:=hg;have hx:x.cps[i]?=some x.cps[i]:=by simp [hi]
  have fin:∀ h':Heap,h'.IsStrIter it T x t (i+1)->Heap.SameBut it s.heap h'->∃ u,some (Value.str ⟨#[x.cps[i]]⟩ s.toks)=some u /\
    wpAny (model X.prog X.w) X.A (letOwnedTupleGo tg (.ref it) u) (fun _ s2=>∃ v H',Inv X pins σ H' s2/\zB v u/\(Its x).yld i H v H'/\s2.heap.IsStrIter it T x t (i+1)/\∀ b∈[it],H' b=none) E { s with heap:=h',toks:=s.toks+1 }:=fun h' st' sb=>by
   have I1:Inv X pins σ H { s with heap:=h',toks:=s.toks+1 }:=I.turned (t':=s.toks+1) (fun b o hb e=>(sb.2 b hb).trans e) f0 f1 f3 f4 f5;obtain ⟨o,e,c,d⟩:=id st';exact ⟨_,rfl,fP (s:={ s with heap:=h',toks:=s.toks+1 }) e c d (by rcases hT with rfl|rfl<;>decide) ⟨.str ⟨#[x.cps[i]]⟩,H,I1,⟨_,rfl⟩,⟨rfl,_,hx,rfl⟩,st',fun b hb=>(hf b hb).1⟩⟩
  rcases hT with rfl|rfl
  .exact wpAny_pyNext_ascii_item st hx fin
  .exact wpAny_pyNext_wide_item st hx fin
 done:=by
  intro X hP hw hK hc i pins s σ H E I hf st hg;subst hP hw hK;obtain ⟨f0,f1,f2,f3,f4,f5⟩:=hf it (by simp);have hx:x.cps[i]?=none:=by have h:x.cps.size<=i:=hg;simp [h]
  rcases hT with rfl|rfl
  .exact wpAny_pyNext_ascii_end (I.ok.hd hc) st hx fun h' eb=>⟨rfl,I.turned (t':=s.toks) (fun b o hb e=>eb b o hb e) f0 f1 f3 f4 f5⟩
  .exact wpAny_pyNext_wide_end (I.ok.hd hc) st hx fun h' eb=>⟨rfl,I.turned (t':=s.toks) (fun b o hb e=>eb b o hb e) f0 f1 f3 f4 f5⟩
 self:=fun _ _ _ _ _ st h=>by
  rcases hT with rfl|rfl
  .exact wpAny_pyIter_striter_ascii st h
  .exact wpAny_pyIter_striter_wide st h
theorem zii {tg l:Expr} {tl:TE} (hl:PE X l tl):PI X tg l (fun σ H R=>tl σ H fun x H1=>(∃ t,x=.str t/\R (Its t) H1)\/∃ a,x=.ref a/\(((∃ xs,rQ X.K H1 a xs)/\R (Itl X.K a) H1)\/((∃ xs,tB X.K H1 a xs)/\R (Itt X.K a) H1)\/∃ l,Rd H1 a (.dK l)/\∀ ob,(∀ ob',H1 a=some (.frz ob' (.dK l))->ob'=ob)->R (Itd a ob l) (yH H1 a (.frz ob (.dK l))))):=by
 intro pins s σ H R I h;refine yG (hl pins s σ H _ I h) fun v s1 ⟨x,H1,I1,r1,q1⟩=>?_;rcases q1 with ⟨tx,e,q⟩|q1
 .subst e;obtain ⟨tk,rfl⟩:=r1
  have fin:∀ T,(T = "str_ascii_iterator" \/ T = "str_iterator")->∀ o:Obj,o.isFreed=false->o.cls=.type T->o.data=.fields #[.str tx tk,.int 0 0]->PIE X pins σ tg R (.ref s1.heap.objs.size) { s1 with heap:=s1.heap.push o }   := fun T hT o hz hc hd=>by
   refine ⟨s1.heap.objs.size,[s1.heap.objs.size],_,_,H1,rfl,I1.kept (t':=s1.toks) fun b o e=>Zb _ e,zdc T hT tx tk _,⟨_,Zd _ hz,hc,hd⟩,fun b hb=>?_,q⟩;have e:b=s1.heap.objs.size:=by simpa using hb
   subst e;exact I1.fpOk (zzR _) (I1.hok.fresh (zzR _))
  cases hasc:tx.cps.all (· < 128)
  .exact wpAny_pyIter_wide hasc (fin _ (.inr rfl) _ rfl rfl rfl)
  .exact wpAny_pyIter_ascii hasc (fin _ (.inl rfl) _ rfl rfl rfl)
 obtain ⟨a,e,q1⟩:=q1;subst e;cases r1;rcases q1 with ⟨⟨xs,hq⟩,q⟩|⟨⟨xs,hq⟩,q⟩|⟨l,hq,q⟩
 rotate_left 2
 .exact zg2 I1 hq q
 .obtain ⟨its,rv,p,hz⟩:=I1.list hq;refine ZbA p.isList ?_;refine ⟨s1.heap.objs.size,[s1.heap.objs.size],_,_,H1,rfl,I1.kept (t':=s1.toks) fun b o e=>Zb _ e,zbo a _,⟨_,Zd _ rfl,rfl,rfl⟩,fun b hb=>?_,q⟩;have e:b=s1.heap.objs.size:=by simpa using hb
  subst e;exact I1.fpOk (zzR _) (I1.hok.fresh (zzR _))
 .obtain ⟨its,rv,p,hz⟩:=I1.tuple hq;refine ZbY (show s1.heap.IsTuple a its.toArray from p) ?_;refine ⟨s1.heap.objs.size,[s1.heap.objs.size],_,_,H1,rfl,I1.kept (t':=s1.toks) fun b o e=>Zb _ e,zaM a _,⟨_,Zd _ rfl,rfl,rfl⟩,fun b hb=>?_,q⟩;have e:b=s1.heap.objs.size:=by simpa using hb
  subst e;exact I1.fpOk (zzR _) (I1.hok.fresh (zzR _))
theorem zjd {K:zA} {x:Str} {H1:Hp}:ItIs K (Its x) H1 (sgs x) (fun _=>True) where
 go:=fun i H G _ ab st hi=>by
  have h:i<(sgs x).length:=hi;show i<x.cps.size;simpa [sgs] using h
 yld:=fun i H G v H' _ ab st hi y=>by
  obtain ⟨rfl,c,e,rfl⟩:=y;refine ⟨.str ⟨#[c]⟩,?_,.refl,rfl,ab⟩;simp [sgs,e]
 stop:=fun i H G _ ab st hi=>by
  have h:(sgs x).length<=i:=hi;show x.cps.size<=i;simpa [sgs] using h
theorem zjf {K:zA} {a:Addr} {H1:Hp} {ws:List W}:ItIs K (Itl K a) H1 ws (fun G=>yV G a=some ws) where
 go:=fun i H G _ ab st hi=>by
  obtain ⟨vs,sq,rs⟩:=ab.seq st;have hl:=rs.length;obtain ⟨v,e⟩:∃ v,vs[i]?=some v:=⟨vs[i]'(by omega),Ze _⟩;exact ⟨vs,v,sq,e⟩
 yld:=fun i H G x H' _ ab st hi y=>by
  obtain ⟨vs,sq,rs⟩:=ab.seq st;obtain ⟨e,y⟩:=y;subst e;obtain ⟨w,ew,rp⟩:=rs.get' (y vs sq);exact ⟨w,ew,.refl,rp,ab⟩
 stop:=fun i H G _ ab st hi=>by
  obtain ⟨vs,sq,rs⟩:=ab.seq st;exact ⟨vs,sq,by rw [rs.length];exact hi⟩
theorem zjc {K:zA} {a:Addr} {H1:Hp} {ws:List W} {vs:List V} (sq:tB K H1 a vs) (rs:zF K H1 ws vs):ItIs K (Itt K a) H1 ws (fun _=>True) where
 go:=fun i H G g ab st hi=>by
  have hl:=rs.length;obtain ⟨v,e⟩:∃ v,vs[i]?=some v:=⟨vs[i]'(by omega),Ze _⟩;exact ⟨vs,v,g.1 _ _ sq,e⟩
 yld:=fun i H G x H' g ab st hi y=>by
  obtain ⟨e,y⟩:=y;subst e;obtain ⟨w,ew,rp⟩:=(rs.mono g).get' (y vs (g.1 _ _ sq));exact ⟨w,ew,.refl,rp,ab⟩
 stop:=fun i H G g ab st hi=>⟨vs,g.1 _ _ sq,by rw [rs.length];exact hi⟩
theorem xP.rdD {K:zA} {H:Hp} {G:Hw} {p:Addr} {kvs:List (yM×W)} (ab:xP K H G) (e:jY G p=some kvs):∃ l,Rd H p (.dK l)/\yZ K H kvs l:=by
 unfold jY at e
 split at e
 .rename_i q;cases e;obtain ⟨u,e',l,rfl,r⟩:=ab p _ q;exact ⟨l,.inl e',r⟩
 .rename_i q;cases e;obtain ⟨u,e',ob,l,rfl,r⟩:=ab p _ q;exact ⟨l,.inr ⟨ob,e'⟩,r⟩
 .cases e
theorem xP.freeze {K:zA} {H:Hp} {G:Hw} {p:Addr} {kvs:List (yM×W)} {l:List (yM×V)} {ob:Obj} (ab:xP K H G) (e:jY G p=some kvs) (hl:Rd H p (.dK l)) (rk:yZ K H kvs l) :
  (∀ ob',H p=some (.frz ob' (.dK l))->ob'=ob)->yK K H (yH H p (.frz ob (.dK l)))/\xP K (yH H p (.frz ob (.dK l))) (put G p (.fzd kvs)):=by
 intro same;unfold jY at e
 split at e
 .rename_i q;cases e;have g:yK K H (yH H p (.frz ob (.dK l))):=ab.grow q;exact ⟨g,ab.chg q ⟨ob,l,rfl,rk.mono g⟩⟩
 .rename_i q;cases e;obtain ⟨u,e',ob2,l2,rfl,r⟩:=ab p _ q
  have hp:H p=some (.frz ob (.dK l)):=by
   rcases hl with h|⟨o,h⟩
   .rw [h] at e';cases e'
   .rw [h,same o h]
  rw [sY hp];refine ⟨.refl,fun b o z=>?_⟩
  by_cases hb:b=p
  .subst hb;rw [zX] at z;cases z;exact ⟨_,hp,ob,l,rfl,rk⟩
  .rw [yD hb] at z;exact ab b o z
 .cases e
theorem yZ.keyAt {K:zA} {H:Hp} {κ:Type}:∀ {l:List (κ×W)} {l':List (κ×V)} {i:Nat} {p:κ×V},yZ K H l l'->l'[i]?=some p->∃ w,l[i]?=some (p.1,w)
 | [],_,i,p,h,e=>by rw [show _=[] from h] at e;simp at e
 | (k,w)::_,_,0,p,⟨v,t,e,h,r⟩,q=>by subst e;simp at q;subst q;exact ⟨w,rfl⟩
 |_::_,_,i+1,p,⟨v,t,e,h,r⟩,q=>by
  subst e;obtain ⟨w,h1⟩:=yZ.keyAt (i:=i) (p:=p) r (by simpa using q);exact ⟨w,by simpa using h1⟩
theorem zi4 {K:zA} {H:Hp} (k:yM):wX K H (kW k) (kV k):=by
 cases k<;>rfl
theorem zji {K:zA} {d:Addr} {ob:Obj} {l:List (yM×V)} {H1:Hp} {kvs:List (yM×W)} (e:H1 d=some (.frz ob (.dK l))) (rk:yZ K H1 kvs l):ItIs K (Itd d ob l) H1 (kvs.map fun kv=>kW kv.1) (fun G=>G d=some (.fzd kvs)) where
 go:=fun i H G g ab st hi=>⟨g.2 _ _ True.intro e,by rw [rk.length];simpa using hi⟩
 yld:=fun i H G x H' g ab st hi y=>by
  obtain ⟨e1,p,e2,e3⟩:=y;subst e1;subst e3;obtain ⟨w,ew⟩:=rk.keyAt e2;exact ⟨kW p.1,by rw [Zj,ew];rfl,.refl,zi4 _,ab⟩
 stop:=fun i H G g ab st hi=>⟨g.2 _ _ True.intro e,by rw [rk.length];simpa using hi⟩
theorem zij {tg x:Expr} {e:E3} (m:wJ e) (h:PE X x (yA X.K e)):PI X tg x (lowI X.K fun σ G R=>e σ G fun w G1=>qA w G1 R):=by
 intro pins s σ H R I q;refine zii h pins s σ H R I ?_;obtain ⟨σ3,G,hs,ha,q⟩:=q;refine yC m hs ha q fun w G1 v H1 gr hs1 rp ab q=>?_
 cases w with
 |tup ws =>
  obtain ⟨a,vs,rfl,sq,rs⟩:=rp;exact .inr ⟨a,rfl,.inr (.inl ⟨⟨vs,sq⟩,q _ H1 gr ab (zjc sq rs)⟩)⟩
 |ref p =>
  cases rp;simp only [qA] at q
  split at q
  .rename_i ws e;obtain ⟨vs,sq,rs⟩:=ab.seq e;exact .inr ⟨p,rfl,.inl ⟨⟨vs,sq⟩,q _ H1 gr ab zjf⟩⟩
  .split at q
   .rename_i kvs e;obtain ⟨l,hl,rk⟩:=ab.rdD e;refine .inr ⟨p,rfl,.inr (.inr ⟨l,hl,fun ob same=>?_⟩)⟩;obtain ⟨g2,a2⟩:=ab.freeze (ob:=ob) e hl rk same;exact q _ _ (gr.trans g2) a2 (zji (yO) (rk.mono g2))
   .exact q.elim
 |str t =>
  cases rp;exact .inl ⟨t,rfl,q _ H1 gr ab zjd⟩
 |_=>exact q.elim
def lowG (K:zA) (t:G3):TG:=fun v τ H Q=>∃ w σ G,wX K H w v/\yY K H σ τ/\xP K H G/\t w σ G fun σ' G'=>∀ τ' H',yK K H H'->yY K H' σ' τ'->xP K H' G'->Q τ' H'
def lowGs (K:zA) (t:Gs3):TGs:=fun vs τ H Q=>∃ ws σ G,zF K H ws vs/\yY K H σ τ/\xP K H G/\t ws σ G fun σ' G'=>∀ τ' H',yK K H H'->yY K H' σ' τ'->xP K H' G'->Q τ' H'
theorem _root_.L2.PG.imp {tg:Expr} {t t':TG} (h:PG X tg t) (k:∀ v σ H Q,t' v σ H Q->t v σ H Q):PG X tg t':=fun pins s σ H v u Q I r q=>h pins s σ H v u Q I r (k v σ H Q q)
theorem _root_.L2.PGs.imp {tg:List Expr} {t t':TGs} (h:PGs X tg t) (k:∀ v σ H Q,t' v σ H Q->t v σ H Q):PGs X tg t':=fun pins s σ H v u Q I r q=>h pins s σ H v u Q I r (k v σ H Q q)
theorem hV {e:Expr} {es:List Expr} {env:Env} (h:noStar e=true):assignEach (e::es) env=(false,assign e env)::assignEach es env:=by
 cases e<;>first|rfl|exact absurd h zzN
end
def MonoG (t:G3):Prop:=∀ w σ G (Q Q':wK->Hw->Prop),(∀ a b,Q a b->Q' a b)->t w σ G Q->t w σ G Q'
def zjS (t:Gs3):Prop:=∀ w σ G (Q Q':wK->Hw->Prop),(∀ a b,Q a b->Q' a b)->t w σ G Q->t w σ G Q'
mutual
theorem tQ:∀ t:ITg,MonoG (zT t)
 | .nm i=>fun w σ G Q Q' k h=>k _ _ h
 | .tup ts=>fun w σ G Q Q' k h=>by
  cases w with
  |tup ws=>exact pA ts ws σ G Q Q' k h
  |_=>exact h.elim
theorem pA:∀ ts:ITgs,zjS (zY ts)
 | .nil=>fun w σ G Q Q' k h=>by
  cases w with
  |nil=>exact k _ _ h
  |cons _ _=>exact h.elim
 | .cons t ts=>fun w σ G Q Q' k h=>by
  cases w with
  |nil=>exact h.elim
  |cons x r=>exact tQ t x σ G _ _ (fun σ' G' h=>pA ts r σ' G' Q Q' k h) h
end
theorem nS {Γ:Ctx3} {M:MC} {p:Par} {X:Cx} (L:Lk Γ M p X) {x:Str} (h:mD M x=true):Loc X.env.scope x/\(X.fn x=true\/X.env.scope.names.lookup x=some .local):=by
 unfold mD at h;rw [L.sc]
 split at h
 .rename_i e;exact ⟨.inl e,.inr e⟩
 .rename_i e;exact ⟨.inr e,.inl (L.own x h)⟩
 .exact absurd h zzN
mutual
theorem sndG {Γ:Ctx3} {M:MC} {p:Par} {X:Cx} (L:Lk Γ M p X):∀ (t:ITg) (x:Expr),mG M t x=true->PG X x (lowG X.K (zT t))
  | .nm i,x,h=>by
   cases x with
   |Name y q =>
    replace h:=vD h;have lo:=nS L h.2;refine (dJ (i:=i) (L.N▸L.nd) (by rw [L.N];exact yB h.1) lo.1 lo.2).imp fun v σ H Q q=>?_;obtain ⟨w,σ3,G,rp,hs,ab,q⟩:=q;exact q _ _ .refl (hs.set rp i) ab
   |_=>exact absurd h zzN
  | .tup ts,x,h=>by
   cases x with
   |Tuple es k q =>
    skip
    obtain ⟨ps,hn,hst⟩:=zhP L ts es h;refine (zik (n:=es.length) L.fits.calm ps hn hst).imp fun v σ H Q q=>?_;obtain ⟨w,σ3,G,rp,hs,ab,q⟩:=q
    cases w with
    |tup ws =>
      obtain ⟨a,vs,rfl,sq,rs⟩:=rp;refine ⟨a,vs,rfl,sq,?_,ws,σ3,G,rs,hs,ab,q⟩;rw [rs.length];exact ziV ts es ws σ3 G _ h q
    |_=>exact q.elim
   |_=>exact absurd h zzN
theorem zhP {Γ:Ctx3} {M:MC} {p:Par} {X:Cx} (L:Lk Γ M p X):∀ (ts:ITgs) (xs:List Expr),mGs M ts xs=true->PGs X xs (lowGs X.K (zY ts))/\(assignEach xs X.env).length=xs.length/\(assignEach xs X.env).findIdx? (·.1)=none
 | .nil,[],_=>⟨(zbU).imp fun vs σ H Q q=>by
   obtain ⟨ws,σ3,G,rs,hs,ab,q⟩:=q
   cases ws with
   |nil=>exact ⟨rs,q _ _ .refl hs ab⟩
   |cons _ _=>exact q.elim,rfl,rfl⟩
 | .cons t ts,x::xs,h=>by
  simp only [mGs,Zp] at h;obtain ⟨ps,hn,hst⟩:=zhP L ts xs h.2;have es:=hV (es:=xs) (env:=X.env) h.1.1;refine ⟨(pK (sndG L t x h.1.2) ps (by rw [es];rfl)).imp fun vs σ H Q q=>?_,by rw [es,Zh,Zh,hn],?_⟩
  .obtain ⟨ws,σ3,G,rs,hs,ab,q⟩:=q
   cases ws with
   |nil=>exact q.elim
   |cons w r =>
    obtain ⟨v,vr,e,rp,rr⟩:=rs;refine ⟨v,vr,e,w,σ3,G,rp,hs,ab,tQ t w σ3 G _ _ (fun σ' G' q τ' H' g' hs' ab'=>?_) q⟩;exact ⟨r,σ',G',rr.mono g',hs',ab',pA ts r σ' G' _ _ (fun σ2 G2 q τ2 H2 g2=>q τ2 H2 (g'.trans g2)) q⟩
  .rw [es,List.findIdx?_cons];simp only [zzB,if_false,hst];rfl
theorem ziV {M:MC}:∀ (ts:ITgs) (xs:List Expr) (ws:List W) (σ:wK) (G:Hw) (Q:wK->Hw->Prop),mGs M ts xs=true->zY ts ws σ G Q->ws.length=xs.length
 | .nil,[],ws,σ,G,Q,_,q=>by
  cases ws with
  |nil=>rfl
  |cons _ _=>exact q.elim
 | .cons t ts,x::xs,ws,σ,G,Q,h,q=>by
  simp only [mGs,Zp] at h
  cases ws with
  |nil=>exact q.elim
  |cons w r =>
   have:∃ σ' G',zY ts r σ' G' Q:=exG t w σ G _ q;obtain ⟨σ',G',q'⟩:=this;rw [Zh,Zh,ziV ts xs r σ' G' Q h.2 q']
theorem exG:∀ (t:ITg) (w:W) (σ:wK) (G:Hw) (Q:wK->Hw->Prop),zT t w σ G Q->∃ σ' G',Q σ' G'
 | .nm i,w,σ,G,Q,q=>⟨_,_,q⟩
 | .tup ts,w,σ,G,Q,q=>by
  cases w with
  |tup ws=>exact exGs ts ws σ G Q q
  |_=>exact q.elim
theorem exGs:∀ (ts:ITgs) (ws:List W) (σ:wK) (G:Hw) (Q:wK->Hw->Prop),zY ts ws σ G Q->∃ σ' G',Q σ' G'
 | .nil,ws,σ,G,Q,q=>by
  cases ws with
  |nil=>exact ⟨_,_,q⟩
  |cons _ _=>exact q.elim
 | .cons t ts,ws,σ,G,Q,q=>by
  cases ws with
  |nil=>exact q.elim
  |cons w r =>
   obtain ⟨σ',G',q'⟩:=exG t w σ G _ q;exact exGs ts r σ' G' Q q'
end
def lowO (K:zA) (t:wK->Hw->(Option Int->Hw->Prop)->Prop):TO:=fun τ H Q=>∃ σ G,yY K H σ τ/\xP K H G/\t σ G fun o G'=>∀ H',yK K H H'->xP K H' G'->Q o H'
theorem _root_.L2.PO.imp {X:Cx} {e:Option Expr} {t t':TO} (h:PO X e t) (k:∀ σ H Q,t' σ H Q->t σ H Q):PO X e t':=fun pins s σ H Q I q=>h pins s σ H Q I (k σ H Q q)
theorem _root_.L2.PTs.imp {X:Cx} {e:List Expr} {t t':TT} (h:PTs X e t) (k:∀ σ H Q,t' σ H Q->t σ H Q):PTs X e t':=fun pins s σ H Q I q=>h pins s σ H Q I (k σ H Q q)
theorem _root_.L2.PI.imp {X:Cx} {tg x:Expr} {t t':TI} (h:PI X tg x t) (k:∀ σ H R,t' σ H R->t σ H R):PI X tg x t':=fun pins s σ H R I q=>h pins s σ H R I (k σ H R q)
def capV (k:Nat) (caps:List Nat) (σ:L2.St):L2.St:=List.replicate k none++caps.map fun j=>(σ[j]?).join
theorem cG {α:Type} {k:Nat} {caps:List Nat} {σ:List (Option α)} {i:Nat} {v:α} (h:(List.replicate k none++caps.map fun j=>(σ[j]?).join)[i]?=some (some v)):k<=i/\∃ j,caps[i-k]?=some j/\σ[j]?=some (some v):=by
 by_cases hi:i<k
 .rw [Zar (by simpa using hi),Zbq,if_pos hi] at h;cases h
 .rw [Zan (by simpa using hi),ZbF,Zj] at h;refine ⟨by omega,?_⟩
  cases e:caps[i-k]? with
  |none=>rw [e] at h;cases h
  |some j =>
   rw [e] at h;have h':(σ[j]?).join=some v:=Zz h;refine ⟨j,rfl,?_⟩
   cases q:σ[j]? with
   |none=>rw [q] at h';cases h'
   |some o=>rw [q] at h';exact congrArg some h'
theorem zhd {K:zA} {H:Hp} {σ:wK} {τ:L2.St} (h:yY K H σ τ) (k:Nat) (caps:List Nat):yY K H (vU k caps σ) (capV k caps τ):=by
 refine ⟨by simp [vU,capV],fun i w e=>?_⟩;obtain ⟨hk,j,ej,es⟩:=cG e;obtain ⟨v,ev,rp⟩:=h.2 j w es;refine ⟨v,?_,rp⟩;unfold capV;rw [Zan (by simpa using hk),ZbF,Zj,ej];simp [ev]
theorem zas:∀ {l:List Str},pH l=true->l.Nodup
 | [],_=>ZbZ
 |x::r,h=>by
  simp only [pH,Zp,ZaP] at h;refine Zaj.mpr ⟨fun hm=>?_,zas h.2⟩;have:=List.elem_eq_true_of_mem hm;rw [List.contains_eq_mem] at h;simp [hm] at h
theorem zfO {X:Cx} {sc out:Scope} (e:X.env.scope=out):relabel sc X.env=relS sc out:=by
 unfold relabel relS Env.kindOf;rw [e]
theorem zfb {X:Cx} {sc out:Scope} (e:X.env.scope=out) (h:blkB out sc=true):BlkSc X sc:=by
 unfold blkB at h;simp only [Zp,ZI] at h;obtain ⟨⟨⟨h1,h2⟩,h3⟩,h4⟩:=h;refine ⟨eq_of_beq h1,fun y hy=>?_,fun y hy=>?_,fun x hx=>?_,fun y hy z=>?_⟩
 .simpa using (h2 _ hy).1
 .simpa using (h2 _ hy).2
 .have:=h3 _ hx;simp only [beq_self_eq_true,ZG,ZcB,Bool.or_eq_true,beq_iff_eq] at this;show X.env.scope.names.lookup x=_\/X.env.scope.names.lookup x=_;rw [e];exact this
 .have:=h4 y hy;rw [z] at this;simpa using this
theorem zcS {X:Cx} {M:MC} {sc:Scope} {names:List Str} {caps:List Nat} (eN:X.N=M.N) (es:X.env.scope=M.sc)
  (h:(caps.all fun j=>decide (j<M.N.length)&&(sc.names.lookup (M.N.getD j Str.empty)==some .free))=true) :
  Caps X sc (names++caps.map (fun j=>M.N.getD j Str.empty)) (capV names.length caps):=by
 intro σ hl;simp only [ZI,Zp,decide_eq_true_eq,ZaP] at h;refine ⟨by simp [capV],fun i x v hN hσ _=>?_⟩;obtain ⟨hk,j,ej,e⟩:=cG hσ;rw [Zan hk,Zj,ej] at hN;have hx:M.N.getD j Str.empty=x:=Zz hN;have hj:=h j (Zv ej);refine ⟨?_,j,?_,e⟩
 .rw [← hx];exact eq_of_beq hj.2
 .rw [eN,← hx,ZaE,Ze hj.1];rfl
theorem ziW {K:zA} {J:It} {H1:Hp} {items:List W} {stab:Hw->Prop} {G1:Hw} {σ:wK} {τ:L2.St} {tg:ITg} {c:T3} {e:E3} {Q:VK} {H0:Hp} (mc:vB c) (me:wJ e) (it:ItIs K J H1 items stab) (ab:xP K H1 G1) (hs:yY K H1 σ τ) (g0:yK K H0 H1)
  (hw:∀ w G' (Q:wK->Hw->Prop),zT tg w σ G' Q->zT tg w σ G' fun σ2 G2=>(σ2.length=σ.length/\∀ (i:Nat) (v:W),σ[i]?=some (some v)->σ2[i]?=some (some v))/\Q σ2 G2)
  (h:lcR items stab G1 (fun w G' K=>zT tg w σ G' fun σ2 G2=>c σ2 G2 fun b G3=>if b=true then e σ2 G3 fun x G4=>K (some x) G4 else K none G3) (jK K H0 Q)) :
  tLCb J τ (lowG K (zT tg)) (qR K c) (yA K e) (fun acc H'=>∀ p,H' p=none->Q (.ref p) (yH H' p (.lst acc))) H1:=by
 obtain ⟨Pv,p0,pst,hlen,step,fin⟩:=h;refine ⟨fun i m τ acc H=>m+i=items.length/\yK K H1 H/\yY K H σ τ/\∃ ws G,zF K H ws acc/\xP K H G/\Pv i ws G,⟨items.length,rfl,.refl,hs,[],G1,rfl,ab,p0⟩,?_⟩;rintro i m τ acc H ⟨hm,gr,hs,ws,G,rs,a,pv⟩;have hst:=pst i ws G pv (by omega);have hacc:acc.length=ws.length:=rs.length
 by_cases hi:i<items.length
 .refine .inr ⟨it.go i H G gr a hst.1 hi,by omega,fun x H' y=>?_⟩;obtain ⟨w,ew,g1,rp,a1⟩:=it.yld i H G x H' gr a hst.1 hi y;refine ⟨w,σ,G,rp,hs.mono g1,a1,tQ tg w σ G _ _ (fun σ2 G2 q τ2 H2 g2 hs2 a2=>?_) (hw w G _ (step i w ws G ew pv))⟩;obtain ⟨⟨wl,wk⟩,q⟩:=q;have back:∀ {τ':L2.St} {H':Hp},yY K H' σ2 τ'->yY K H' σ τ':=fun {τ' H'} r=>⟨by rw [← wl];exact r.1,fun k w e=>r.2 k w (wk k w e)⟩;refine tF mc hs2 a2 q fun b G3 H3 g3 hs3 a3 q3=>?_
  cases b with
  |true =>
   rw [if_pos rfl] at q3 ⊢;refine yC me hs3 a3 q3 fun x G4 v H4 g4 hs4 rx a4 q4=>?_;refine ⟨m-1,by omega,by omega,gr.trans (g1.trans (g2.trans (g3.trans g4))),back hs4,ws++[x],G4,?_,a4,q4⟩;exact (rs.mono (g1.trans (g2.trans (g3.trans g4)))).append ⟨v,[],rfl,rx,rfl⟩
  |false =>
   rw [if_neg (by decide)] at q3 ⊢;exact ⟨m-1,by omega,by omega,gr.trans (g1.trans (g2.trans g3)),back hs3,ws,G3,rs.mono (g1.trans (g2.trans g3)),a3,q3⟩
 .refine .inl ⟨it.stop i H G gr a hst.1 (by omega),fun p hp=>?_⟩;have ei:i=items.length:=by omega
  subst ei;exact fin ws G pv p (a.free hp) _ _ ((g0.trans gr).trans (xJ hp)) rfl (a.new hp ⟨acc,rfl,rs.mono (xJ hp)⟩)
theorem zbF:∀ (tg:ITg) (w:W) (σ:wK) (G:Hw) (Q:wK->Hw->Prop),zT tg w σ G Q->zT tg w σ G fun σ2 G2=>σ2.length=σ.length/\Q σ2 G2:=by
 intro tg
 refine ITg.rec (motive_1:=fun _=>True) (motive_2:=fun _=>True) (motive_3:=fun _=>True) (motive_4:=fun _=>True) (motive_5:=fun tg=>∀ (w:W) (σ:wK) (G:Hw) (Q:wK->Hw->Prop),zT tg w σ G Q->zT tg w σ G fun σ2 G2=>σ2.length=σ.length/\Q σ2 G2)
  (motive_6:=fun ts=>∀ (ws:List W) (σ:wK) (G:Hw) (Q:wK->Hw->Prop),zY ts ws σ G Q->zY ts ws σ G fun σ2 G2=>σ2.length=σ.length/\Q σ2 G2)
  ?_ ?_ ?_ ?_ ?_ ?_ ?_ ?_ ?_ ?_ ?_ ?_ ?_ ?_ ?_ ?_ ?_ ?_ ?_ ?_ ?_ ?_ ?_ ?_ ?_ ?_ ?_ ?_ ?_ ?nm ?tup ?nil ?cons tg
 case nm=>exact fun i w σ G Q h=>⟨by simp,h⟩
 case tup =>
  intro ts ih w σ G Q h
  cases w with
  |tup ws=>exact ih ws σ G Q h
  |_=>exact h.elim
 case nil =>
  intro ws σ G Q h
  cases ws with
  |nil=>exact ⟨rfl,h⟩
  |cons _ _=>exact h.elim
 case cons =>
  intro t ts ht hts ws σ G Q h
  cases ws with
  |nil=>exact h.elim
  |cons w r =>
   refine tQ t w σ G _ _ (fun σ' G' q=>?_) (ht w σ G _ h);exact pA ts r σ' G' _ _ (fun σ2 G2 q2=>⟨q2.1.trans q.1,q2.2⟩) (hts r σ' G' Q q.2)
 all_goals intros;trivial
mutual
theorem zam:∀ (tg:ITg) (w:W) (σ:wK) (G:Hw) (Q:wK->Hw->Prop),zT tg w σ G Q->zT tg w σ G fun σ2 G2=>(∀ i,i∉tgIx tg->σ2[i]?=σ[i]?)/\Q σ2 G2
 | .nm j,w,σ,G,Q,h=>⟨fun i hi=>by rw [Zaw];intro z;exact hi (by simp [tgIx,z]),h⟩
 | .tup ts,w,σ,G,Q,h=>by
  cases w with
  |tup ws=>exact gL ts ws σ G Q h
  |_=>exact h.elim
theorem gL:∀ (ts:ITgs) (ws:List W) (σ:wK) (G:Hw) (Q:wK->Hw->Prop),zY ts ws σ G Q->zY ts ws σ G fun σ2 G2=>(∀ i,i∉zdf ts->σ2[i]?=σ[i]?)/\Q σ2 G2
 | .nil,ws,σ,G,Q,h=>by
  cases ws with
  |nil=>exact ⟨fun _ _=>rfl,h⟩
  |cons _ _=>exact h.elim
 | .cons t ts,ws,σ,G,Q,h=>by
  cases ws with
  |nil=>exact h.elim
  |cons w r =>
   refine tQ t w σ G _ _ (fun σ' G' q=>?_) (zam t w σ G _ h);refine pA ts r σ' G' _ _ (fun σ2 G2 q2=>⟨fun i hi=>?_,q2.2⟩) (gL ts r σ' G' Q q.2);simp only [zdf,Z3,not_or] at hi;rw [q2.1 i hi.2,q.1 i hi.1]
end
theorem zcI {K:zA} {H:Hp}:∀ (ks:List Str) {ws:List W} {vs:List V} {a:List (yM×W)} {b:List (yM×V)},zF K H ws vs->yZ K H a b ->
  yZ K H ((ks.zip ws).foldl (fun acc kv=>qV acc (.inr kv.1) kv.2) a) (((ks.zip vs).map fun kv=>((Sum.inr kv.1:yM),kv.2)).foldl (fun acc kv=>vZ acc kv.1 kv.2) b)
 | [],ws,vs,a,b,_,h=>by simpa using h
 |k::ks,[],vs,a,b,hr,h=>by rw [show vs=[] from hr];simpa using h
 |k::ks,w::ws,vs,a,b,hr,h=>by
  obtain ⟨v,r,e,rw',rr⟩:=hr;subst e;simp only [Za2,List.foldl_cons,zzU];exact zcI ks rr (h.put rw')
theorem nV {K:zA} {H:Hp} {f:Str} {w:W}:∀ {l:List (Str×W)} {l':List (Str×V)},yZ K H l l'->l.lookup f=some w->∃ v,l'.lookup f=some v/\wX K H w v
 | [],_,h,e=>by cases e
 |p::r,_,⟨v,t,e,h,hr⟩,q=>by
  subst e;obtain ⟨n,u⟩:=p;rw [ZB] at q ⊢
  cases hx:f==n with
  |true=>rw [hx] at q;cases q;exact ⟨v,rfl,h⟩
  |false=>rw [hx] at q;exact nV hr q
theorem zeD {K:zA} {H:Hp} {G:Hw} {w:W} {v:V} {T:String} (r:wX K H w v) (ab:xP K H G) (h:tyW G w T):tyV K T v H:=by
 cases w with
 |str x=>cases r;exact h
 |ref p =>
  cases r;simp only [tyW] at h
  split at h
  .rename_i ws e;obtain ⟨vs,q,_⟩:=ab.lst e;exact .inl ⟨h,vs,.of q⟩
  .rename_i ws e;obtain ⟨vs,q,_⟩:=ab.seq (a:=p) (ws:=ws) (by unfold yV;rw [e]);exact .inl ⟨h,vs,q⟩
  .rename_i kvs e;obtain ⟨l,q,_⟩:=ab.dic e;exact .inr (.inr (.inl ⟨h,.inl ⟨l,q⟩⟩))
  .exact h.elim
 |_=>exact h.elim
theorem zgf {l:List Nat} {k:Nat} (h:l.all (fun i=>decide (i<k))=true) {i:Nat} (hi:k<=i):i∉l:=fun hm=>by
 have:=ZI.mp h i hm;simp at this;omega
theorem zgw {op:CmpOp} {a b:IE} {M:MC} {l:Expr} {os:List CmpOp} {rs:List Expr} {q:Pos} (h:mE (.cmp op a b) M (.Compare l os rs q)=true):∃ o r,os=[o]/\rs=[r]:=by
 cases os with
 |nil=>exact absurd h zzN
 |cons o os =>
  cases os with
  |cons _ _=>exact absurd h zzN
  |nil =>
   cases rs with
   |nil=>exact absurd h zzN
   |cons r rs =>
    cases rs with
    |cons _ _=>exact absurd h zzN
    |nil=>exact ⟨o,r,rfl,rfl⟩
theorem zgx {o1 o2:CmpOp} {a b c:IE} {M:MC} {l:Expr} {os:List CmpOp} {rs:List Expr} {q:Pos} (h:mE (.chn o1 o2 a b c) M (.Compare l os rs q)=true):∃ p1 p2 r t,os=[p1,p2]/\rs=[r,t]:=by
 cases os with
 |nil=>exact absurd h zzN
 |cons p1 os =>
  cases os with
  |nil=>exact absurd h zzN
  |cons p2 os =>
   cases os with
   |cons _ _=>exact absurd h zzN
   |nil =>
    cases rs with
    |nil=>exact absurd h zzN
    |cons r rs =>
     cases rs with
     |nil=>exact absurd h zzN
     |cons t rs =>
      cases rs with
      |cons _ _=>exact absurd h zzN
      |nil=>exact ⟨p1,p2,r,t,rfl,rfl⟩
theorem zgy {o1 o2 o3:CmpOp} {a b c d:IE} {M:MC} {l:Expr} {os:List CmpOp} {rs:List Expr} {q:Pos} (h:mE (.ch3 o1 o2 o3 a b c d) M (.Compare l os rs q)=true):∃ p1 p2 p3 r t u,os=[p1,p2,p3]/\rs=[r,t,u]:=by
 match os,rs,h with
 | [p1,p2,p3],[r,t,u],_=>exact ⟨p1,p2,p3,r,t,u,rfl,rfl⟩
section
variable {X : Cx} {a b c d : Expr} {pos : Pos} {ta tb tc td : TE}
def tCh3 (r1 r2 r3:R2) (ta tb tc td:TE):TE:=fun σ H Q=>ta σ H fun x H1=>tb σ H1 fun y H2=>r1 x y H2 fun z H3=>∃ k,z=.bl k /\
 (if k=true then tc σ H3 fun u H4=>r2 y u H4 fun z2 H5=>∃ k2,z2=.bl k2/\(if k2=true then td σ H5 fun t H6=>r3 u t H6 Q else Q (.bl false) H5) else Q (.bl false) H3)
theorem ziu {o1 o2 o3:CmpOp} {r1 r2 r3:R2} (h1:kX X (compareOp o1) r1) (h2:kX X (compareOp o2) r2) (h3:kX X (compareOp o3) r3) (ha:PE X a ta) (hb:PE X b tb) (hc:PE X c tc) (hd:PE X d td)
  (hm:lastMarks [o1,o2,o3] [b,c,d]=false):PE X (.Compare a [o1,o2,o3] [b,c,d] pos) (tCh3 r1 r2 r3 ta tb tc td):=by
 intro pins s σ H Q I h
 refine Compare_chain (yG (ha pins s σ H _ I h) fun v s1 ⟨x,H1,I1,e1,q1⟩=>chain_link (yG (hb pins s1 σ H1 _ I1 q1) fun u s2 ⟨y,H2,I2,e2,q2⟩ =>
  yG (h1 pins s2 σ H2 x y v u _ I2 e1 e2 q2) fun _ s3 ⟨z,H3,I3,e3,k,e,q3⟩=>?_)) hm
 subst e;cases e3;refine ZE ?_
 cases k with
 |false=>exact ite_ff ⟨.bl false,H3,I3,rfl,q3⟩
 |true =>
  refine ite_tt (chain_link (yG (hc pins s3 σ H3 _ I3 q3) fun w4 s4 ⟨z4,H4,I4,e4,q4⟩=>yG (h2 pins s4 σ H4 y z4 u w4 _ I4 e2 e4 q4) fun _ s5 ⟨z5,H5,I5,e5,k2,e,q5⟩=>?_));subst e;cases e5;refine ZE ?_
  cases k2 with
  |false=>exact ite_ff ⟨.bl false,H5,I5,rfl,q5⟩
  |true=>exact ite_tt (chain_last (yG (hd pins s5 σ H5 _ I5 q5) fun w6 s6 ⟨z6,H6,I6,e6,q6⟩=>h3 pins s6 σ H6 z4 z6 w4 w6 Q I6 e4 e6 q6))
theorem zid {o1 o2 o3:CmpOp} {r1 r2 r3:R2} (h1:kX X (compareOp o1) r1) (h2:kX X (compareOp o2) r2) (h3:kX X (compareOp o3) r3) (ha:PE X a ta) (hb:PE X b tb) (hc:PE X c tc) (hd:PE X d td)
  (hm:lastMarks [o1,o2,o3] [b,c,d]=false):PT X (.Compare a [o1,o2,o3] [b,c,d] pos) (zfA (tCh3 r1 r2 r3 ta tb tc td)):=by
 intro pins s σ H Q I h
 refine isTrue_chain (yG (ha pins s σ H _ I h) fun v s1 ⟨x,H1,I1,e1,q1⟩=>test_link (yG (hb pins s1 σ H1 _ I1 q1) fun u s2 ⟨y,H2,I2,e2,q2⟩ =>
  yG (h1 pins s2 σ H2 x y v u _ I2 e1 e2 q2) fun _ s3 ⟨z,H3,I3,e3,k,e,q3⟩=>?_)) hm
 subst e;cases e3;refine ZE ?_
 cases k with
 |false =>
  obtain ⟨k',e',q'⟩:=q3;cases e';exact ite_ff ⟨H3,I3,q'⟩
 |true =>
  refine ite_tt (test_link (yG (hc pins s3 σ H3 _ I3 q3) fun w4 s4 ⟨z4,H4,I4,e4,q4⟩=>yG (h2 pins s4 σ H4 y z4 u w4 _ I4 e2 e4 q4) fun _ s5 ⟨z5,H5,I5,e5,k2,e,q5⟩=>?_));subst e;cases e5;refine ZE ?_
  cases k2 with
  |false =>
   obtain ⟨k',e',q'⟩:=q5;cases e';exact ite_ff ⟨H5,I5,q'⟩
  |true =>
   refine ite_tt (test_last (yG (hd pins s5 σ H5 _ I5 q5) fun w6 s6 ⟨z6,H6,I6,e6,q6⟩=>yG (h3 pins s6 σ H6 z4 z6 w4 w6 _ I6 e4 e6 q6) fun _ s7 ⟨z7,H7,I7,e7,k3,e,q7⟩=>?_));subst e;cases e7;exact ZE ⟨H7,I7,q7⟩
end
section
variable {Γ : Ctx3} {p : Par} (g : Good Γ p)
def jU (Γ:Ctx3) (p:Par) (e:IE):Prop:=∀ M X x,Lk Γ M p X->mE e M x=true->PE X x (yA X.K (zD Γ XN e).e)/\PT X x (qR X.K (zD Γ XN e).t)/\∀ op vs pos,x=.BoolOp op vs pos->PW X x (qR X.K (zD Γ XN e).t)
def OkO (Γ:Ctx3) (p:Par) (o:IO):Prop:=∀ M X,Lk Γ M p X->(∀ x,mO o M x=true->PO X x (lowO X.K (zK Γ XN o)))/\∀ xs,mC o M xs=true->PTs X xs (qR X.K (zN Γ o))
def OkA (Γ:Ctx3) (p:Par) (es:IEs):Prop:=∀ M X xs,Lk Γ M p X->mA es M xs=true->PA X xs (vY X.K (zU Γ XN es))/\xs.all noStar=true /\
 (∀ ks keys pos,keyB ks keys=true->keys.length=xs.length->keys.all (·.isSome)=true/\ks.length=keys.length/\∃ trs,PPs X pos keys xs trs/\∀ τ H (Q:List (V×V)->Hp->Prop),
  (∃ σ G,yY X.K H σ τ/\xP X.K H G/\zU Γ XN es σ G fun ws G'=>∀ vs H',yK X.K H H'->zF X.K H' ws vs->xP X.K H' G'->Q ((ks.zip vs).map fun kv=>(V.str kv.1,kv.2)) H')->dW trs τ H Q)/\dY X xs (semL Γ es)
def OkI (Γ:Ctx3) (p:Par) (it:II):Prop:=∀ M X x,Lk Γ M p X->mI it M x=true->∀ tg,PI X tg x (lowI X.K (zP Γ XN it))
theorem wE {M:MC} {X:Cx} {x:Expr} {e:E3} (m:wJ e) (h:PE X x (yA X.K e)) (he:∀ whole,isTrue x X.env whole=(do let v ← whole;standAt x.pos;holding [v] (truthy v))) (hb:∀ op vs pos,x≠.BoolOp op vs pos) :
  PE X x (yA X.K (yX e).e)/\PT X x (qR X.K (yX e).t)/\∀ op vs pos,x=.BoolOp op vs pos->PW X x (qR X.K (yX e).t) :=
 ⟨h,pt_of m h he,fun op vs pos z=>absurd z (hb op vs pos)⟩
include g
theorem s_var (i:Nat):jU Γ p (.var i):=by
 intro M X x L h
 cases x with
 |Name y q =>
  replace h:=bd4 h;simp only [ZaP] at h;refine wE (M:=M) (zC g.mono XN (.var i)) ((dI (i:=i) (by rw [L.N];exact yB h.1.1.1) (by rw [L.sc];exact zbk h.1.1.2) h.1.2 h.2).imp fun τ H Q q=>?_) (fun _=>rfl) (fun _ _ _ z=>nomatch z);obtain ⟨σ,G,hs,ab,q⟩:=q
  split at q
  .rename_i w e;obtain ⟨v,ev,rp⟩:=hs.2 i w e;exact ⟨v,ev,q v H .refl rp ab⟩
  .exact q.elim
 |_=>exact absurd h zzN
theorem s_con (c:Const):jU Γ p (.con c):=by
 intro M X x L h
 cases x with
 |Constant d k q =>
  replace h:=of_decide_eq_true h;subst h;refine wE (M:=M) (zC g.mono XN (.con c)) ?_ (fun _=>rfl) (fun _ _ _ z=>nomatch z)
  cases c with
  |none=>exact zio.imp fun τ H Q q=>by obtain ⟨σ,G,hs,ab,q⟩:=q;exact q _ H .refl rfl ab
  |bool b=>exact pe_bl.imp fun τ H Q q=>by obtain ⟨σ,G,hs,ab,q⟩:=q;exact q _ H .refl rfl ab
  |int b=>exact zir.imp fun τ H Q q=>by obtain ⟨σ,G,hs,ab,q⟩:=q;exact q _ H .refl rfl ab
  |str b=>exact zeT.imp fun τ H Q q=>by obtain ⟨σ,G,hs,ab,q⟩:=q;exact q _ H .refl rfl ab
  |_=>exact fun pins s σ H Q I q=>by obtain ⟨σ,G,hs,ab,q⟩:=q;exact q.elim
 |_=>exact absurd h zzN
theorem s_glb (i:Nat):jU Γ p (.glb i):=by
 intro M X x L h
 cases x with
 |Name y q =>
  replace h:=vD h;have gl:=kD L.sc h.2;have hi:=yB h.1;rw [← L.gls] at hi;obtain ⟨e,ei,rfl⟩:=jL hi;refine wE (M:=M) (zC g.mono XN (.glb i)) ((g.gl e (wR ei) X L.fits gl.1 q gl.2.1 gl.2.2).imp fun τ H Q q=>?_) (fun _=>rfl) (fun _ _ _ z=>nomatch z);obtain ⟨σ,G,hs,ab,q⟩:=q;simp only [ei] at q;exact ⟨σ,G,hs,ab,q⟩
 |_=>exact absurd h zzN
theorem tL {M:MC} {X:Cx} (L:Lk Γ M p X):X.A.units+200<cLine:=by rw [L.fits.A];exact g.un
theorem s_bin (op:Operator) (a b:IE) (ha:jU Γ p a) (hb:jU Γ p b):jU Γ p (.bin op a b):=by
 intro M X x L h
 cases x with
 |BinOp l o r q =>
  replace h:=bd3 h;simp only [decide_eq_true_eq] at h;obtain ⟨⟨rfl,h1⟩,h2⟩:=h;exact wE (M:=M) (zC g.mono XN (.bin op a b)) ((pe_op (zjG op) (ha M X l L h1).1 (hb M X r L h2).1).imp fun τ H Q q=>dG (zC g.mono XN a) (zC g.mono XN b) (fD op) q) (fun _=>rfl) (fun _ _ _ z=>nomatch z)
 |_=>exact absurd h zzN
theorem s_neg (a:IE) (ha:jU Γ p a):jU Γ p (.neg a):=by
 intro M X x L h
 cases x with
 |UnaryOp o l q =>
  cases o with
  |USub =>
   skip
   refine wE (M:=M) (zC g.mono XN (.neg a)) ((pe_un zhs (ha M X l L h).1).imp fun τ H Q q=>?_) (fun _=>rfl) (fun _ _ _ z=>nomatch z);obtain ⟨σ,G,hs,ab,q⟩:=q;refine yC (zC g.mono XN a) hs ab q fun w G1 v H1 gr _ rp ab q=>?_
   cases w with
   |int i=>cases rp;exact ⟨i,rfl,q _ H1 gr rfl ab⟩
   |_=>exact q.elim
  |_=>exact absurd h zzN
 |_=>exact absurd h zzN
theorem s_not (a:IE) (ha:jU Γ p a):jU Γ p (.not a):=by
 intro M X x L h
 cases x with
 |UnaryOp o l q =>
  cases o with
  |Not =>
   skip
   refine ⟨(zin (ha M X l L h).1).imp fun τ H Q q=>?_,(zic (ha M X l L h).2.1).imp fun τ H Q q=>?_,fun _ _ _ z=>nomatch z⟩
   .obtain ⟨σ,G,hs,ab,q⟩:=q;refine yC (zC g.mono XN a) hs ab q fun w G1 v H1 gr _ rp ab q=>?_
    cases w with
    |bl i=>cases rp;exact ⟨i,rfl,q _ H1 gr rfl ab⟩
    |_=>exact q.elim
   .obtain ⟨σ,G,hs,ab,q⟩:=q;exact tF (vK g.mono XN a) hs ab q fun b G1 H1 gr _ ab q=>q H1 gr ab
  |_=>exact absurd h zzN
 |_=>exact absurd h zzN
theorem s_cmp (op:CmpOp) (a b:IE) (ha:jU Γ p a) (hb:jU Γ p b):jU Γ p (.cmp op a b):=by
 intro M X x L h
 cases x with
 |Compare l os rs q =>
   obtain ⟨o,r,rfl,rfl⟩:=zgw h;replace h:=bd4 h;simp only [decide_eq_true_eq] at h;obtain ⟨⟨⟨rfl,h1⟩,h2⟩,h3⟩:=h;have m:=zC g.mono XN (.cmp op a b)
   refine ⟨(zf5 (jP (tL g L) op) (ha M X l L h1).1 (hb M X r L h2).1 (qD h3)).imp fun τ H Q q=>dG (zC g.mono XN a) (zC g.mono XN b) (xZ op) q,
    (zfV (jP (tL g L) op) (ha M X l L h1).1 (hb M X r L h2).1 (qD h3)).imp fun τ H Q q=>dG (zC g.mono XN a) (zC g.mono XN b) (xZ op) (cD m q),fun _ _ _ z=>nomatch z⟩
 |_=>exact absurd h zzN
theorem s_chn (o1 o2:CmpOp) (a b c:IE) (ha:jU Γ p a) (hb:jU Γ p b) (hc:jU Γ p c):jU Γ p (.chn o1 o2 a b c):=by
 intro M X x L h
 cases x with
 |Compare l os rs q =>
   obtain ⟨q1,q2,r,t,rfl,rfl⟩:=zgx h;replace h:=bd6 h;simp only [decide_eq_true_eq] at h;obtain ⟨⟨⟨⟨⟨rfl,rfl⟩,h1⟩,h2⟩,h3⟩,h4⟩:=h;have m:=zC g.mono XN (.chn o1 o2 a b c)
   have key:∀ τ H Q,yA X.K (zD Γ XN (.chn o1 o2 a b c)).e τ H Q->zbt (sL X.K (yL o1)) (sL X.K (yL o2)) (yA X.K (zD Γ XN a).e) (yA X.K (zD Γ XN b).e) (yA X.K (zD Γ XN c).e) τ H Q:=fun τ H Q q=>by
    obtain ⟨σ,G,hs,ab,q⟩:=q;refine yC (zC g.mono XN a) hs ab q fun x G1 v H1 g1 hs1 rx a1 q=>?_;refine yC (zC g.mono XN b) hs1 a1 q fun y G2 u H2 g2 hs2 ry a2 q=>?_;refine ⟨x,y,G2,rx.mono g2,ry,a2,xZ o1 x y G2 _ _ (fun z G3 q v3 H3 g3 r3 a3=>?_) q⟩
    cases z with
    |bl k =>
     cases r3;refine ⟨k,rfl,?_⟩;have q:if k=true then _ else _:=q
     split
     .rename_i hk;rw [if_pos hk] at q;refine yC (zC g.mono XN c) (hs2.mono g3) a3 q fun w G4 v4 H4 g4 hs4 r4 a4 q=>?_;exact ⟨y,w,G4,(ry.mono g3).mono g4,r4,a4,xZ o2 y w G4 _ _ (fun w5 G5 q v5 H5 g5=>q v5 H5 (g1.trans (g2.trans (g3.trans (g4.trans g5))))) q⟩
     .rename_i hk;rw [if_neg hk] at q;exact q _ H3 (g1.trans (g2.trans g3)) rfl a3
    |_=>exact q.elim
   refine ⟨(zdL (jP (tL g L) o1) (jP (tL g L) o2) (ha M X l L h1).1 (hb M X r L h2).1 (hc M X t L h3).1 (qD (op:=o2) h4)).imp key,
    (zdz (jP (tL g L) o1) (jP (tL g L) o2) (ha M X l L h1).1 (hb M X r L h2).1 (hc M X t L h3).1 (qD (op:=o2) h4)).imp fun τ H Q q=>key _ _ _ (cD m q),fun _ _ _ z=>nomatch z⟩
 |_=>exact absurd h zzN
theorem s_ch3 (o1 o2 o3:CmpOp) (a b c d:IE) (ha:jU Γ p a) (hb:jU Γ p b) (hc:jU Γ p c) (hd:jU Γ p d):jU Γ p (.ch3 o1 o2 o3 a b c d):=by
 intro M X x L h
 cases x with
 |Compare l os rs q =>
   obtain ⟨q1,q2,q3,r,t,t2,rfl,rfl⟩:=zgy h;replace h:=bd8 h;simp only [decide_eq_true_eq] at h;obtain ⟨⟨⟨⟨⟨⟨⟨rfl,rfl⟩,rfl⟩,h1⟩,h2⟩,h3⟩,h4⟩,h5⟩:=h;have m:=zC g.mono XN (.ch3 o1 o2 o3 a b c d)
   have key:∀ τ H Q,yA X.K (zD Γ XN (.ch3 o1 o2 o3 a b c d)).e τ H Q->tCh3 (sL X.K (yL o1)) (sL X.K (yL o2)) (sL X.K (yL o3)) (yA X.K (zD Γ XN a).e) (yA X.K (zD Γ XN b).e) (yA X.K (zD Γ XN c).e) (yA X.K (zD Γ XN d).e) τ H Q:=fun τ H Q q=>by
    obtain ⟨σ,G,hs,ab,q⟩:=q;refine yC (zC g.mono XN a) hs ab q fun x G1 v H1 g1 hs1 rx a1 q=>?_;refine yC (zC g.mono XN b) hs1 a1 q fun y G2 u H2 g2 hs2 ry a2 q=>?_;refine ⟨x,y,G2,rx.mono g2,ry,a2,xZ o1 x y G2 _ _ (fun z G3 q v3 H3 g3 r3 a3=>?_) q⟩
    cases z with
    |bl k =>
     cases r3;refine ⟨k,rfl,?_⟩;have q:if k=true then _ else _:=q
     split
     .rename_i hk;rw [if_pos hk] at q;refine yC (zC g.mono XN c) (hs2.mono g3) a3 q fun w G4 v4 H4 g4 hs4 r4 a4 q=>?_;refine ⟨y,w,G4,(ry.mono g3).mono g4,r4,a4,xZ o2 y w G4 _ _ (fun z5 G5 q v5 H5 g5 r5 a5=>?_) q⟩
      cases z5 with
      |bl k2 =>
       cases r5;refine ⟨k2,rfl,?_⟩;have q:if k2=true then _ else _:=q
       split
       .rename_i hk2;rw [if_pos hk2] at q;refine yC (zC g.mono XN d) (hs4.mono g5) a5 q fun w6 G6 v6 H6 g6 hs6 r6 a6 q=>?_;exact ⟨w,w6,G6,(r4.mono g5).mono g6,r6,a6,xZ o3 w w6 G6 _ _ (fun w7 G7 q v7 H7 g7=>q v7 H7 (g1.trans (g2.trans (g3.trans (g4.trans (g5.trans (g6.trans g7))))))) q⟩
       .rename_i hk2;rw [if_neg hk2] at q;exact q _ H5 (g1.trans (g2.trans (g3.trans (g4.trans g5)))) rfl a5
      |_=>exact q.elim
     .rename_i hk;rw [if_neg hk] at q;exact q _ H3 (g1.trans (g2.trans g3)) rfl a3
    |_=>exact q.elim
   refine ⟨(ziu (jP (tL g L) o1) (jP (tL g L) o2) (jP (tL g L) o3) (ha M X l L h1).1 (hb M X r L h2).1 (hc M X t L h3).1 (hd M X t2 L h4).1 (qD (op:=o3) h5)).imp key,
    (zid (jP (tL g L) o1) (jP (tL g L) o2) (jP (tL g L) o3) (ha M X l L h1).1 (hb M X r L h2).1 (hc M X t L h3).1 (hd M X t2 L h4).1 (qD (op:=o3) h5)).imp fun τ H Q q=>key _ _ _ (cD m q),fun _ _ _ z=>nomatch z⟩
 |_=>exact absurd h zzN
theorem s_and (a b:IE) (ha:jU Γ p a) (hb:jU Γ p b):jU Γ p (.and a b):=by
 intro M X x L h
 have e1:∀ τ H Q,yA X.K (zD Γ XN (.and a b)).e τ H Q->zhH (yA X.K (zD Γ XN a).e) (yA X.K (zD Γ XN b).e) τ H Q:=fun τ H Q q=>by
  obtain ⟨σ,G,hs,ab,q⟩:=q;refine yC (zC g.mono XN a) hs ab q fun w G1 v H1 g1 hs1 rx a1 q=>?_
  cases w with
  |bl k =>
   cases rx;refine ⟨k,rfl,?_⟩;have q:if k=true then _ else _:=q
   split
   .rename_i hk;rw [if_pos hk] at q;exact ⟨σ,G1,hs1,a1,zC g.mono XN b σ G1 _ _ (fun w G' q v' H' g'=>q v' H' (g1.trans g')) q⟩
   .rename_i hk;rw [if_neg hk] at q;exact q _ H1 g1 rfl a1
  |_=>exact q.elim
 have e2:∀ τ H Q,qR X.K (zD Γ XN (.and a b)).t τ H Q->tAnd (qR X.K (zD Γ XN a).t) (qR X.K (zD Γ XN b).t) τ H Q:=fun τ H Q q=>by
  obtain ⟨σ,G,hs,ab,q⟩:=q;refine tF (vK g.mono XN a) hs ab q fun k G1 H1 g1 hs1 a1 q=>?_
  split
  .rename_i hk;rw [if_pos hk] at q;exact ⟨σ,G1,hs1,a1,vK g.mono XN b σ G1 _ _ (fun w G' q H' g'=>q H' (g1.trans g')) q⟩
  .rename_i hk;rw [if_neg hk] at q;exact q H1 g1 a1
 cases x with
 |BoolOp o vs q =>
  match o,vs,h with
  | .And,[l,r],h =>
   replace h:=vD h;have A:=ha M X l L h.1;have B:=hb M X r L h.2;have W2:PW X (.BoolOp .And [l,r] q) (qR X.K (zD Γ XN (.and a b)).t):=(zeP A.2.1 (zfS B.2.1)).imp e2;exact ⟨(zeV A.1 (zeU B.1)).imp e1,W2.pt,fun _ _ _ _=>W2⟩
  | .And,l::r::q'::rest,h =>
   replace h:=vD h;have A:=ha M X l L h.1;have B:=hb M X _ L h.2;have W2:PW X (.BoolOp .And (l::r::q'::rest) q) (qR X.K (zD Γ XN (.and a b)).t):=(zeP A.2.1 (B.2.2 _ _ _ rfl)).imp e2;exact ⟨(zeV A.1 B.1).imp e1,W2.pt,fun _ _ _ _=>W2⟩
 |_=>exact absurd h zzN
theorem s_or (a b:IE) (ha:jU Γ p a) (hb:jU Γ p b):jU Γ p (.or a b):=by
 intro M X x L h
 have e1:∀ τ H Q,yA X.K (zD Γ XN (.or a b)).e τ H Q->tOrV (yA X.K (zD Γ XN a).e) (yA X.K (zD Γ XN b).e) τ H Q:=fun τ H Q q=>by
  obtain ⟨σ,G,hs,ab,q⟩:=q;refine yC (zC g.mono XN a) hs ab q fun w G1 v H1 g1 hs1 rx a1 q=>?_
  cases w with
  |bl k =>
   cases rx;refine ⟨k,rfl,?_⟩;have q:if k=true then _ else _:=q
   split
   .rename_i hk;rw [if_pos hk] at q;exact q _ H1 g1 rfl a1
   .rename_i hk;rw [if_neg hk] at q;exact ⟨σ,G1,hs1,a1,zC g.mono XN b σ G1 _ _ (fun w G' q v' H' g'=>q v' H' (g1.trans g')) q⟩
  |_=>exact q.elim
 have e2:∀ τ H Q,qR X.K (zD Γ XN (.or a b)).t τ H Q->tOr (qR X.K (zD Γ XN a).t) (qR X.K (zD Γ XN b).t) τ H Q:=fun τ H Q q=>by
  obtain ⟨σ,G,hs,ab,q⟩:=q;refine tF (vK g.mono XN a) hs ab q fun k G1 H1 g1 hs1 a1 q=>?_
  split
  .rename_i hk;rw [if_pos hk] at q;exact q H1 g1 a1
  .rename_i hk;rw [if_neg hk] at q;exact ⟨σ,G1,hs1,a1,vK g.mono XN b σ G1 _ _ (fun w G' q H' g'=>q H' (g1.trans g')) q⟩
 cases x with
 |BoolOp o vs q =>
  match o,vs,h with
  | .Or,[l,r],h =>
   replace h:=vD h;have A:=ha M X l L h.1;have B:=hb M X r L h.2;have W2:PW X (.BoolOp .Or [l,r] q) (qR X.K (zD Γ XN (.or a b)).t):=(zib A.2.1 (zia B.2.1)).imp e2;exact ⟨(zim A.1 (zeU B.1)).imp e1,W2.pt,fun _ _ _ _=>W2⟩
  | .Or,l::r::q'::rest,h =>
   replace h:=vD h;have A:=ha M X l L h.1;have B:=hb M X _ L h.2;have W2:PW X (.BoolOp .Or (l::r::q'::rest) q) (qR X.K (zD Γ XN (.or a b)).t):=(zib A.2.1 (B.2.2 _ _ _ rfl)).imp e2;exact ⟨(zim A.1 B.1).imp e1,W2.pt,fun _ _ _ _=>W2⟩
 |_=>exact absurd h zzN
theorem s_ite (c a b:IE) (hc:jU Γ p c) (ha:jU Γ p a) (hb:jU Γ p b):jU Γ p (.ite c a b):=by
 intro M X x L h
 cases x with
 |IfExp t l r q =>
  replace h:=bd3 h;refine ⟨(zdJ (hc M X t L h.1.1).2.1 (ha M X l L h.1.2).1 (hb M X r L h.2).1).imp fun τ H Q q=>?_,fun _ _ _ _ _ _ q=>?_,fun _ _ _ z=>nomatch z⟩
  .obtain ⟨σ,G,hs,ab,q⟩:=q;refine tF (vK g.mono XN c) hs ab q fun k G1 H1 g1 hs1 a1 q=>?_
   split
   .rename_i hk;rw [if_pos hk] at q;exact ⟨σ,G1,hs1,a1,zC g.mono XN a σ G1 _ _ (fun w G' q v' H' g'=>q v' H' (g1.trans g')) q⟩
   .rename_i hk;rw [if_neg hk] at q;exact ⟨σ,G1,hs1,a1,zC g.mono XN b σ G1 _ _ (fun w G' q v' H' g'=>q v' H' (g1.trans g')) q⟩
  .obtain ⟨_,_,_,_,z⟩:=q;exact z.elim
 |_=>exact absurd h zzN
theorem s_ix (a i:IE) (ha:jU Γ p a) (hb:jU Γ p i):jU Γ p (.ix a i):=by
 intro M X x L h
 cases x with
 |Subscript l r q =>
  replace h:=bd3 h;exact wE (M:=M) (zC g.mono XN (.ix a i)) ((pe_ix (ix_ok (tL g L)) (ha M X l L h.1.1).1 (hb M X r L h.1.2).1 (zdF h.2)).imp fun τ H Q q=>dG (zC g.mono XN a) (zC g.mono XN i) zaz q) (fun _=>rfl) (fun _ _ _ z=>nomatch z)
 |_=>exact absurd h zzN
theorem s_sl (a:IE) (lo hi:IO) (ha:jU Γ p a) (hl:OkO Γ p lo) (hh:OkO Γ p hi):jU Γ p (.sl a lo hi):=by
  intro M X x L h
  cases x with
  |Subscript l r q =>
    cases r with
    |Slice y z sp q2 =>
     cases sp with
     |none =>
      replace h:=bd3 h;refine wE (M:=M) (zC g.mono XN (.sl a lo hi)) ((zdI sl_ok (ha M X l L h.1.1).1 ((hl M X L).1 y h.1.2) ((hh M X L).1 z h.2)).imp fun τ H Q q=>?_) (fun _=>rfl) (fun _ _ _ z=>nomatch z);obtain ⟨σ,G,hs,ab,q⟩:=q;refine yC (zC g.mono XN a) hs ab q fun w G1 v H1 g1 hs1 rx a1 q=>?_;refine ⟨σ,G1,hs1,a1,ziM g.mono XN lo σ G1 _ _ (fun o G2 q H2 g2 a2=>?_) q⟩;refine ⟨σ,G2,hs1.mono g2,a2,ziM g.mono XN hi σ G2 _ _ (fun o2 G3 q H3 g3 a3=>?_) q⟩;exact ⟨w,G3,(rx.mono g2).mono g3,a3,zak (fun w' G' q v' H' g'=>q v' H' (g1.trans (g2.trans (g3.trans g')))) q⟩
     |some _=>exact absurd h zzN
    |_=>exact absurd h zzN
  |_=>exact absurd h zzN
theorem s_tup (es:IEs) (hs:OkA Γ p es):jU Γ p (.tup es):=by
 intro M X x L h
 cases x with
 |Tuple xs k q =>
  skip
  refine wE (M:=M) (zC g.mono XN (.tup es)) ((zil (hs M X xs L h).1).imp fun τ H Q q=>?_) (fun _=>rfl) (fun _ _ _ z=>nomatch z);obtain ⟨σ,G,hs',ab,q⟩:=q;refine uI (wL g.mono XN es) hs' ab q fun ws G1 vs H1 g1 hs1 rs a1 q=>⟨by rw [rs.length];exact q.1,uX a1 rs fun v' H' g'=>q.2 v' H' (g1.trans g')⟩
 |_=>exact absurd h zzN
theorem s_lst (es:IEs) (hs:OkA Γ p es):jU Γ p (.lst es):=by
 intro M X x L h
 cases x with
 |List xs q =>
  skip
  refine wE (M:=M) (zC g.mono XN (.lst es)) ((ziq (hs M X xs L h).1).imp fun τ H Q q=>?_) (fun _=>rfl) (fun _ _ _ z=>nomatch z);obtain ⟨σ,G,hs',ab,q⟩:=q;refine uI (wL g.mono XN es) hs' ab q fun ws G1 vs H1 g1 hs1 rs a1 q=>⟨by rw [rs.length];exact q.1,jM a1 rs fun r hr v' H' g'=>q.2 r hr v' H' (g1.trans g')⟩
 |_=>exact absurd h zzN
theorem pM {Γ:Ctx3} {M:MC} {es:IEs} {xs:List Expr} (h:mA es M xs=true):xs=[]->∀ σ G Q,zU Γ XN es σ G Q->Q [] G:=by
 rintro rfl σ G Q q
 cases es with
 |nil=>exact q
 |cons _ _=>exact absurd h zzN
theorem zhZ (f:Nat) (es:IEs) (hs:OkA Γ p es):jU Γ p (.call f es):=by
  intro M X x L h
  cases x with
  |Call fn xs kw q =>
    cases fn with
    |Name y qy =>
     cases kw with
     |nil =>
      replace h:=bd3 h;have gl:=kD L.sc h.1.2;have hi:=yB h.1.1;rw [← L.fns] at hi;obtain ⟨e,ei,rfl⟩:=jL hi;have A:=hs M X xs L h.2;refine wE (M:=M) (zC g.mono XN (.call f es)) ((g.fn e (wR ei) X L.fits gl.1 xs (zU Γ XN es) qy q (wL g.mono XN es) A.2.1 A.1 (pM g h.2) gl.2.1 gl.2.2).imp fun τ H Q q=>?_) (fun _=>rfl) (fun _ _ _ z=>nomatch z);obtain ⟨σ,G,hs',ab,q⟩:=q;refine ⟨σ,G,hs',ab,wL g.mono XN es σ G _ _ (fun ws G1 q=>?_) q⟩;simp only [ei] at q;exact q
     |cons _ _=>exact absurd h zzN
    |_=>exact absurd h zzN
  |_=>exact absurd h zzN
theorem s_spc (i:Nat) (es:IEs) (hs:OkA Γ p es):jU Γ p (.spc i es):=by
 intro M X x L h;replace h:=vD h;replace h:=h.2
 split at h
 .rename_i m hm
  split at h
  .rename_i xs hx;rw [← L.sxs] at hm;obtain ⟨k,ek,rfl⟩:=jL hm;have A:=hs M X xs L h;have q:=g.sx k (wR ek) X L.fits x xs (semL Γ es) (by rw [L.sc];exact hx) A.2.2.2 A.2.1 (by rw [← vO];exact A.1);refine wE (M:=M) (zC g.mono XN (.spc i es)) (q.1.imp fun τ H Q q=>?_) q.2.1 q.2.2;obtain ⟨σ,G,hs',ab,q⟩:=q;refine ⟨σ,G,hs',ab,?_⟩;rw [← vO];refine wL g.mono XN es σ G _ _ (fun ws G1 q=>?_) q;simp only [ek] at q;exact q
  .exact absurd h zzN
 .exact absurd h zzN
theorem s_mth (m:Nat) (o:IE) (es:IEs) (ho:jU Γ p o) (hs:OkA Γ p es):jU Γ p (.mth m o es):=by
  intro M X x L h
  cases x with
  |Call fn xs kw q =>
    cases fn with
    |Attribute l y qy =>
     cases kw with
     |nil =>
      replace h:=bd6 h;simp only [decide_eq_true_eq] at h;have hi:=yB h.1.1.1.1.1;rw [← L.mts] at hi;obtain ⟨e,ei,rfl⟩:=jL hi;have A:=hs M X xs L h.2;have B:=ho M X l L h.1.2;refine wE (M:=M) (zC g.mono XN (.mth m o es)) ((g.mt e (wR ei) X L.fits l xs (zD Γ XN o).e (zU Γ XN es) qy q (zC g.mono XN o) (wL g.mono XN es) h.1.1.1.1.2 h.1.1.1.2 h.1.1.2 A.2.1 B.1 A.1 (pM g h.2)).imp fun τ H Q q=>?_) (fun _=>rfl) (fun _ _ _ z=>nomatch z);obtain ⟨σ,G,hs',ab,q⟩:=q;refine ⟨σ,G,hs',ab,zC g.mono XN o σ G _ _ (fun w G1 q=>?_) q⟩;simp only [ei] at q;exact q
     |cons _ _=>exact absurd h zzN
    |_=>exact absurd h zzN
  |_=>exact absurd h zzN
theorem s_att (o:IE) (f:Str) (ho:jU Γ p o):jU Γ p (.att o f):=by
 intro M X x L h
 cases x with
 |Attribute l y q =>
  replace h:=bd3 h;simp only [beq_iff_eq] at h;obtain ⟨⟨rfl,h1⟩,h2⟩:=h;refine wE (M:=M) (zC g.mono XN (.att o y)) ((zis (ho M X l L h2).1 (kH h1)).imp fun τ H Q q=>?_) (fun _=>rfl) (fun _ _ _ z=>nomatch z);obtain ⟨σ,G,hs,ab,q⟩:=q;refine yC (zC g.mono XN o) hs ab q fun w G1 v H1 g1 hs1 rx a1 q=>?_
  cases w with
  |ref a =>
   cases rx;simp only [attR] at q
   split at q
   .rename_i C fs e;obtain ⟨⟨l,hl,hf⟩,q⟩:=q
    split at q
    .rename_i w' ew;obtain ⟨dx,fs',e',rk⟩:=a1.ins e;obtain ⟨v',ev,rv⟩:=nV rk ew;have c:=g.cl _ hl;exact ⟨a,C,dx,fs',v',rfl,e',by rw [L.fits.K];exact c.1,by rw [L.fits.K];exact c.2 y hf,ev,q _ H1 g1 rv a1⟩
    .exact q.elim
   .exact q.elim
  |_=>exact q.elim
 |_=>exact absurd h zzN
end
section
variable {Γ : Ctx3} {p : Par} (g : Good Γ p)
include g
theorem s_dct (ks:List Str) (es:IEs) (hs:OkA Γ p es):jU Γ p (.dct ks es):=by
 intro M X x L h
 cases x with
 |Dict keys xs q =>
  replace h:=bd5 h;simp only [decide_eq_true_eq,ZaP] at h;obtain ⟨⟨⟨⟨h1,h2⟩,h3⟩,h4⟩,h5⟩:=h;obtain ⟨all,ek,trs,pp,low⟩:=(hs M X xs L h2).2.2.1 ks keys q h1 h3
  have h0:keys≠[]:=by
   intro z;rw [z] at ek
   cases ks with
   |nil=>cases h5
   |cons _ _=>cases ek
  refine wE (M:=M) (zC g.mono XN (.dct ks es)) ((zf4 pp all h3 h0 h4).imp fun τ H Q q=>?_) (fun _=>rfl) (fun _ _ _ z=>nomatch z);intro a ha;obtain ⟨σ,G,hs',ab,q⟩:=q;have gr:yK X.K H (yH H a (.dK [])):=xJ ha;refine low τ _ _ ⟨σ,put G a (.dic []),hs'.mono gr,ab.new ha ⟨[],rfl,rfl⟩,wL g.mono XN es σ _ _ _ (fun ws G1 q vs H1 g1 rs a1=>?_) (q a (ab.free ha))⟩;obtain ⟨q1,q2,q3⟩:=q;obtain ⟨l,e,rl⟩:=a1.dic q1
  have el:l=[]:=by
   cases l with
   |nil=>rfl
   |cons _ _=>cases rl
  subst el;refine ⟨e,(ks.zip vs).map (fun kv=>((Sum.inr kv.1:yM),kv.2)),by rw [Zaf];rfl,?_,?_⟩
  .rw [zzM,List.length_zip];omega
  .have gr2:yK X.K H1 (yH H1 a (.dK (sO [] ((ks.zip vs).map fun kv=>((Sum.inr kv.1:yM),kv.2))))):=a1.grow q1;exact q3 _ _ (gr.trans (g1.trans gr2)) rfl (a1.chg q1 ⟨_,rfl,zcI ks (rs.mono gr2) rfl⟩)
 |_=>exact absurd h zzN
theorem gK (tg:ITg) (names:List Str) (caps:List Nat) (it:II) (c:IO) (elt:IE) (hi:OkI Γ p it) (hc:OkO Γ p c) (he:jU Γ p elt) {M:MC} {X:Cx} (L:Lk Γ M p X) {x t ix:Expr} {ifs:List Expr} {sc:Scope}
  (h:(blkB M.sc sc&&uM ix&&pH (names++caps.map (fun j=>M.N.getD j Str.empty))&&(caps.all fun j=>decide (j<M.N.length)&&(sc.names.lookup (M.N.getD j Str.empty)==some .free)) &&
    mI it M ix&&((tgIx tg).all fun i=>decide (i<names.length))&&mG { M with sc:=relS sc M.sc,N:=names++caps.map (fun j=>M.N.getD j Str.empty),own:=fun x=>sc.names.lookup x==some .cell } tg t&&mC c { M with sc:=relS sc M.sc,N:=names++caps.map (fun j=>M.N.getD j Str.empty),own:=fun x=>sc.names.lookup x==some .cell } ifs&&mE elt { M with sc:=relS sc M.sc,N:=names++caps.map (fun j=>M.N.getD j Str.empty),own:=fun x=>sc.names.lookup x==some .cell } x)=true) :
  PI X t ix (lowI X.K (zP Γ XN it))/\BlkSc X sc/\Caps X sc (names++caps.map (fun j=>M.N.getD j Str.empty)) (capV names.length caps) /\
  (∀ X',IsBlock X (names++caps.map (fun j=>M.N.getD j Str.empty)) sc X'->PG X' t (lowG X.K (zT tg)))/\(∀ X',IsBlock X (names++caps.map (fun j=>M.N.getD j Str.empty)) sc X'->PTs X' ifs (qR X.K (zN Γ c))) /\
  (∀ X',IsBlock X (names++caps.map (fun j=>M.N.getD j Str.empty)) sc X'->PE X' x (yA X.K (zD Γ XN elt).e))/\(∀ y,foldedSetIterable ix X.env y=pure y) /\
  ∀ τ H Q,yA X.K (zD Γ XN (.lc tg names caps it c elt)).e τ H Q->tLC (lowI X.K (zP Γ XN it)) (capV names.length caps) (lowG X.K (zT tg)) (qR X.K (zN Γ c)) (yA X.K (zD Γ XN elt).e) τ H Q:=by
 simp only [Zp] at h;obtain ⟨⟨⟨⟨⟨⟨⟨⟨h1,h2⟩,h3⟩,h4⟩,h5⟩,h6⟩,h7⟩,h8⟩,h9⟩:=h
 have lk:∀ X',IsBlock X (names++caps.map (fun j=>M.N.getD j Str.empty)) sc X'->Lk Γ { M with sc:=relS sc M.sc,N:=names++caps.map (fun j=>M.N.getD j Str.empty),own:=fun x=>sc.names.lookup x==some .cell } p X':=fun X' b =>
  ⟨⟨b.prog.trans L.fits.prog,b.w.trans L.fits.w,b.K.trans L.fits.K,b.mg.trans L.fits.mg,b.base.trans L.fits.base,b.A.trans L.fits.A,b.calm.trans L.fits.calm,b.xe⟩,b.N,b.scope.trans (zfO L.sc),zas h3,(fun x z=>b.fn x (eq_of_beq z)),(zfb L.sc h1).kind,L.fns,L.gls,L.mts,L.its,L.sxs,L.ixs⟩
 refine ⟨hi M X ix L h5 t,zfb L.sc h1,zcS L.N L.sc h4,fun X' b=>?_,fun X' b=>?_,fun X' b=>?_,sI h2,fun τ H Q q=>?_⟩
 .rw [← b.K];exact sndG (lk X' b) tg t h7
 .rw [← b.K];exact (hc _ X' (lk X' b)).2 ifs h8
 .rw [← b.K];exact (he _ X' x (lk X' b) h9).1
 .obtain ⟨σ,G,hs,ab,q⟩:=q;refine ⟨σ,G,hs,ab,zge g.mono XN it σ G _ _ (fun items stab G1 q J H1 g1 a1 ii=>?_) q⟩;refine ziW (monoC g.mono c) (zC g.mono XN elt) ii a1 (zhd (hs.mono g1) names.length caps) g1 (fun w G' Q' z=>?_) q;refine tQ tg w _ G' _ _ (fun σ2 G2 z=>⟨⟨z.2.1,fun i v e=>?_⟩,z.2.2⟩) (zam tg w _ G' _ (zbF tg w _ G' _ z));have hk:=(cG e).1;rw [z.1 i (zgf h6 hk)];exact e
theorem s_lc (tg:ITg) (names:List Str) (caps:List Nat) (it:II) (c:IO) (elt:IE) (hi:OkI Γ p it) (hc:OkO Γ p c) (he:jU Γ p elt):jU Γ p (.lc tg names caps it c elt):=by
 intro M X x L h
 cases x with
 |ListComp x gens sc q =>
  match gens,h with
  | [⟨t,ix,ifs,asy⟩],h =>
   have h':=h;replace h:=bd10 h;obtain ⟨⟨⟨⟨⟨⟨⟨⟨⟨h0,h1⟩,h2⟩,h3⟩,h4⟩,h5⟩,h6⟩,h7⟩,h8⟩,h9⟩:=h;replace h0:=of_decide_eq_true h0;subst h0;obtain ⟨c1,c2,c3,c4,c5,c6,c7,c8⟩:=gK g tg names caps it c elt hi hc he L (x:=x) (t:=t) (ix:=ix) (ifs:=ifs) (sc:=sc) (by simp only [Zp];exact ⟨⟨⟨⟨⟨⟨⟨⟨h1,h2⟩,h3⟩,h4⟩,h5⟩,h6⟩,h7⟩,h8⟩,h9⟩);exact wE (M:=M) (zC g.mono XN (.lc tg names caps it c elt)) ((pe_lc L.fits.calm c1 c2 c3 c4 c5 c6 c7).imp c8) (fun _=>rfl) (fun _ _ _ z=>nomatch z)
 |_=>exact absurd h zzN
theorem s_no:OkO Γ p .no:=by
 intro M X L;refine ⟨fun x h=>?_,fun xs h=>?_⟩
 .cases x with
  |none=>exact zf0.imp fun τ H Q q=>by obtain ⟨σ,G,hs,ab,q⟩:=q;exact q H .refl ab
  |some _=>exact absurd h zzN
 .cases xs with
  |nil=>exact zfU.imp fun τ H Q q=>by obtain ⟨σ,G,hs,ab,q⟩:=q;exact q H .refl ab
  |cons _ _=>exact absurd h zzN
theorem zhV (e:IE) (he:jU Γ p e):OkO Γ p (.yes e):=by
 intro M X L;refine ⟨fun x h=>?_,fun xs h=>?_⟩
 .cases x with
  |none=>exact absurd h zzN
  |some x =>
   skip
   refine (zfZ (he M X x L h).1).imp fun τ H Q q=>?_;obtain ⟨σ,G,hs,ab,q⟩:=q;refine yC (zC g.mono XN e) hs ab q fun w G1 v H1 g1 hs1 rx a1 q=>?_
   cases w with
   |int i=>cases rx;exact ⟨i,rfl,q H1 g1 a1⟩
   |_=>exact q.elim
 .match xs,h with
  | [x],h=>exact zfT (he M X x L (by simpa only [mC] using h)).2.1
theorem zhX:OkA Γ p .nil:=by
 intro M X xs L h
 cases xs with
 |cons _ _=>exact absurd h zzN
 |nil =>
  refine ⟨ziw.imp fun τ H Q q=>by obtain ⟨σ,G,hs,ab,q⟩:=q;exact q [] H .refl rfl ab,rfl,fun ks keys pos hk hl=>?_,trivial⟩
  cases keys with
  |cons _ _=>cases hl
  |nil =>
   cases ks with
   |cons _ _=>cases hk
   |nil =>
    refine ⟨rfl,rfl,[],zfY,fun τ H Q q=>?_⟩;obtain ⟨σ,G,hs,ab,q⟩:=q;exact q [] H .refl rfl ab
theorem zeL (e:IE) (es:IEs) (he:jU Γ p e) (hs:OkA Γ p es):OkA Γ p (.cons e es):=by
  intro M X xs L h
  cases xs with
  |nil=>exact absurd h zzN
  |cons x xs =>
    simp only [mA,Zp] at h;obtain ⟨⟨h1,h2⟩,h3⟩:=h;have A:=he M X x L h2;have B:=hs M X xs L h3;refine ⟨(zf9 A.1 B.1 (qO h1)).imp fun τ H Q q=>?_,by rw [Zaq,h1,B.2.1];rfl,fun ks keys pos hk hl=>?_,⟨zC g.mono XN e,A.1,B.2.2.2⟩⟩
    . obtain ⟨σ,G,hs',ab,q⟩:=q
      refine yC (zC g.mono XN e) hs' ab q fun w G1 v H1 g1 hs1 rx a1 q=>?_;refine uI (wL g.mono XN es) hs1 a1 q fun ws G2 vs H2 g2 hs2 rs a2 q=>?_;exact q _ H2 (g1.trans g2) ⟨v,vs,rfl,rx.mono g2,rs⟩ a2
    . cases ks with
      |nil =>
        cases keys with
        |nil=>simp at hl
        |cons _ _=>simp [keyB] at hk
      |cons k ks =>
       cases keys with
       |nil=>cases hk
       |cons ko keys =>
        obtain ⟨y,ky,qy,rfl⟩:∃ y ky qy,ko=some (.Constant (.str y) ky qy):=by
          cases ko with
          |none=>cases hk
          |some ke =>
            cases ke with
            |Constant c ky qy =>
              cases c with
              |str y=>exact ⟨y,ky,qy,rfl⟩
              |_=>cases hk
            |_=>cases hk
        simp only [keyB,Zp,beq_iff_eq] at hk;obtain ⟨rfl,hk⟩:=hk;obtain ⟨all,ek,trs,pp,low⟩:=B.2.2.1 ks keys pos hk (by simpa using hl);refine ⟨by simpa using all,by simpa using ek,(tC (.str k),yA X.K (zD Γ XN e).e)::trs,zdE zeT A.1 pp,fun τ H Q q=>?_⟩;obtain ⟨σ,G,hs',ab,q⟩:=q;show yA X.K (zD Γ XN e).e τ H _;refine yC (zC g.mono XN e) hs' ab q fun w G1 v H1 g1 hs1 rx a1 q=>?_;refine low τ H1 _ ⟨σ,G1,hs1,a1,wL g.mono XN es σ G1 _ _ (fun ws G2 q vs H2 g2 rs a2=>?_) q⟩;exact q (v::vs) H2 (g1.trans g2) ⟨v,vs,rfl,rx.mono g2,rs⟩ a2
theorem zhW (e:IE) (he:jU Γ p e):OkI Γ p (.val e):=fun M X x L h tg=>zij (zC g.mono XN e) (he M X x L h).1
theorem zh0 (i:Nat) (es:IEs) (hs:OkA Γ p es):OkI Γ p (.blt i es):=by
  intro M X x L h tg
  cases x with
  |Call fn xs kw q =>
    cases fn with
    |Name y qy =>
     cases kw with
     |nil =>
      replace h:=bd3 h;have gl:=kD L.sc h.1.2;have hi:=yB h.1.1;rw [← L.its] at hi;obtain ⟨e,ei,rfl⟩:=jL hi;have A:=hs M X xs L h.2;refine (g.it e (wR ei) X L.fits gl.1 tg xs (zU Γ XN es) qy q (wL g.mono XN es) A.2.1 A.1 (pM g h.2) gl.2.1 gl.2.2).imp fun τ H R q=>?_;obtain ⟨σ,G,hs',ab,q⟩:=q;refine ⟨σ,G,hs',ab,wL g.mono XN es σ G _ _ (fun ws G1 q=>?_) q⟩;simp only [ei] at q;exact q
     |cons _ _=>exact absurd h zzN
    |_=>exact absurd h zzN
  |_=>exact absurd h zzN
theorem zeK (i:Nat) (es:IEs) (hs:OkA Γ p es):OkI Γ p (.spc i es):=by
 intro M X x L h tg;simp only [mI] at h
 split at h
 .rename_i m hm
  split at h
  .rename_i xs hx;rw [← L.ixs] at hm;obtain ⟨k,ek,rfl⟩:=jL hm;have A:=hs M X xs L h;refine (g.ix k (wR ek) X L.fits tg x xs (semL Γ es) (by rw [L.sc];exact hx) A.2.2.2 A.2.1 (by rw [← vO];exact A.1)).imp fun τ H R q=>?_;obtain ⟨σ,G,hs',ab,q⟩:=q;refine ⟨σ,G,hs',ab,?_⟩;rw [← vO];refine wL g.mono XN es σ G _ _ (fun ws G1 q=>?_) q;simp only [ek] at q;exact q
  .exact absurd h zzN
 .exact absurd h zzN
theorem kU (e:IE):jU Γ p e :=
 IE.rec (motive_1:=jU Γ p) (motive_2:=OkO Γ p) (motive_3:=OkA Γ p) (motive_4:=OkI Γ p) (motive_5:=fun _=>True) (motive_6:=fun _=>True)
  (s_var g) (s_con g) (s_glb g) (s_bin g) (s_neg g) (s_not g) (s_cmp g) (s_chn g) (s_and g) (s_or g) (s_ite g) (s_ix g) (s_sl g) (s_tup g) (s_lst g) (s_dct g) (zhZ g) (s_mth g) (s_att g)
  (fun tg names caps it c elt _ hi hc he=>s_lc g tg names caps it c elt hi hc he) (s_spc g) (s_ch3 g) (s_no g) (zhV g) (zhX g) (zeL g) (zhW g) (zh0 g) (zeK g) (fun _=>trivial) (fun _ _=>trivial) trivial (fun _ _ _ _=>trivial) e
theorem sndA (es:IEs):OkA Γ p es:=match es with
 | .nil=>zhX g
 | .cons e es=>zeL g e es (kU g e) (sndA es)
theorem sndI (it:II):OkI Γ p it:=match it with
 | .val e=>zhW g e (kU g e)
 | .blt i es=>zh0 g i es (sndA g es)
 | .spc i es=>zeK g i es (sndA g es)
theorem sndO (o:IO):OkO Γ p o:=match o with
 | .no=>s_no g
 | .yes e=>zhV g e (kU g e)
end
end L3
namespace L3
open PySem PySem.Spec PyProof.Rows L2
theorem zgA {i:Nat} {a:IE} {M:MC} {x:Stmt} (h:mS (.asg i a) M x=true):∃ y py v q,x=.Assign [.Name y py] v q/\(M.N[i]?==some y)=true/\mD M y=true/\mE a M v=true:=by
 cases x with
 |Assign ts v q =>
  cases ts with
  |nil=>exact absurd h zzN
  |cons t r =>
   cases r with
   |cons _ _=>cases t<;>exact absurd h zzN
   |nil =>
    cases t with
    |Name y py =>
     replace h:=bd3 h;exact ⟨y,py,v,q,rfl,h.1.1,h.1.2,h.2⟩
    |_=>exact absurd h zzN
 |_=>exact absurd h zzN
theorem zd5 {ts:ITgs} {a:IE} {M:MC} {x:Stmt} (h:mS (.asgT ts a) M x=true):∃ es k qt v q,x=.Assign [.Tuple es k qt] v q/\tR v=true/\zdP v=true/\mGs M ts es=true/\mE a M v=true:=by
 cases x with
 |Assign ts v q =>
  cases ts with
  |nil=>exact absurd h zzN
  |cons t r =>
   cases r with
   |cons _ _=>cases t<;>exact absurd h zzN
   |nil =>
    cases t with
    |Tuple es k qt =>
     replace h:=bd4 h;exact ⟨es,k,qt,v,q,rfl,h.1.1.1,h.1.1.2,h.1.2,h.2⟩
    |_=>exact absurd h zzN
 |_=>exact absurd h zzN
theorem zd6 {i j:Nat} {a:IE} {M:MC} {x:Stmt} (h:mS (.asgS i j a) M x=true):∃ t v q,x=.Assign [t] v q/\tR v=true/\zdP v=true/\zdh M i j t=true/\mE a M v=true:=by
 cases x with
 |Assign ts v q =>
  cases ts with
  |nil=>exact absurd h zzN
  |cons t r =>
   cases r with
   |cons _ _=>exact absurd h zzN
   |nil =>
    replace h:=bd4 h;exact ⟨t,v,q,rfl,h.1.1.1,h.1.1.2,h.1.2,h.2⟩
 |_=>exact absurd h zzN
theorem zfD {M:MC} {i j:Nat} {t:Expr} (h:zdh M i j t=true):∃ x px y py p2 k q,t=.Tuple [.Name x px,.Starred (.Name y py) p2] k q/\((M.N[i]?==some x)=true/\mD M x=true)/\((M.N[j]?==some y)=true/\mD M y=true):=by
 unfold zdh at h
 split at h
 .exact ⟨_,_,_,_,_,_,_,rfl,vD (vD h).1,vD (vD h).2⟩
 .exact absurd h zzN
theorem zd7 {o i a:IE} {M:MC} {x:Stmt} (h:mS (.asgI o i a) M x=true):∃ l r qs v q,x=.Assign [.Subscript l r qs] v q/\tR v=true/\pZ r=true/\mE o M l=true/\mE i M r=true/\mE a M v=true:=by
 cases x with
 |Assign ts v q =>
  cases ts with
  |nil=>exact absurd h zzN
  |cons t r =>
   cases r with
   |cons _ _=>cases t<;>exact absurd h zzN
   |nil =>
    cases t with
    |Subscript l r qs =>
     replace h:=bd5 h;exact ⟨l,r,qs,v,q,rfl,h.1.1.1.1,h.1.1.1.2,h.1.1.2,h.1.2,h.2⟩
    |_=>exact absurd h zzN
 |_=>exact absurd h zzN
theorem zd8 {o a:IE} {f:Str} {M:MC} {x:Stmt} (h:mS (.asgA o f a) M x=true):∃ l qs v q,x=.Assign [.Attribute l f qs] v q/\tR v=true/\mE o M l=true/\mE a M v=true:=by
 cases x with
 |Assign ts v q =>
  cases ts with
  |nil=>exact absurd h zzN
  |cons t r =>
   cases r with
   |cons _ _=>cases t<;>exact absurd h zzN
   |nil =>
    cases t with
    |Attribute l y qs =>
     replace h:=bd4 h;simp only [beq_iff_eq] at h;obtain ⟨⟨⟨rfl,h2⟩,h3⟩,h4⟩:=h;exact ⟨l,qs,v,q,rfl,h2,h3,h4⟩
    |_=>exact absurd h zzN
 |_=>exact absurd h zzN
theorem zjq {a:IE} {M:MC} {x:Stmt} (h:mS (.ex a) M x=true):∃ v q,x=.Expr v q/\tR v=true/\mE a M v=true:=by
 cases x with
 |Expr v q =>
  replace h:=vD h;exact ⟨v,q,rfl,h.1,h.2⟩
 |_=>exact absurd h zzN
theorem zgr {a:IE} {M:MC} {x:Stmt} (h:mS (.ret a) M x=true):∃ v q,x=.Return (some v) q/\mE a M v=true:=by
 cases x with
 |Return v q =>
  cases v with
  |none=>exact absurd h zzN
  |some v=>exact ⟨v,q,rfl,h⟩
 |_=>exact absurd h zzN
theorem zd2 {M:MC} {x:Stmt} (h:mS .retN M x=true):∃ q,x=.Return none q:=by
 cases x with
 |Return v q =>
  cases v with
  |none=>exact ⟨q,rfl⟩
  |some v=>exact absurd h zzN
 |_=>exact absurd h zzN
theorem zd3 {M:MC} {x:Stmt} (h:mS .pass M x=true):∃ q,x=.Pass q:=by
 cases x with
 |Pass q=>exact ⟨q,rfl⟩
 |_=>exact absurd h zzN
theorem zgz {M:MC} {x:Stmt} (h:mS .brk M x=true):∃ q,x=.Break q:=by
 cases x with
 |Break q=>exact ⟨q,rfl⟩
 |_=>exact absurd h zzN
theorem zgv {M:MC} {x:Stmt} (h:mS .cnt M x=true):∃ q,x=.Continue q:=by
 cases x with
 |Continue q=>exact ⟨q,rfl⟩
 |_=>exact absurd h zzN
theorem zgt {c:IE} {a b:ISs} {M:MC} {x:Stmt} (h:mS (.ite c a b) M x=true):∃ t y z q,x=.If t y z q/\mE c M t=true/\sM a M y=true/\sM b M z=true:=by
 cases x with
 |If t y z q =>
  replace h:=bd3 h;exact ⟨t,y,z,q,rfl,h.1.1,h.1.2,h.2⟩
 |_=>exact absurd h zzN
theorem zgq {c:IE} {b:ISs} {M:MC} {x:Stmt} (h:mS (.whl c b) M x=true):∃ t y q,x=.While t y [] q/\mE c M t=true/\sM b M y=true:=by
 cases x with
 |While t y z q =>
  cases z with
  |nil =>
   replace h:=vD h;exact ⟨t,y,q,rfl,h.1,h.2⟩
  |cons _ _=>exact absurd h zzN
 |_=>exact absurd h zzN
theorem zgu {tg:ITg} {it:II} {b:ISs} {M:MC} {x:Stmt} (h:mS (.for tg it b) M x=true):∃ t y z q,x=.For t y z [] q/\uM y=true/\mG M tg t=true/\mI it M y=true/\sM b M z=true:=by
 cases x with
 |For t y z e q =>
  cases e with
  |nil =>
   replace h:=bd4 h;exact ⟨t,y,z,q,rfl,h.1.1.1,h.1.1.2,h.1.2,h.2⟩
  |cons _ _=>exact absurd h zzN
 |_=>exact absurd h zzN
theorem zgs {M:MC} {x:List Stmt} (h:sM .nil M x=true):x=[]:=by
 cases x with
 |nil=>rfl
 |cons _ _=>exact absurd h zzN
theorem zd4 {s:IS} {ss:ISs} {M:MC} {x:List Stmt} (h:sM (.cons s ss) M x=true):∃ y ys,x=y::ys/\mS s M y=true/\sM ss M ys=true:=by
 cases x with
 |nil=>exact absurd h zzN
 |cons y ys =>
  replace h:=vD h;exact ⟨y,ys,rfl,h.1,h.2⟩
end L3
namespace L2
open PySem PySem.Spec PyProof.Rows
theorem alive {P:Program} {w:World} {H:Hp} {h:Heap} {a:Addr} {o:HO} (x:xR P w H h a o):∃ u,h.get? a=some u:=by
 cases o with
 |lst _=>obtain ⟨_,_,_,_,e⟩:=x;exact ⟨_,e⟩
 |tup _=>obtain ⟨_,_,_,u,e,_⟩:=x;exact ⟨u,e⟩
 |dK _=>obtain ⟨_,_,_,_,u,_,_,e,_⟩:=x;exact ⟨u,e⟩
 |dT _=>obtain ⟨_,_,_,_,u,_,_,e,_⟩:=x;exact ⟨u,e⟩
 |set _ _=>obtain ⟨u,_,_,_,e,_⟩:=x;exact ⟨u,e⟩
 |ins _ _ _=>exact ⟨_,x.2.2.2.1⟩
 |own _=>exact x
 |xd _=>obtain ⟨_,⟨u,_,_,e,_⟩,_⟩:=x;exact ⟨u,e⟩
 |rng _ _=>obtain ⟨_,_,_,e⟩:=x;exact ⟨_,e⟩
 |frz _ _=>exact ⟨_,x.1⟩
 |tbl _=>exact ⟨_,x⟩
 |met _ _=>exact ⟨_,x⟩
 |ext _=>exact x.2.1
def zbW (h:Heap) (L:Addr):List (Addr×Obj):=(List.range h.objs.size).filterMap fun b=>if b=L then none else (h.get? b).map fun o=>(b,o)
theorem uH {h:Heap} {L b:Addr} {o:Obj}:(b,o)∈zbW h L↔b≠L/\h.get? b=some o:=by
 unfold zbW;rw [ZbV]
 constructor
 .rintro ⟨c,_,e⟩
  split at e
  .cases e
  .rename_i hc;obtain ⟨o',e1,e2⟩:=Zq.mp e;cases e2;exact ⟨hc,e1⟩
 .rintro ⟨hb,e⟩;exact ⟨b,Zax.mpr (Zf e),by rw [if_neg hb,e];rfl⟩
section
variable {X : Cx} {pos : Pos}
def gStar (K:PySem.W.Frag) (t:TGs):TG:=fun v σ H Q=>∃ a x xs,v=.ref a/\tB K H a (x::xs)/\xs.length<=1000/\∀ D,H D=none->t [x,.ref D] σ (yH H D (.lst xs)) Q
theorem zf1 {e1 e2:Expr} {k:Nat} {p2:Pos} {t:TGs} (hc:X.calm=true) (h:PGs X [e1,e2] t) (h1:assignEach [e1,.Starred e2 p2] X.env=[(false,assign e1 X.env),(true,assign e2 X.env)])
  (h2:assignEach [e1,e2] X.env=[(false,assign e1 X.env),(false,assign e2 X.env)]):PG X (.Tuple [e1,.Starred e2 p2] k pos) (gStar X.K t):=by
 intro pins s σ H v u Q I r hw;obtain ⟨a,x,xs,e,hq,hl,hw⟩:=hw;subst e;cases r;obtain ⟨its,rv,ht,hz⟩:=I.tuple hq
 cases rv with
 | @cons _ u _ us r0 rs =>
 have hus:us.length=xs.length:=rs.length.symm;obtain ⟨m,hn,_⟩:=id I.loc;have F:Fr (default:Heap) X.env.locals s.heap m:=⟨hn,fun b o e=>(by cases e),ZX _⟩
 have N:News (default:Heap) X.env.locals s.heap (zbW s.heap X.env.locals):=fun p hp=>by
  obtain ⟨b,o⟩:=p;have:=uH.mp hp;exact ⟨this.2,this.1,rfl⟩
 refine PySem.W.kun_assignT (n:=2) (i:=1) (first:=[u]) (mids:=us) (lasts:=[]) F N ht (I.ok.hd hc) (by rw [h1];rfl) (by rw [h1];rfl) (by decide) (by simp) (by simp;omega) (by simp) (by simp) (by simp) fun D h' tk F' N' lt=>?_;have get:∀ b o,b≠X.env.locals->s.heap.get? b=some o->h'.get? b=some o:=fun b o hb e=>(N' (b,o) (Zo _ (uH.mpr ⟨hb,e⟩))).1;obtain ⟨hD,nD,_⟩:=N' (D,{ cls:=.type "list", data:=.seq us.toArray 0 }) zzT
 have no:s.heap.get? D=none:=by
  cases q:s.heap.get? D with
  |none=>rfl
  |some o=>exact absurd (lt (D,o) (uH.mpr ⟨nD,q⟩)) (Zad _)
 have HD:H D=none:=by
  cases q:H D with
  |none=>rfl
  |some o=>obtain ⟨u',e'⟩:=alive (I.hok D o q);rw [no] at e';cases e'
 have nl:∀ b o,H b=some o->b≠X.env.locals:=fun b o e z=>by rw [z,I.free] at e;cases e
 have ne:∀ b o,H b=some o->b≠D:=fun b o e=>yR e HD
 have hok:vS X.prog X.w (yH H D (.lst xs)) h':=fun b o e=>by
  by_cases hb:b=D
  .subst hb;rw [yO] at e;cases e;exact ⟨by rw [ZD];omega,us,0,rs,hD⟩
  .rw [zR hb] at e;refine (I.hok b o e).stay (fun c v hc q=>get c v ?_ q) (fun c q=>by rw [zR (ne c _ q)];exact q) fun c ys q=>by rw [zR (ne c _ q)];exact q
   rcases hc with z|z
   .rw [z];exact nl b o e
   .exact nl c _ z
 have I1:Inv X pins σ (yH H D (.lst xs)) { s with heap:=h',toks:=tk } :=
  I.step (g':=s.gens) (d':=s.drawn) (ch:=[]) (fun _ z=>nomatch z) (fun b o hb _ _ e _=>get b o hb e) (fun b o hb _ _ e _=>⟨o.slots,get b o hb e⟩)
   (fun b o _ e n=>by rw [zR (fun z=>by rw [z,no] at e;cases e)];exact n)
   (fun b o _ e=>by
    by_cases hb:b=X.env.locals
    .obtain ⟨o',_,_,q,_⟩:=F'.ns;exact ⟨o',by rw [hb];exact q⟩
    .exact ⟨o,get b o hb e⟩)
   (fun b ys e=>by rw [zR (ne b _ e)];exact e) (fun b o u e=>by rw [zR (ne b _ e)];exact e) (fun b ps e=>⟨#[],by rw [zR (ne b _ e),e];simp⟩)
   (fun m' hm=>by rw [hm.eq_nsMap,← hn.eq_nsMap];exact F'.ns) hok I.bare
 have:=h pins _ σ _ [x,.ref D] [u,.ref D] Q I1 (.cons r0 (.cons rfl .nil)) (hw D HD);rw [h2] at this;rw [h1];exact this
end
end L2
namespace L3
open PySem PySem.Spec PyProof.Rows L2 PySem.SeqAt
theorem zao {K:zA} {H:Hp} {f:Str} {w:W} {v:V} (q:wX K H w v):∀ {l:List (Str×W)} {l':List (Str×V)},yZ K H l l'->yZ K H (zbN f w l) (kT f v l')
 | [],_,h=>by rw [show _=[] from h];exact ⟨v,[],rfl,q,rfl⟩
 | (n,u)::r,_,⟨x,t,e,h,hr⟩=>by
  subst e;unfold zbN kT
  by_cases hn:n=f
  .rw [if_pos hn,if_pos hn];exact ⟨v,t,rfl,q,hr⟩
  .rw [if_neg hn,if_neg hn];exact ⟨x,_,rfl,h,zao q hr⟩
section
variable {Γ : Ctx3} {p : Par} (g : Good Γ p)
def OkS (Γ:Ctx3) (p:Par) (s:IS):Prop:=∀ M X x,Lk Γ M p X->mS s M x=true->PS X x (lowS X.K (zO Γ XN s))
def OkSs (Γ:Ctx3) (p:Par) (s:ISs):Prop:=∀ M X x,Lk Γ M p X->sM s M x=true->mR X x (lowS X.K (yW Γ XN s))
include g
theorem zhB (i:Nat) (e:IE):OkS Γ p (.asg i e):=by
 intro M X x L h;obtain ⟨y,py,v,q,rfl,h1,h2,h3⟩:=zgA h
 .
  have lo:=nS L h2;have hN:=yB h1;rw [← L.N] at hN;have nd:X.N.Nodup:=L.N▸L.nd
  have low:∀ (te:TE),(∀ τ H Q,yA X.K (zD Γ XN e).e τ H Q->te τ H Q)->∀ D τ H,lowS X.K (zO Γ XN (.asg i e)) D τ H->tAsg te (zee i) D τ H:=fun te k D τ H hq=>by
   obtain ⟨σ,G,D3,hs,ab,f,hq⟩:=hq;refine k _ _ _ ⟨σ,G,hs,ab,zC g.mono XN e σ G _ _ (fun w G' hq v' H' g' rp ab'=>?_) hq⟩;exact f.nx _ G' _ H' g' ((hs.mono g').set rp i) ab' hq
  by_cases hl:tR v=true
  .exact (dL (i:=i) nd hN lo.1 (kU g e M X v L h3).1 (wM hl) lo.2).imp (low _ fun _ _ _ z=>z)
  .cases v with
   |ListComp x gens sc qq =>
    cases e with
    |lc tg names caps it c elt =>
     match gens,h3 with
     | [⟨t,ix,ifs,asy⟩],h3 =>
      have h3':=h3;replace h3:=bd10 h3;obtain ⟨⟨⟨⟨⟨⟨⟨⟨⟨z0,z1⟩,z2⟩,z3⟩,z4⟩,z5⟩,z6⟩,z7⟩,z8⟩,z9⟩:=h3;replace z0:=of_decide_eq_true z0;subst z0;have cond:∃ b,swapsWith (.ListComp x [⟨t,ix,ifs,0⟩] sc qq) (some (.Name y py)) q.line X.env=pure b:=⟨_,rfl⟩;obtain ⟨b,hb⟩:=cond
      cases b with
      |false=>exact (dL (i:=i) nd hN lo.1 (kU g _ M X _ L h3').1 hb lo.2).imp (low _ fun _ _ _ z=>z)
      |true =>
       obtain ⟨c1,c2,c3,c4,c5,c6,c7,c8⟩:=gK g tg names caps it c elt (sndI g it) (sndO g c) (kU g elt) L (x:=x) (t:=t) (ix:=ix) (ifs:=ifs) (sc:=sc) (by simp only [Zp];exact ⟨⟨⟨⟨⟨⟨⟨⟨z1,z2⟩,z3⟩,z4⟩,z5⟩,z6⟩,z7⟩,z8⟩,z9⟩);exact (zdA (i:=i) L.fits.calm c1 c2 c3 c4 c5 c6 nd hN lo.1 lo.2 hb c7).imp (low _ c8)
    |_=>exact absurd h3 zzN
   |SetComp _ _ _ _=>cases e<;>exact absurd h3 zzN
   |DictComp _ _ _ _ _=>cases e<;>exact absurd h3 zzN
   |_=>exact absurd rfl hl
theorem zeF (ts:ITgs) (e:IE):OkS Γ p (.asgT ts e):=by
 intro M X x L h;obtain ⟨es,k,qt,v,q,rfl,h1,h2,h3,h4⟩:=zd5 h
 .
  have pg:=sndG L (.tup ts) (.Tuple es k qt) h3;refine (zeS (kU g e M X v L h4).1 pg (by unfold swapsWithSole;exact wM h1) (by cases v<;>first|rfl|cases h2) rfl).imp fun D τ H hq=>?_;obtain ⟨σ,G,D3,hs,ab,f,hq⟩:=hq;refine ⟨σ,G,hs,ab,zC g.mono XN e σ G _ _ (fun w G' hq v' H' g' rp ab'=>?_) hq⟩;exact ⟨w,σ,G',rp,hs.mono g',ab',tQ _ w σ G' _ _ (fun σ2 G2 hq τ2 H2 g2 hs2 a2=>f.nx σ2 G2 τ2 H2 (g'.trans g2) hs2 a2 hq) hq⟩
theorem zeG (i j:Nat) (e:IE):OkS Γ p (.asgS i j e):=by
 intro M X x L h;obtain ⟨t,v,q,rfl,h1,h2,h3,h4⟩:=zd6 h;obtain ⟨y,py,z,pz,p2,k,qt,rfl,hi,hj⟩:=zfD h3;have l1:=nS L hi.2;have l2:=nS L hj.2;have pg:=zf1 (k:=k) (p2:=p2) (pos:=qt) L.fits.calm (pK (dJ (pos:=py) (i:=i) (L.N▸L.nd) (by rw [L.N];exact yB hi.1) l1.1 l1.2) (pK (dJ (pos:=pz) (i:=j) (L.N▸L.nd) (by rw [L.N];exact yB hj.1) l2.1 l2.2) zbU)) rfl rfl;refine (zeS (kU g e M X v L h4).1 pg (by unfold swapsWithSole;exact wM h1) (by cases v<;>first|rfl|cases h2) rfl).imp fun D τ H hq=>?_;obtain ⟨σ,G,D3,hs,ab,f,hq⟩:=hq;refine yC (zC g.mono XN e) hs ab hq fun w G1 v1 H1 g1 hs1 r1 a1 hq=>?_
 cases w with
 |tup ws =>
  cases ws with
  |nil=>exact hq.elim
  |cons x r =>
   obtain ⟨a,vs,rfl,sq,rs⟩:=r1;obtain ⟨v0,vr,rfl,rx,rr⟩:=rs;refine ⟨a,v0,vr,rfl,sq,by rw [rr.length];exact hq.1,fun p hp=>⟨v0,[.ref p],rfl,.ref p,[],rfl,rfl,?_⟩⟩;have gr:=xJ (K:=X.K) (u:=.lst vr) hp;have ab2:xP X.K (yH H1 p (.lst vr)) (put G1 p (.lst r)):=a1.new hp ⟨vr,rfl,rr.mono gr⟩;exact f.nx _ _ _ _ (g1.trans gr) (((hs1.mono gr).set (rx.mono gr) i).set (show wX X.K _ (.ref p) (.ref p) from rfl) j) ab2 (hq.2 p (a1.free hp))
 |_=>exact hq.elim
theorem zeH (o i e:IE):OkS Γ p (.asgI o i e):=by
 intro M X x L h;obtain ⟨l,r,qs,v,q,rfl,h1,h2,h3,h4,h5⟩:=zd7 h
 .
  have pe:=(kU g e M X v L h5).1;have po:=(kU g o M X l L h3).1;have pi:=(kU g i M X r L h4).1;intro pins s τ H D I hq;obtain ⟨σ,G,D3,hs,ab,f,hq⟩:=hq
  have q1:yA X.K (zD Γ XN e).e τ H fun v H1=>yA X.K (zD Γ XN o).e τ H1 fun ov H2=>yA X.K (zD Γ XN i).e τ H2 fun iv H3=>zeX X.K ov iv v H3 fun H4=>D.nx τ H4:=by
   refine yC (zC g.mono XN e) hs ab hq fun w G1 v1 H1 g1 hs1 r1 a1 hq=>?_;refine yC (zC g.mono XN o) hs1 a1 hq fun x G2 v2 H2 g2 hs2 r2 a2 hq=>?_;refine yC (zC g.mono XN i) hs2 a2 hq fun y G3 v3 H3 g3 hs3 r3 a3 hq=>?_;exact ⟨x,y,w,G3,r2.mono g3,r3,(r1.mono g2).mono g3,a3,zbD (fun G4 hq H4 g4 a4=>f.nx σ G4 τ H4 (g1.trans (g2.trans (g3.trans g4))) (hs3.mono g4) a4 hq) hq⟩
  refine wpAny_Assign_Subscript (yG (pe pins s τ H _ I q1) fun u1 s1 ⟨v1,H1,I1,r1,q1⟩=>yG (po pins s1 τ H1 _ I1 q1) fun u2 s2 ⟨v2,H2,I2,r2,q2⟩=>yG (pi pins s2 τ H2 _ I2 q2) fun u3 s3 ⟨v3,H3,I3,r3,q3⟩=>?_) (wM h1);exact yG (zhU (tL g L) pins s3 τ H3 v2 v3 v1 u2 u3 u1 _ I3 r2 r3 r1 q3) fun _ s4 ⟨H4,I4,q4⟩=>⟨τ,H4,I4,q4⟩
theorem zeI (o:IE) (f:Str) (e:IE):OkS Γ p (.asgA o f e):=by
 intro M X x L h;obtain ⟨l,qs,v,q,rfl,h2,h3,h4⟩:=zd8 h
 .
  refine (zig (kU g o M X l L h3).1 (kU g e M X v L h4).1 (wM h2)).imp fun D τ H hq=>?_;obtain ⟨σ,G,D3,hs,ab,fi,hq⟩:=hq;refine yC (zC g.mono XN e) hs ab hq fun w G1 v1 H1 g1 hs1 r1 a1 hq=>?_;refine yC (zC g.mono XN o) hs1 a1 hq fun x G2 v2 H2 g2 hs2 r2 a2 hq=>?_
  cases x with
  |ref a =>
   cases r2;simp only [satR] at hq
   split at hq
   .rename_i C fs e2;obtain ⟨⟨l2,hl,hf⟩,hlen,hq⟩:=hq;obtain ⟨dx,fs',e',rk⟩:=a2.ins e2;have c:=g.cl _ hl;refine ⟨a,C,dx,fs',rfl,e',by rw [L.fits.K];exact c.1,by rw [L.fits.K];exact c.2 f hf,by rw [rk.length];exact hlen,?_⟩;have gr:=a2.grow (u:=.ins C dx (kT f v1 fs')) e2;exact fi.nx σ _ τ _ (g1.trans (g2.trans gr)) (hs2.mono gr) (a2.chg (o:=.ins C (zbN f w fs)) e2 ⟨dx,_,rfl,zao ((r1.mono g2).mono gr) (rk.mono gr)⟩) hq
   .exact hq.elim
  |_=>exact hq.elim
theorem wN:OkS Γ p .retN/\OkS Γ p .pass/\OkS Γ p .brk/\OkS Γ p .cnt/\OkS Γ p .dead:=by
 refine ⟨fun M X x L h=>?_,fun M X x L h=>?_,fun M X x L h=>?_,fun M X x L h=>?_,fun M X x L h=>?_⟩
 .obtain ⟨q,rfl⟩:=zd2 h;exact zfW.imp fun D τ H hq=>by obtain ⟨σ,G,D3,hs,ab,f,hq⟩:=hq;exact f.rt .non G _ H .refl (show wX X.K H .non .non from rfl) ab hq
 .obtain ⟨q,rfl⟩:=zd3 h;exact zfX.imp fun D τ H hq=>by obtain ⟨σ,G,D3,hs,ab,f,hq⟩:=hq;exact f.nx σ G τ H .refl hs ab hq
 .obtain ⟨q,rfl⟩:=zgz h;exact zdD.imp fun D τ H hq=>by obtain ⟨σ,G,D3,hs,ab,f,hq⟩:=hq;exact f.bk σ G τ H .refl hs ab hq
 .obtain ⟨q,rfl⟩:=zgv h;exact zad.imp fun D τ H hq=>by obtain ⟨σ,G,D3,hs,ab,f,hq⟩:=hq;exact f.ct σ G τ H .refl hs ab hq
 .exact zdC.imp fun D τ H hq=>by obtain ⟨σ,G,D3,hs,ab,f,hq⟩:=hq;exact hq.elim
theorem t_ex (e:IE):OkS Γ p (.ex e):=by
 intro M X x L h;obtain ⟨v,q,rfl,hh⟩:=zjq h
 .have h:=hh;refine (zbR (kU g e M X v L h.2).1 (wM h.1)).imp fun D τ H hq=>?_;obtain ⟨σ,G,D3,hs,ab,f,hq⟩:=hq;exact yC (zC g.mono XN e) hs ab hq fun w G1 v1 H1 g1 hs1 r1 a1 hq=>f.nx σ G1 τ H1 g1 hs1 a1 hq
theorem zhy (e:IE):OkS Γ p (.ret e):=by
 intro M X x L h;obtain ⟨v,q,rfl,hh⟩:=zgr h
 .have h:=hh;refine (zeQ (kU g e M X v L h).1).imp fun D τ H hq=>?_;obtain ⟨σ,G,D3,hs,ab,f,hq⟩:=hq;exact yC (zC g.mono XN e) hs ab hq fun w G1 v1 H1 g1 hs1 r1 a1 hq=>f.rt w G1 v1 H1 g1 r1 a1 hq
theorem zhz (c:IE) (a b:ISs) (ha:OkSs Γ p a) (hb:OkSs Γ p b):OkS Γ p (.ite c a b):=by
 intro M X x L h;obtain ⟨t,y,z,q,rfl,hh⟩:=zgt h
 .have h:=hh;refine (zif (kU g c M X t L h.1).2.1 (ha M X y L h.2.1) (hb M X z L h.2.2)).imp fun D τ H hq=>?_;obtain ⟨σ,G,D3,hs,ab,f,hq⟩:=hq;refine tF (vK g.mono XN c) hs ab hq fun k G1 H1 g1 hs1 a1 hq=>?_
  split
  .rename_i hk;rw [if_pos hk] at hq;exact ⟨σ,G1,D3,hs1,a1,f.grow g1,hq⟩
  .rename_i hk;rw [if_neg hk] at hq;exact ⟨σ,G1,D3,hs1,a1,f.grow g1,hq⟩
theorem zhx (c:IE) (b:ISs) (hb:OkSs Γ p b):OkS Γ p (.whl c b):=by
 intro M X x L h;obtain ⟨t,y,q,rfl,hh⟩:=zgq h
 .have h:=hh;have hp:PassesOwn (model X.prog X.w) X.A X.env X.xe:=by rw [L.fits.xe];exact Zcq
  refine (zar hp (kU g c M X t L h.1).2.1 (hb M X y L h.2)).imp fun D τ H hq=>?_;obtain ⟨σ,G,D3,hs,ab,f,Pv,⟨m0,p0⟩,step⟩:=hq;refine ⟨fun m τ H'=>yK X.K H H'/\∃ σ G,yY X.K H' σ τ/\xP X.K H' G/\Pv m σ G,⟨m0,.refl,σ,G,hs,ab,p0⟩,?_⟩;rintro m τ1 H1 ⟨g1,σ1,G1,hs1,a1,p1⟩;refine tF (vK g.mono XN c) hs1 a1 (step m σ1 G1 p1) fun k G2 H2 g2 hs2 a2 hq=>?_
  split
  .rename_i hk;rw [if_pos hk] at hq;refine ⟨fun τ' H'=>∃ m',m' < m/\yK X.K H H'/\∃ σ G,yY X.K H' σ τ'/\xP X.K H' G/\Pv m' σ G,fun τ' H' z=>z,?_⟩;refine ⟨σ1,G2,_,hs2,a2,⟨?_,?_,?_,?_⟩,hq⟩
   .rintro σ3 G3 τ3 H3 g3 hs3 a3 ⟨m',hm,p'⟩;exact ⟨m',hm,g1.trans (g2.trans g3),σ3,G3,hs3,a3,p'⟩
   .exact fun σ3 G3 τ3 H3 g3 hs3 a3 z=>f.nx σ3 G3 τ3 H3 (g1.trans (g2.trans g3)) hs3 a3 z
   .rintro σ3 G3 τ3 H3 g3 hs3 a3 ⟨m',hm,p'⟩;exact ⟨m',hm,g1.trans (g2.trans g3),σ3,G3,hs3,a3,p'⟩
   .exact fun w G3 v3 H3 g3 r3 a3 z=>f.rt w G3 v3 H3 (g1.trans (g2.trans g3)) r3 a3 z
  .rename_i hk;rw [if_neg hk] at hq;exact f.nx σ1 G2 τ1 H2 (g1.trans g2) hs2 a2 hq
theorem zhA (tg:ITg) (it:II) (b:ISs) (hb:OkSs Γ p b):OkS Γ p (.for tg it b):=by
 intro M X x L h;obtain ⟨t,y,z,q,rfl,h1,h2,h3,h4⟩:=zgu h
 .
  have hp:PassesOwn (model X.prog X.w) X.A X.env X.xe:=by rw [L.fits.xe];exact Zcq
  refine (zeR hp L.fits.calm (sndI g it M X y L h3 t) (sndG L tg t h2) (hb M X z L h4) (sI h1)).imp fun D τ H hq=>?_;obtain ⟨σ,G,D3,hs,ab,f,hq⟩:=hq;refine ⟨σ,G,hs,ab,zge g.mono XN it σ G _ _ (fun items stab G1 hq J H1 g1 a1 ii=>?_) hq⟩;obtain ⟨Pv,p0,pst,step,fin⟩:=hq;refine ⟨fun i m τ H'=>m+i=items.length/\yK X.K H1 H'/\∃ σ G,yY X.K H' σ τ/\xP X.K H' G/\Pv i σ G,⟨items.length,rfl,.refl,σ,G1,hs.mono g1,a1,p0⟩,?_⟩;rintro i m τ2 H2 ⟨hm,g2,σ2,G2,hs2,a2,p2⟩;have st:=pst i σ2 G2 p2 (by omega)
  by_cases hi:i<items.length
  .refine .inr ⟨ii.go i H2 G2 g2 a2 st hi,fun τ' H'=>∃ m',m' < m/\(m'+(i+1)=items.length/\yK X.K H1 H'/\∃ σ G,yY X.K H' σ τ'/\xP X.K H' G/\Pv (i+1) σ G),fun τ' H' z=>z,fun x H' yl=>?_⟩;obtain ⟨w,ew,g3,rp,a3⟩:=ii.yld i H2 G2 x H' g2 a2 st hi yl;refine ⟨w,σ2,G2,rp,hs2.mono g3,a3,tQ tg w σ2 G2 _ _ (fun σ4 G4 hq τ4 H4 g4 hs4 a4=>?_) (step i w σ2 G2 ew p2)⟩;refine ⟨σ4,G4,_,hs4,a4,⟨?_,?_,?_,?_⟩,hq⟩
   .exact fun σ5 G5 τ5 H5 g5 hs5 a5 z=>⟨m-1,by omega,by omega,g2.trans (g3.trans (g4.trans g5)),σ5,G5,hs5,a5,z⟩
   .exact fun σ5 G5 τ5 H5 g5 hs5 a5 z=>f.nx σ5 G5 τ5 H5 (g1.trans (g2.trans (g3.trans (g4.trans g5)))) hs5 a5 z
   .exact fun σ5 G5 τ5 H5 g5 hs5 a5 z=>⟨m-1,by omega,by omega,g2.trans (g3.trans (g4.trans g5)),σ5,G5,hs5,a5,z⟩
   .exact fun w5 G5 v5 H5 g5 r5 a5 z=>f.rt w5 G5 v5 H5 (g1.trans (g2.trans (g3.trans (g4.trans g5)))) r5 a5 z
  .have ei:i=items.length:=by omega
   subst ei;exact .inl ⟨ii.stop _ H2 G2 g2 a2 st (zzR _),f.nx σ2 G2 τ2 H2 (g1.trans g2) hs2 a2 (fin σ2 G2 p2)⟩
theorem zbB (s:ISs):OkSs Γ p s :=
 ISs.rec (motive_1:=OkS Γ p) (motive_2:=OkSs Γ p) (zhB g) (zeF g) (zeH g) (zeI g) (t_ex g) (zhy g) (wN g).1 (wN g).2.1 (wN g).2.2.1 (wN g).2.2.2.1
  (fun c a b ha hb=>zhz g c a b ha hb) (fun c b hb=>zhx g c b hb) (fun tg it b hb=>zhA g tg it b hb) (wN g).2.2.2.2 (zeG g)
  (fun M X x L h=>by
   cases zgs h;exact zbQ.imp fun D τ H hq=>by obtain ⟨σ,G,D3,hs,ab,f,hq⟩:=hq;exact f.nx σ G τ H .refl hs ab hq)
  (fun s ss hs1 hs2 M X x L h=>by
   obtain ⟨y,ys,rfl,hh⟩:=zd4 h
   .have h:=hh;refine (zaq (hs1 M X y L h.1) (hs2 M X ys L h.2)).imp fun D τ H hq=>?_;obtain ⟨σ,G,D3,hs,ab,f,hq⟩:=hq;refine ⟨σ,G,{ D3 with nx:=yW Γ XN ss D3 },hs,ab,⟨?_,f.bk,f.ct,f.rt⟩,hq⟩;exact fun σ2 G2 τ2 H2 g2 hs2 a2 z=>⟨σ2,G2,D3,hs2,a2,f.grow g2,z⟩) s
end
end L3
namespace PySem
open Sem (wp)
section
variable {prog : Program} {w : World} {A : Around} {E : Value → Shared → Prop} {s : Shared}
def itc (b:Bool):String:=if b then "tuple_iterator" else "list_iterator"
def sE (b:Bool) (h:Heap) (i l:Addr) (k:Nat):Prop:=∃ o,h.get? i=some o/\o.cls=.type (itc b)/\o.data=.fields #[.ref l,.int k 0]
def rF (b:Bool) (h:Heap) (l:Addr) (its:Array Value):Prop:=match b with
 |true=>h.IsTuple l its
 |false=>h.IsList l its
theorem sE.at {b:Bool} {h h':Heap} {i l:Addr} {k:Nat} (x:sE b h i l k) (e:∀ o,h.get? i=some o->h'.get? i=some o):sE b h' i l k:=let ⟨o,ho,r⟩:=x;⟨o,e _ ho,r⟩
theorem rF.at {b:Bool} {h h':Heap} {l:Addr} {its:Array Value} (x:rF b h l its) (e:∀ o,h.get? l=some o->h'.get? l=some o):rF b h' l its:=by
 cases b
 .obtain ⟨o,ho,r⟩:=x;exact ⟨o,e _ ho,r⟩
 .obtain ⟨o,ho,r⟩:=x;exact ⟨o,e _ ho,r⟩
theorem sE.eb {b:Bool} {h h':Heap} {i l c:Addr} {k:Nat} (x:sE b h i l k) (e:Heap.ExtBut c h h') (n:i≠c):sE b h' i l k:=x.at fun o q=>e _ o n q
theorem rF.eb {b:Bool} {h h':Heap} {l c:Addr} {its:Array Value} (x:rF b h l its) (e:Heap.ExtBut c h h') (n:l≠c):rF b h' l its:=x.at fun o q=>e _ o n q
theorem pN {b:Bool} {l:Addr} {its:Array Value} {Q:Value->Shared->Prop} (h:rF b s.heap l its)
  (hQ:Q (.ref s.heap.objs.size) { s with heap:=s.heap.push { cls:=.type (itc b),data:=.fields #[.ref l,.int 0 0] } }):wpAny (model prog w) A (pyIter (.ref l)) Q E s:=by
 cases b
 .exact ZbA h hQ
 .exact ZbY h hQ
abbrev drawIt (it : Addr) : Sem Value := Builtin.SmallTypes.nextOf (.ref it)
theorem tit_in {it : Addr} {Q : Value → Shared → Prop} (ty : s.TypeIs (.ref it) "tuple_iterator")
    (h : wpAny (model prog w) A.in1 (Builtin.«tuple_iterator.__next__» ⟨[.ref it], []⟩) (fun f s' => ∃ v, f = .done (.ret v) ∧ Q v s') E s) :
    wpAny (model prog w) A (drawIt it) Q E s := by
  have sl := F.slot_tuple_iterator_next
  apply Za
  apply ZJ ty sl
  apply wpAny_call_entry sl ty F.entry_tuple_iterator_next _ (F.args_tuple_iterator_next_1 _)
  exact ZN h (fun _ _ ⟨v, e, q⟩ => ⟨v, e, Zc q⟩) fun _ _ e => e
theorem rO {it t : Addr} {i : Nat} {items} {x : Value} {Q : Value → Shared → Prop} (hit : s.heap.IsTupleIter it t i) (ht : s.heap.IsTuple t items) (hx : items[i]? = some x)
    (hQ : ∀ h', h'.IsTupleIter it t (i + 1) → Heap.SameBut it s.heap h' → Q x { s with heap := h' }) :
    wpAny (model prog w) A (drawIt it) Q E s := by
  apply tit_in hit.typeIs
  obtain ⟨⟨c, di, da, sl⟩, g1, c1, d1⟩ := hit
  obtain ⟨⟨c2, di2, da2, sl2⟩, g2, c2', n2, d2⟩ := ht
  cases c1; cases d1; cases d2
  obtain ⟨hp, ge, dr, tk, os⟩ := s
  wp_walk using wpAny_loadPart' g2, wpAny_loadPart' g1
  rw [Int.toNat_natCast, hx]
  wp_walk using wpAny_loadPart' g1
  refine ⟨x, rfl, hQ _ ⟨_, Heap.get?_update_self _ g1 rfl, rfl, ?_⟩ (.update ..)⟩
  exact congrArg (fun z => Data.fields #[.ref t, z]) rfl
theorem pT {it t : Addr} {i : Nat} {items} {Q : Value → Shared → Prop} (hh : A.handled = none) (hit : s.heap.IsTupleIter it t i) (ht : s.heap.IsTuple t items) (hx : items[i]? = none)
    (hE : ∀ g e, Heap.ExtBut it s.heap g → (∃ o, g.get? e = some o ∧ o.cls = .type "StopIteration") → E (.ref e) { s with heap := g }) :
    wpAny (model prog w) A (drawIt it) Q E s := by
  apply tit_in hit.typeIs
  obtain ⟨⟨c, di, da, sl⟩, g1, c1, d1⟩ := hit
  obtain ⟨⟨c2, di2, da2, sl2⟩, g2, c2', n2, d2⟩ := ht
  cases c1; cases d1; cases d2
  obtain ⟨hp, ge, dr, tk, os⟩ := s
  have hh' : A.in1.handled = none := hh
  wp_walk using wpAny_loadPart' g2, wpAny_loadPart' g1
  rw [Int.toNat_natCast, hx]
  wp_walk using wpAny_loadPart' g1
  unfold raiseNew
  wp_walk
  exact hE _ _ (fun b o n z => Heap.get?_push_of_some _ (Heap.get?_push_of_some _ ((Heap.SameBut.update ..).extBut b o n z))) ⟨_, Heap.get?_push_size _ rfl, rfl⟩
theorem qG {b:Bool} {it l:Addr} {i:Nat} {items:Array Value} {x:Value} {Q:Value->Shared->Prop} (hit:sE b s.heap it l i) (hl:rF b s.heap l items) (hx:items[i]?=some x)
  (hQ:∀ h',sE b h' it l (i+1)->Heap.SameBut it s.heap h'->Q x { s with heap:=h' }):wpAny (model prog w) A (Builtin.SmallTypes.nextOf (.ref it)) Q E s:=by
 cases b
 .exact wpAny_nextOf_list_item hit hl hx hQ
 .exact rO hit hl hx hQ
theorem rC {b:Bool} {it l:Addr} {i:Nat} {items:Array Value} {Q:Value->Shared->Prop} (hh:A.handled=none) (hit:sE b s.heap it l i) (hl:rF b s.heap l items) (hx:items[i]?=none)
  (hE:∀ h' e,Heap.ExtBut it s.heap h'->(∃ o,h'.get? e=some o/\o.cls=.type "StopIteration")->E (.ref e) { s with heap:=h' }):wpAny (model prog w) A (Builtin.SmallTypes.nextOf (.ref it)) Q E s:=by
 cases b
 .exact wpAny_nextOf_list_end hh hit hl hx hE
 .exact pT hh hit hl hx hE
abbrev bR (h:Heap) (z TI TO:Addr) (f0 f1:Value):Prop :=
 h.get? z=some { cls:=.type "zip", dict:=none,data:=.fields #[f0,f1,.bool false,.ref TI,.ref TO],slots:=#[] }
end
abbrev zpH1 (a:Bool) (h:Heap) (l1:Addr):Heap:=h.push { cls:=.type (itc a),data:=.fields #[.ref l1,.int 0 0] }
abbrev zpH2 (a b:Bool) (h:Heap) (l1 l2:Addr):Heap:=(zpH1 a h l1).push { cls:=.type (itc b),data:=.fields #[.ref l2,.int 0 0] }
abbrev zpH3 (a b:Bool) (h:Heap) (l1 l2:Addr):Heap:=(zpH2 a b h l1 l2).push { cls:=.type "tuple", data:=.seq #[.ref h.objs.size,.ref (zpH1 a h l1).objs.size] }
abbrev zpH4 (a b:Bool) (h:Heap) (l1 l2:Addr):Heap:=(zpH3 a b h l1 l2).push { cls:=.type "tuple", data:=.seq #[.none,.none] }
abbrev zpH5 (a b:Bool) (h:Heap) (l1 l2:Addr):Heap:=(zpH4 a b h l1 l2).push { cls:=.type "zip", data:=.fields #[.none,.bool false,.bool false,.ref (zpH2 a b h l1 l2).objs.size,.ref (zpH3 a b h l1 l2).objs.size] }
theorem dF (a b:Bool) (l1 l2:Addr) (xs ys:Array Value) :
  Meets (Builtin.«zip.__new__» ⟨[.type "zip", .ref l1,.ref l2],[]⟩) (fun _ R s=>rF a s.heap l1 xs/\rF b s.heap l2 ys /\
   R (.ok (.ret (.ref (zpH4 a b s.heap l1 l2).objs.size))) { s with heap:=zpH5 a b s.heap l1 l2 }) :=
 .of_wp fun prog w A R s h=>by
  obtain ⟨hp,g,d,tk,os⟩:=s;obtain ⟨hl1,hl2,h⟩:=h;have hsub:=sub_zip;have hL1:rF a (Shared.heap ⟨hp,g,d,tk,os⟩) l1 xs:=hl1;have hL2:rF b (Shared.heap ⟨hp.push { cls:=.type (itc a),data:=.fields #[.ref l1,.int 0 0] },g,d,tk,os⟩) l2 ys:=hl2.at fun o e=>Zb _ e
  wp_walk using pN hL1,pN hL2
  exact ⟨_,rfl,h⟩
section
variable {prog : Program} {w : World} {A : Around} {E : Value → Shared → Prop} {s : Shared}
theorem zhe {a b:Bool} {l1 l2:Addr} {xs ys:Array Value} {Q:Value->Shared->Prop} (hl1:rF a s.heap l1 xs) (hl2:rF b s.heap l2 ys)
  (h:∀ h',bR h' (s.heap.objs.size+4) (s.heap.objs.size+2) (s.heap.objs.size+3) .none (.bool false)->IsPair h' (s.heap.objs.size+2) (.ref s.heap.objs.size) (.ref (s.heap.objs.size+1)) ->
   IsPair h' (s.heap.objs.size+3) .none .none->sE a h' s.heap.objs.size l1 0->sE b h' (s.heap.objs.size+1) l2 0->h'.objs.size=s.heap.objs.size+5 ->
   (∀ c o,s.heap.get? c=some o->h'.get? c=some o)->Q (.ref (s.heap.objs.size+4)) { s with heap:=h' }) :
  wpAny (model prog w) A (call (.type "zip") [.ref l1,.ref l2]) Q E s:=by
 refine callType_new F.called_zip (by decide) (F.typeCall_zip_2 _ _) (F.newCall_zip_2 _ _) (fun obj=>F.args_object_init_3 obj _ _) F.entry_zip_new
  (dF a b l1 l2 xs ys) ⟨hl1,hl2,?_⟩
 have z1:(zpH1 a s.heap l1).objs.size=s.heap.objs.size+1:=ZF ..;have z2:(zpH2 a b s.heap l1 l2).objs.size=s.heap.objs.size+2:=by rw [ZF,z1]
 have z3:(zpH3 a b s.heap l1 l2).objs.size=s.heap.objs.size+3:=by rw [ZF,z2]
 have z4:(zpH4 a b s.heap l1 l2).objs.size=s.heap.objs.size+4:=by rw [ZF,z3]
 have z5:(zpH5 a b s.heap l1 l2).objs.size=s.heap.objs.size+5:=by rw [ZF,z4]
 have g5:(zpH5 a b s.heap l1 l2).get? (zpH4 a b s.heap l1 l2).objs.size=some _:=Zd _ rfl;have g4:(zpH5 a b s.heap l1 l2).get? (zpH3 a b s.heap l1 l2).objs.size=some _:=Zb _ (Zd _ rfl);have g3:(zpH5 a b s.heap l1 l2).get? (zpH2 a b s.heap l1 l2).objs.size=some _:=Zb _ (Zb _ (Zd _ rfl));have g2:(zpH5 a b s.heap l1 l2).get? (zpH1 a s.heap l1).objs.size=some _:=Zb _ (Zb _ (Zb _ (Zd _ rfl)));have g1:(zpH5 a b s.heap l1 l2).get? s.heap.objs.size=some _:=Zb _ (Zb _ (Zb _ (Zb _ (Zd _ rfl))));show _/\_;rw [z2,z3,z4] at g5;rw [z1,z2] at g3;rw [z3] at g4;rw [z1] at g2;rw [z4]
 exact ⟨⟨_,g5,rfl⟩,h _ g5 g3 g4 ⟨_,g1,rfl,rfl⟩ ⟨_,g2,rfl,rfl⟩ z5 fun c o x =>
  Zb _ (Zb _ (Zb _ (Zb _ (Zb _ x))))⟩
end
end PySem
namespace PySem
open Sem (wp)
section
variable {prog : Program} {w : World} {A : Around} {E : Value → Shared → Prop} {s : Shared}
theorem jJ {M : Model} {a : Addr} {Q : Option Obj → Shared → Prop} (h : Q (s.heap.get? a) s) : wpAny M A (loadIfAlive a) Q E s := fun Γ p hΓ => by
  unfold loadIfAlive
  rw [Sem.wp_loadIfAlive]
  exact Zc h Γ p hΓ
abbrev zTurn (z : Addr) : Sem Fin := Builtin.«zip.__next__» ⟨[.ref z], []⟩
abbrev zTold (Q : Value → Shared → Prop) (f : Fin) (s : Shared) : Prop := ∃ v, f = .done (.ret v) ∧ Q v s
abbrev But4 (z TO i1 i2 : Addr) (h h' : Heap) : Prop := ∀ c o, c ≠ z → c ≠ TO → c ≠ i1 → c ≠ i2 → h.get? c = some o → h'.get? c = some o
abbrev IsStop (h : Heap) (e : Addr) : Prop := ∃ o, h.get? e = some o ∧ o.cls = .type "StopIteration"
def Stp (p : Prop) : Prop := p
theorem stp_next {M : Model} {v : Value} {Q : Value → Shared → Prop} (h : Stp (wpAny M A (Builtin.SmallTypes.nextOf v) Q E s)) : wpAny M A (Builtin.SmallTypes.nextOf v) Q E s := h
theorem own_free {z TI TO : Addr} {f0 f1 : Value} {Q : Bool → Shared → Prop} (hz : bR s.heap z TI TO f0 f1) (hfr : f0 = .none ∨ ∃ T : Addr, f0 = rawInt T ∧ s.heap.get? T = none) (h : Q true s) :
    wpAny (model prog w) A (Builtin.SmallTypes.ownedTupleIsFree (.ref z)) Q E s := by
  obtain ⟨hp, ge, dr, tk, os⟩ := s
  obtain rfl | ⟨T, rfl, d⟩ := hfr <;> wp_walk using jJ <;> exact h
theorem own_held {z TI TO T : Addr} {f1 : Value} {o : Obj} {Q : Bool → Shared → Prop} (hz : bR s.heap z TI TO (rawInt T) f1) (hf : f1 = .bool false ∨ f1 = .bool true) (hT : s.heap.get? T = some o)
    (h : ∀ h', bR h' z TI TO (rawInt T) (.bool true) → Heap.SameBut z s.heap h' → Q false { s with heap := h' }) :
    wpAny (model prog w) A (Builtin.SmallTypes.ownedTupleIsFree (.ref z)) Q E s := by
  obtain ⟨hp, ge, dr, tk, os⟩ := s
  obtain rfl | rfl := hf <;> wp_walk using jJ
  · exact h _ (Heap.get?_update_self _ hz rfl) (.update ..)
  · exact h _ hz (.refl ..)
theorem zfh {a b : Bool} {z TI TO i1 i2 l1 l2 : Addr} {k1 k2 : Nat} {xs ys : Array Value} {x y u v f0 f1 : Value} {Q : Value → Shared → Prop} (D : ZipApart z TI TO i1 i2 l1 l2)
    (hfr : f0 = .none ∨ ∃ T : Addr, f0 = rawInt T ∧ s.heap.get? T = none) (hz : bR s.heap z TI TO f0 f1) (hTI : IsPair s.heap TI (.ref i1) (.ref i2)) (hTO : IsPair s.heap TO u v)
    (h1 : sE a s.heap i1 l1 k1) (h2i : sE b s.heap i2 l2 k2) (hl1 : rF a s.heap l1 xs) (hl2 : rF b s.heap l2 ys) (hx : xs[k1]? = some x) (hy : ys[k2]? = some y)
    (hQ : ∀ h', bR h' z TI TO (rawInt s.heap.objs.size) (.bool false) → IsPair h' TO x y → sE a h' i1 l1 (k1 + 1) → sE b h' i2 l2 (k2 + 1) → IsPair h' s.heap.objs.size x y → h'.objs.size = s.heap.objs.size + 1 →
      But4 z TO i1 i2 s.heap h' → Q (.ref s.heap.objs.size) { s with heap := h' }) :
    wpAny (model prog w) A (zTurn z) (zTold Q) E s := by
  wp_walk using stp_next, own_free hz hfr, Zcd
  have b1 := (Heap.SameBut.update (h := s.heap) (a := z) (f := Obj.mapFields fun x => x.setIfInBounds 0 .ellipsis)).extBut
  refine qG (h1.eb b1 D.i1z) (hl1.eb b1 D.l1z) hx fun h2 q1 k2 => ?_
  have t2 : IsPair h2 TO u v := k2.extBut _ _ D.TOi1 (b1 _ _ D.TOz hTO)
  have z2 : bR h2 z TI TO .ellipsis f1 := k2.extBut _ _ D.i1z.symm (Heap.get?_update_self _ hz rfl)
  wp_walk using stp_next, Zcd
  have b3 := (Heap.SameBut.update h2 TO (Obj.mapSeq fun e => e.setIfInBounds 0 x)).extBut
  have c3 : ∀ c o, c ≠ z → c ≠ TO → c ≠ i1 → s.heap.get? c = some o → (h2.update TO (Obj.mapSeq fun e => e.setIfInBounds 0 x)).get? c = some o := fun c o n1 n2 n3 e => b3 _ _ n2 (k2.extBut _ _ n3 (b1 _ _ n1 e))
  refine qG (h2i.at fun o e => c3 _ o D.i2z D.TOi2.symm D.i12.symm e) (hl2.at fun o e => c3 _ o D.l2z D.l2TO D.l2i1 e) hy fun h4 q2 k4 => ?_
  have t4 : IsPair h4 TO x v := k4.extBut _ _ D.TOi2 (Heap.get?_update_self _ t2 rfl)
  have z4 : bR h4 z TI TO .ellipsis f1 := k4.extBut _ _ D.i2z.symm (b3 _ _ D.TOz.symm z2)
  have n1 := D.TOz
  wp_walk
  have b5 := (Heap.SameBut.update h4 TO (Obj.mapSeq fun e => e.setIfInBounds (0 + 1) y)).extBut
  have t5 : IsPair (h4.update TO (Obj.mapSeq fun e => e.setIfInBounds (0 + 1) y)) TO x y := Heap.get?_update_self _ t4 rfl
  have z5 := b5 _ _ n1.symm z4
  have m5 : (h4.update TO (Obj.mapSeq fun e => e.setIfInBounds (0 + 1) y)).objs.size = s.heap.objs.size := by rw [Heap.size_after_update, k4.1, Heap.size_after_update, k2.1, Heap.size_after_update]
  have c5 : ∀ c o, c ≠ z → c ≠ TO → c ≠ i1 → c ≠ i2 → s.heap.get? c = some o → (h4.update TO (Obj.mapSeq fun e => e.setIfInBounds (0 + 1) y)).get? c = some o := fun c o n1 n2 n3 n4 e => b5 _ _ n2 (k4.extBut _ _ n4 (c3 _ _ n1 n2 n3 e))
  have q15 := ((q1.eb b3 D.TOi1.symm).eb k4.extBut D.i12).eb b5 D.TOi1.symm
  have q25 := q2.eb b5 D.TOi2.symm
  generalize h4.update TO (Obj.mapSeq fun e => e.setIfInBounds (0 + 1) y) = h5 at *
  rw [m5]
  have b6 : ∀ c o, c ≠ z → h5.get? c = some o → (((h5.push { cls := .type "tuple", data := .seq #[x, y] }).update z (Obj.mapFields fun e => e.setIfInBounds 0 (rawInt s.heap.objs.size))).update z (Obj.mapFields fun e => e.setIfInBounds 1 (.bool false))).get? c = some o :=
    fun c o n e => (Heap.SameBut.update ..).extBut _ _ n ((Heap.SameBut.update ..).extBut _ _ n (Heap.get?_push_of_some _ e))
  refine ⟨_, rfl, hQ _ (Heap.get?_update_self _ (Heap.get?_update_self _ (Heap.get?_push_of_some _ z5) rfl) rfl) (b6 _ _ n1 t5) (q15.at fun o e => b6 _ o D.i1z e) (q25.at fun o e => b6 _ o D.i2z e) ?_ ?_ fun c o n1 n2 n3 n4 e => b6 c o n1 (c5 c o n1 n2 n3 n4 e)⟩
  · have := Heap.lt_size z5
    rw [m5] at this
    refine (Heap.SameBut.update ..).extBut _ _ (Nat.ne_of_gt this) ((Heap.SameBut.update ..).extBut _ _ (Nat.ne_of_gt this) ?_)
    exact m5 ▸ Heap.get?_push_size _ rfl
  · rw [Heap.size_after_update, Heap.size_after_update, Heap.size_push, m5]
theorem zfg {a b : Bool} {z TI TO i1 i2 l1 l2 T : Addr} {k1 k2 : Nat} {xs ys : Array Value} {x y u v f1 : Value} {oT : Obj} {Q : Value → Shared → Prop} (D : ZipApart z TI TO i1 i2 l1 l2) (hf : f1 = .bool false ∨ f1 = .bool true)
    (hz : bR s.heap z TI TO (rawInt T) f1) (hT : s.heap.get? T = some oT) (hTI : IsPair s.heap TI (.ref i1) (.ref i2)) (hTO : IsPair s.heap TO u v)
    (h1 : sE a s.heap i1 l1 k1) (h2i : sE b s.heap i2 l2 k2) (hl1 : rF a s.heap l1 xs) (hl2 : rF b s.heap l2 ys) (hx : xs[k1]? = some x) (hy : ys[k2]? = some y)
    (hQ : ∀ h', bR h' z TI TO (rawInt T) (.bool true) → sE a h' i1 l1 (k1 + 1) → sE b h' i2 l2 (k2 + 1) → IsPair h' s.heap.objs.size x y → h'.objs.size = s.heap.objs.size + 1 →
      (∀ c o, c ≠ z → c ≠ i1 → c ≠ i2 → s.heap.get? c = some o → h'.get? c = some o) → Q (.ref s.heap.objs.size) { s with heap := h' }) :
    wpAny (model prog w) A (zTurn z) (zTold Q) E s := by
  wp_walk using stp_next, own_held hz hf hT
  intro g z1 j1
  wp_walk using stp_next
  refine qG (h1.eb j1.extBut D.i1z) (hl1.eb j1.extBut D.l1z) hx fun h2 q1 k2 => ?_
  wp_walk using stp_next
  have c2 : ∀ c o, c ≠ z → c ≠ i1 → s.heap.get? c = some o → h2.get? c = some o := fun c o n1 n2 e => k2.extBut _ _ n2 (j1.extBut _ _ n1 e)
  refine qG (h2i.at fun o e => c2 _ o D.i2z D.i12.symm e) (hl2.at fun o e => c2 _ o D.l2z D.l2i1 e) hy fun h3 q2 k3 => ?_
  wp_walk
  have m : h3.objs.size = s.heap.objs.size := by rw [k3.1, k2.1, j1.1]
  have p : ∀ c o, h3.get? c = some o → (h3.push { cls := .type "tuple", data := .seq #[x, y] }).get? c = some o := fun c o e => Heap.get?_push_of_some _ e
  rw [m]
  refine ⟨_, rfl, hQ _ (p _ _ (k3.extBut _ _ D.i2z.symm (k2.extBut _ _ D.i1z.symm z1))) ((q1.eb k3.extBut D.i12).at (p _)) (q2.at (p _)) ?_ ?_ fun c o n1 n2 n3 e => p _ _ (k3.extBut _ _ n3 (c2 _ _ n1 n2 e))⟩
  · exact m ▸ Heap.get?_push_size _ rfl
  · rw [Heap.size_push, m]
theorem sD {a b : Bool} {z TI TO i1 i2 l1 l2 : Addr} {k1 k2 : Nat} {xs ys : Array Value} {u v f0 f1 : Value} {Q : Fin → Shared → Prop} (hh : A.handled = none) (D : ZipApart z TI TO i1 i2 l1 l2)
    (hfr : f0 = .none ∨ ∃ T : Addr, f0 = rawInt T ∧ s.heap.get? T = none) (hz : bR s.heap z TI TO f0 f1) (hTI : IsPair s.heap TI (.ref i1) (.ref i2)) (hTO : IsPair s.heap TO u v)
    (h1 : sE a s.heap i1 l1 k1) (h2i : sE b s.heap i2 l2 k2) (hl1 : rF a s.heap l1 xs) (hl2 : rF b s.heap l2 ys) (hend : xs[k1]? = none ∨ ys[k2]? = none)
    (hE : ∀ h' e, But4 z TO i1 i2 s.heap h' → IsStop h' e → E (.ref e) { s with heap := h' }) :
    wpAny (model prog w) A (zTurn z) Q E s := by
  wp_walk using stp_next, own_free hz hfr, Zcd
  have b1 := (Heap.SameBut.update (h := s.heap) (a := z) (f := Obj.mapFields fun x => x.setIfInBounds 0 .ellipsis)).extBut
  have z1 : bR (s.heap.update z (Obj.mapFields fun x => x.setIfInBounds 0 .ellipsis)) z TI TO .ellipsis f1 := Heap.get?_update_self _ hz rfl
  have fin : ∀ (g : Heap) e, bR g z TI TO .ellipsis f1 → (∃ o, g.get? e = some o ∧ o.cls = .type "StopIteration") →
      ∃ o, (g.update z (Obj.mapFields fun x => x.setIfInBounds 0 .none)).get? e = some o ∧ o.cls = .type "StopIteration" := by
    rintro g e zg ⟨o, he, ce⟩
    refine ⟨o, (Heap.SameBut.update ..).extBut _ _ ?_ he, ce⟩
    rintro rfl
    cases he.symm.trans zg
    simp at ce
  cases hx : xs[k1]? with
  | none =>
    refine rC hh (h1.eb b1 D.i1z) (hl1.eb b1 D.l1z) hx fun g e k he => ?_
    have zg : bR g z TI TO .ellipsis f1 := k _ _ D.i1z.symm z1
    wp_walk
    exact hE _ e (fun c o n1 _ n3 _ q => (Heap.SameBut.update ..).extBut _ _ n1 (k _ _ n3 (b1 _ _ n1 q))) (fin _ _ zg he)
  | some x =>
    have hy := hend.resolve_left (by rw [hx]; exact Option.some_ne_none x)
    refine qG (h1.eb b1 D.i1z) (hl1.eb b1 D.l1z) hx fun h2 q1 k2 => ?_
    have t2 : IsPair h2 TO u v := k2.extBut _ _ D.TOi1 (b1 _ _ D.TOz hTO)
    have z2 : bR h2 z TI TO .ellipsis f1 := k2.extBut _ _ D.i1z.symm z1
    wp_walk using stp_next, Zcd
    have b3 := (Heap.SameBut.update h2 TO (Obj.mapSeq fun e => e.setIfInBounds 0 x)).extBut
    have c3 : ∀ c o, c ≠ z → c ≠ TO → c ≠ i1 → s.heap.get? c = some o → (h2.update TO (Obj.mapSeq fun e => e.setIfInBounds 0 x)).get? c = some o := fun c o n1 n2 n3 e => b3 _ _ n2 (k2.extBut _ _ n3 (b1 _ _ n1 e))
    refine rC hh (h2i.at fun o e => c3 _ o D.i2z D.TOi2.symm D.i12.symm e) (hl2.at fun o e => c3 _ o D.l2z D.l2TO D.l2i1 e) hy fun g e k he => ?_
    have zg : bR g z TI TO .ellipsis f1 := k _ _ D.i2z.symm (b3 _ _ D.TOz.symm z2)
    wp_walk
    exact hE _ e (fun c o n1 n2 n3 n4 q => (Heap.SameBut.update ..).extBut _ _ n1 (k _ _ n4 (c3 _ _ n1 n2 n3 q))) (fin _ _ zg he)
theorem bQ {a b : Bool} {z TI TO i1 i2 l1 l2 T : Addr} {k1 k2 : Nat} {xs ys : Array Value} {u v f1 : Value} {oT : Obj} {Q : Fin → Shared → Prop} (hh : A.handled = none) (D : ZipApart z TI TO i1 i2 l1 l2) (hf : f1 = .bool false ∨ f1 = .bool true)
    (hz : bR s.heap z TI TO (rawInt T) f1) (hT : s.heap.get? T = some oT) (hTI : IsPair s.heap TI (.ref i1) (.ref i2)) (hTO : IsPair s.heap TO u v)
    (h1 : sE a s.heap i1 l1 k1) (h2i : sE b s.heap i2 l2 k2) (hl1 : rF a s.heap l1 xs) (hl2 : rF b s.heap l2 ys) (hend : xs[k1]? = none ∨ ys[k2]? = none)
    (hE : ∀ h' e, But4 z TO i1 i2 s.heap h' → IsStop h' e → E (.ref e) { s with heap := h' }) :
    wpAny (model prog w) A (zTurn z) Q E s := by
  wp_walk using stp_next, own_held hz hf hT
  intro g z1 j1
  wp_walk using stp_next
  cases hx : xs[k1]? with
  | none =>
    refine rC hh (h1.eb j1.extBut D.i1z) (hl1.eb j1.extBut D.l1z) hx fun g' e k he => ?_
    exact hE _ e (fun c o n1 _ n3 _ q => k _ _ n3 (j1.extBut _ _ n1 q)) he
  | some x =>
    have hy := hend.resolve_left (by rw [hx]; exact Option.some_ne_none x)
    refine qG (h1.eb j1.extBut D.i1z) (hl1.eb j1.extBut D.l1z) hx fun h2 q1 k2 => ?_
    wp_walk using stp_next
    have c2 : ∀ c o, c ≠ z → c ≠ i1 → s.heap.get? c = some o → h2.get? c = some o := fun c o n1 n2 e => k2.extBut _ _ n2 (j1.extBut _ _ n1 e)
    refine rC hh (h2i.at fun o e => c2 _ o D.i2z D.i12.symm e) (hl2.at fun o e => c2 _ o D.l2z D.l2i1 e) hy fun g' e k he => ?_
    exact hE _ e (fun c o n1 _ n3 n4 q => k _ _ n4 (c2 _ _ n1 n3 q)) he
end
end PySem
namespace L2
open PySem PySem.Spec PyProof.Rows
structure TurnL (P:Program) (w:World) (K:PySem.W.Frag) (T:String) (J:It) (fp:List Addr) (it:Addr) (tn:Nat->Heap->Prop):Prop where
 mem:it∈fp
 ty:∀ i h,tn i h->∃ o,h.get? it=some o/\o.cls=.type T
 obj:∀ i h,tn i h->∀ b∈fp,∃ o,h.get? b=some o/\∀ v,o.data≠.cell v
 keep:∀ i h h',tn i h->(∀ b∈fp,∀ o,h.get? b=some o->h'.get? b=some o)->tn i h'
 item:∀ (X:Cx),X.prog=P->X.w=w->X.K=K->X.calm=true->∀ (i:Nat) (pins:List (Addr×Obj)) (s:Shared) (σ:St) (H:Hp) (E:Value->Shared->Prop),Inv X pins σ H s->(∀ b∈fp,kF X pins H b)->tn i s.heap->J.go i H ->
  wpAny (model P w) X.A (pyNext (.ref it)) (fun r s2=>∃ u x H',r=some u/\Inv X pins σ H' s2/\zB x u/\J.yld i H x H'/\tn (i+1) s2.heap/\∀ b∈fp,H' b=none) E s
 done:∀ (X:Cx),X.prog=P->X.w=w->X.K=K->X.calm=true->∀ (i:Nat) (pins:List (Addr×Obj)) (s:Shared) (σ:St) (H:Hp) (E:Value->Shared->Prop),Inv X pins σ H s->(∀ b∈fp,kF X pins H b)->tn i s.heap->J.stop i H ->
  wpAny (model P w) X.A (pyNext (.ref it)) (fun r s1=>r=none/\Inv X pins σ H s1) E s
 self:∀ (A:Around) (i:Nat) (s:Shared) (Q:Value->Shared->Prop) (E:Value->Shared->Prop),tn i s.heap->Q (.ref it) s->wpAny (model P w) A (pyIter (.ref it)) Q E s
 hint:∀ (A:Around) (i:Nat) (s:Shared) (Q:Bool->Shared->Prop) (E:Value->Shared->Prop),tn i s.heap->(∀ b,Q b s)->wpAny (model P w) A (Builtin.List.listLengthHint (.ref it)) Q E s
abbrev Cx.atA (X:Cx) (A:Around):Cx:={ X with A:=A }
theorem Cx.Ok.atA {X:Cx} (ok:X.Ok) {A:Around} (hf:A.frames=X.A.frames) (hh:A.handled=X.A.handled):(X.atA A).Ok :=
 ⟨ok.mod,ok.kind,ok.glob,ok.blt,ok.above,ok.inj,ok.has,ok.cab,fun z=>hh.trans (ok.hd z),hf.trans ok.frames,ok.stk,ok.exf,ok.bs,ok.bsz,ok.noex,ok.exfs,ok.funs,ok.frf⟩
section
variable {X : Cx} {pins : List (Addr × Obj)} {σ : St} {H : Hp} {s : Shared}
theorem Inv.atA (I:Inv X pins σ H s) {A:Around} (hf:A.frames=X.A.frames) (hh:A.handled=X.A.handled):Inv (X.atA A) pins σ H s :=
 ⟨I.ok.atA hf hh,I.os,I.bare,I.base,I.loc,I.cell,I.free,I.freeC,I.pin,I.hok,I.len⟩
theorem Inv.unA {A:Around} (hf:A.frames=X.A.frames) (hh:A.handled=X.A.handled) (I:Inv (X.atA A) pins σ H s):Inv X pins σ H s :=
 ⟨Cx.Ok.atA (X:=X.atA A) (A:=X.A) I.ok hf.symm hh.symm,I.os,I.bare,I.base,I.loc,I.cell,I.free,I.freeC,I.pin,I.hok,I.len⟩
theorem zej {P:Program} {w:World} {A:Around} {R:Result->Shared->Prop} (S I:Addr) (res:Value) (Jn:Nat->Shared->Prop)
  (step:∀ k s,Jn k s->wpAny (model P w) A.in1 (pyNext (.ref I)) (fun r s'=>match r with
   |none=>R (.ok (.ret res)) s'
   |some v=>∃ its c,s'.heap.get? S=some (kM its c)/\its.length<sizeLine/\∀ h',Heap.SameBut S s'.heap h'->h'.get? S=some (kM (its++[v]) (c+1))->∃ k',k' < k/\Jn k' { s' with heap:=h' }) (fun e s'=>R (.error e) s') s) :
  ∀ k s,Jn k s->codeAny (model P w) A (.builtin "list.extend.loop" ⟨[.ref S,.ref I,res],[]⟩) R s:=by
 intro k
 induction k using Nat.strongRecOn with
 |_ k ih =>
  intro s j;refine Zaa F.entry_extend_loop ?_;rw [ZS Zbg _];show wpAny _ A.in1 (pyNext (.ref I) >>= _) _ _ s;refine Za (yG (step k s j) fun r s' q=>?_)
  cases r with
  |none=>exact Zc q
  |some v =>
   obtain ⟨its,c,hS,hl,q⟩:=q;show wpAny _ A.in1 (updateSeq S (·.push v) >>= _) _ _ _;refine Za ?_;obtain ⟨k',hk,j'⟩:=q _ (ZaX ..) (by exact (Zr (Obj.mapSeq (·.push v)) hS rfl).trans (by simp [Obj.mapSeq,kM]));exact ZaB hS rfl (Zc ⟨Zal Zbg _,ih k' hk _ j'⟩) (by show its.toArray.size<=sizeLine;rw [zzS];omega) (by show (its.toArray.push v).size<=sizeLine+1;rw [Array.size_push,zzS];omega)
theorem Inv.adopt {a:Addr} {o:HO} (I:Inv X pins σ H s) (off:Off X pins a) (hn:H a=none) (new:xR X.prog X.w (yH H a o) s.heap a o):Inv X pins σ (yH H a o) s:=by
 have b:=I.base;have nb:∀ b' ob,X.s₀.heap.get? b'=some ob->b'≠a:=fun b' ob e=>Zl (Zi (Zf e) off.ge);refine ⟨I.ok,I.os,I.bare,⟨b.keep,b.slot,fun c ob e n hx=>?_,b.there,fun c xs e=>?_,fun c ob u e=>?_,fun c ps e=>?_⟩,I.loc,I.cell,?_,fun x c e=>?_,fun p hp=>?_,I.hok.adopt (fun c u v _ q=>q) hn new,I.len⟩
 .rw [zR (nb c ob e)];exact b.free c ob e n hx
 .rw [zR (yR (b.tups c xs e) hn)];exact b.tups c xs e
 .rw [zR (yR (b.frzs c ob u e) hn)];exact b.frzs c ob u e
 .obtain ⟨mo,e'⟩:=b.tbls c ps e;exact ⟨mo,by rw [zR (yR e' hn)];exact e'⟩
 .rw [zR off.ne.symm];exact I.free
 .rw [zR (off.cl x c e)];exact I.freeC x c e
 .obtain ⟨q1,q2,q3⟩:=I.pin p hp;exact ⟨q1,by rw [zR (off.pn p hp)];exact q2,q3⟩
theorem zca (hc:X.calm=true) {T:String} {J:It} {fp:List Addr} {it:Addr} {tn:Nat->Heap->Prop} {Q:VK} (hTl:(Value.type T==Value.type "list")=false) (hTt:(Value.type T==Value.type "tuple")=false)
  (I:Inv X pins σ H s) (Tn:TurnL X.prog X.w X.K T J fp it tn) (t0:tn 0 s.heap) (hf:∀ b∈fp,kF X pins H b) (n:Nat) (hn:n<=sizeLine) (W:Nat->List V->Hp->Prop) (w0:W 0 [] H)
  (wgo:∀ i acc H,i<n->W i acc H->J.go i H/\∀ x H',J.yld i H x H'->W (i+1) (acc++[x]) H') (wst:∀ acc H,W n acc H->J.stop n H/\∀ p,H p=none->Q (.ref p) (yH H p (.lst acc))) :
  wpAny (model X.prog X.w) X.A (call (.type "list") [.ref it]) (EP X pins σ Q) X.xe s:=by
 have hfp:∀ b∈fp,b<s.heap.objs.size:=fun b hb=>by
  obtain ⟨o,e,_⟩:=Tn.obj _ _ t0 b hb;exact Zf e
 have hSf:∀ b∈fp,b≠s.heap.objs.size:=fun b hb=>Zl (hfp b hb);have hSI:s.heap.objs.size≠it:=(hSf it Tn.mem).symm;have off:Off X pins s.heap.objs.size:=I.off (zzR _);have nfs:s.heap.objs.size∉X.fs:=I.nofs (zzR _);have fr0:∀ b∈fp,H b=none:=fun b hb=>(hf b hb).1;have HS0:H s.heap.objs.size=none:=I.hok.fresh (zzR _)
 have fpok:∀ {H':Hp} {ob:Obj},(∀ b∈fp,H' b=none)->∀ b∈fp,kF X ((s.heap.objs.size,ob)::pins) H' b:=fun {H' ob} hn b hb=>by
  obtain ⟨q1,q2,q3,q4,q5,q6⟩:=hf b hb;refine ⟨hn b hb,q2,q3,q4,q5,fun p hp=>?_⟩;rcases Z3.mp hp with hp|hp
  .exact q6 p (Z7 _ hp)
  .rcases Zk.mp hp with rfl|hp
   .exact (hSf b hb).symm
   .exact q6 p (Zw _ hp)
 have pinS:∀ {H':Hp} {s':Shared} {its:List Value} {c:Nat},Inv X pins σ H' s'->H' s.heap.objs.size=none->s'.heap.get? s.heap.objs.size=some (kM its c)->Inv X ((s.heap.objs.size,kM its c)::pins) σ H' s':=fun {H' s' its c} I' hn e =>
  I'.pins_of fun p hp=>by
   rcases Zk.mp hp with rfl|hp
   .exact ⟨e,hn,off.ne,nfs,fun v z=>nomatch z⟩
   .exact I'.pin p (Zw _ hp)
 have unpin:∀ {H':Hp} {s':Shared} {ob:Obj},Inv X ((s.heap.objs.size,ob)::pins) σ H' s'->Inv X pins σ H' s':=fun {H' s' ob} I'=>I'.pins_of fun p hp=>I'.pin p (Zw _ (Zo _ hp))
 refine Zcu (Q₁:=fun obj s₁=>obj=.ref s.heap.objs.size/\s₁={ s with heap:=s.heap.push { cls:=.type "list", data:=.seq #[] } }) F.called_list (F.typeCall_list_1 _) F.entry_list_init
  (code_list_new _ ⟨rfl,rfl⟩) fun obj s₁ h₁=>?_
 obtain ⟨rfl,rfl⟩:=h₁;have hS:(s.heap.push { cls:=.type "list", data:=.seq #[] }).get? s.heap.objs.size=some { cls:=.type "list", data:=.seq #[] }:=Zd _ rfl;refine ⟨⟨_,hS,rfl⟩,F.args_list_init_2 _ _,?_⟩
 have loop:∀ (h':Heap) (c:Nat),h'.get? s.heap.objs.size=some (kM [] c)->(∀ b o,s.heap.get? b=some o->h'.get? b=some o) ->
   codeAny (model X.prog X.w) X.A.in1 (.builtin "list.extend.loop" ⟨[.ref s.heap.objs.size,.ref it,.none],[]⟩) (wants (fun r s₂=>r=.none/\EP X pins σ Q (.ref s.heap.objs.size) s₂) X.xe) { s with heap:=h' }:=by
  intro h' c e0 k0
  refine zej s.heap.objs.size it .none (fun k s'=>∃ i acc H' its c,k+i=n/\Inv X pins σ H' s'/\tn i s'.heap/\(∀ b∈fp,H' b=none)/\H' s.heap.objs.size=none/\s'.heap.get? s.heap.objs.size=some (kM its c)/\zE acc its/\acc.length<=i/\W i acc H') ?_ n _
   ⟨0,[],H,[],c,by omega,I.kept (t':=s.toks) k0,Tn.keep _ _ _ t0 fun b _ o e=>k0 b o e,fr0,HS0,e0,.nil,zzR _,w0⟩
  rintro k s' ⟨i,acc,H',its,c',hk,I',st,fr,hS',oS,v,la,wi⟩;have Ip:=(pinS I' hS' oS).atA (A:=X.A.in1.in1) rfl rfl
  by_cases hi:i<n
  .obtain ⟨go,yl⟩:=wgo i acc H' hi wi;refine yG (Tn.item (X.atA X.A.in1.in1) rfl rfl rfl hc i _ s' σ H' _ Ip (fpok fr) st go) fun r s2 ⟨u,x,H2,hr,I2,r2,y2,st2,fr2⟩=>?_;subst hr;have I2':=Inv.unA (X:=X) (A:=X.A.in1.in1) rfl rfl I2;have p2:=I2'.pin (s.heap.objs.size,kM its c') (Zw _ (zzT ..));refine ⟨its,c',p2.1,by rw [← v.length];omega,fun h'' sb e''=>⟨k-1,by omega,i+1,acc++[x],H2,its++[u],c'+1,by omega,off.turned (unpin I2') p2.2.1 sb,Tn.keep _ _ _ st2 fun b hb o e=>sb.extBut b o (hSf b hb) e,fr2,p2.2.1,e'',v.append (.cons r2 .nil),by rw [zzW];show acc.length+1<=i+1;omega,yl x H2 y2⟩⟩
  .have hin:i=n:=by omega
   subst hin;obtain ⟨xY,fin⟩:=wst acc H' wi;refine yG (Tn.done (X.atA X.A.in1.in1) rfl rfl rfl hc i _ s' σ H' _ Ip (fpok fr) st xY) fun r s2 ⟨hr,I2⟩=>?_;subst hr;have I2':=Inv.unA (X:=X) (A:=X.A.in1.in1) rfl rfl I2;have p2:=I2'.pin (s.heap.objs.size,kM its c') (Zw _ (zzT ..));exact ⟨rfl,.ref s.heap.objs.size,yH H' s.heap.objs.size (.lst acc),(unpin I2').adopt off hS' ⟨by omega,its,c',v,p2.1⟩,rfl,fin _ hS'⟩
 show wpAny _ X.A.in1.in1 (do let old ← Builtin.List.listItems (.ref s.heap.objs.size);Builtin.List.listUpdate (.ref s.heap.objs.size) (fun _=>#[]);letGo old.toList.reverse;Builtin.List.listExtendWith (.ref s.heap.objs.size) (.ref it) .none) _ _ _;refine Za ?_;unfold Builtin.List.listItems;refine Za (Z5 hS rfl (Zc ?_));show wpAny _ X.A.in1.in1 (updateSeq s.heap.objs.size (fun _=>#[]) >>= fun _=>letGo (#[]:Array Value).toList.reverse >>= fun _=>Builtin.List.listExtendWith (.ref s.heap.objs.size) (.ref it) .none) _ _ _;refine Za (ZaB hS rfl ?_);have hS₂:=Zr (Obj.mapSeq (fun _=>(#[]:Array Value))) hS rfl;generalize hh2:(s.heap.push { cls:=.type "list", data:=.seq #[] }).update s.heap.objs.size (Obj.mapSeq (fun _=>(#[]:Array Value)))=h2 at *
 have k2:∀ b o,s.heap.get? b=some o->h2.get? b=some o:=fun b o e=>by
  rw [← hh2,Zm _ _ (Z1 (Zf e))];exact Zb _ e
 have tn2:tn 0 h2:=Tn.keep _ _ _ t0 fun b _ o e=>k2 b o e;refine Za (Zcz ?_);unfold Builtin.List.listExtendWith;obtain ⟨oI,eI,cI⟩:=Tn.ty _ _ tn2;refine Za (Za8 (s:={ s with heap:=h2 }) ⟨oI,eI,cI⟩ ?_);have h1:Builtin.List.listSameRef (.ref s.heap.objs.size) (.ref it)=false:=by simp [Builtin.List.listSameRef,hSI]
 rw [if_neg (by rw [h1,hTl,hTt];decide)];refine Za (Tn.self _ 0 { s with heap:=h2 } _ _ tn2 ?_);refine Za (ZK (Tn.hint _ 0 { s with heap:=h2 } _ _ tn2 fun room=>?_));dsimp only
 split
 .refine Za (ZaU ?_);refine Za ?_;show wpAny _ X.A.in1.in1 (updateSeq s.heap.objs.size (·.push .none) >>= fun _=>updateSeq s.heap.objs.size (·.pop)) _ _ _;refine Za (ZaB hS₂ rfl ?_);have hS₃:=Zr (Obj.mapSeq (·.push Value.none)) hS₂ rfl;refine ZaB (hz:=by seq_fits) hS₃ rfl ?_;have hS₄:=Zr (Obj.mapSeq (·.pop)) hS₃ rfl;refine Zc ⟨Zal Zbg _,loop _ _ hS₄ fun b o e=>?_⟩;rw [Zm _ _ (Z1 (Zf e)),Zm _ _ (Z1 (Zf e))];exact k2 b o e
 .exact Zc ⟨Zal Zbg _,loop _ _ hS₂ k2⟩
end
end L2
namespace L2
open PySem PySem.Spec PyProof.Rows
def bX (b:Bool) (K:PySem.W.Frag) (H:Hp) (a:Addr) (xs:List V):Prop:=match b with
 |true=>tB K H a xs
 |false=>rQ K H a xs
theorem Inv.sqB {X:Cx} {pins:List (Addr×Obj)} {σ:St} {H:Hp} {s:Shared} {b:Bool} {a:Addr} {xs:List V} (I:Inv X pins σ H s) (h:bX b X.K H a xs):∃ its:List Value,zE xs its/\rF b s.heap a its.toArray/\xs.length<=sizeLine:=by
 cases b
 .obtain ⟨its,r,p,hz⟩:=I.list h;exact ⟨its,r,p.isList,hz⟩
 .obtain ⟨its,r,p,hz⟩:=I.tuple h;exact ⟨its,r,p,hz⟩
theorem Inv.sqB_inj {X:Cx} {pins:List (Addr×Obj)} {σ:St} {H:Hp} {s:Shared} {b:Bool} {a:Addr} {xs ys:List V} (I:Inv X pins σ H s) (h:bX b X.K H a xs) (h':bX b X.K H a ys):xs=ys:=by
 cases b
 .exact I.list_inj h h'
 .exact I.tuple_inj h h'
theorem Inv.turns {X:Cx} {pins:List (Addr×Obj)} {σ:St} {H:Hp} {s:Shared} {h':Heap} {t':Nat} {fp:List Addr} (I:Inv X pins σ H s) (hf:∀ b∈fp,kF X pins H b) (k:∀ b o,b∉fp->s.heap.get? b=some o->h'.get? b=some o):Inv X pins σ H { s with heap:=h',toks:=t' }:=by
 have nit:∀ b u,H b=some u->b∉fp:=fun b u e z=>by rw [(hf b z).1] at e;cases e
 refine I.step (g':=s.gens) (d':=s.drawn) (ch:=fp) (fun b hb=>?_) (fun b o _ _ hc e _=>k b o hc e) (fun b o _ _ hc e _=>⟨o.slots,k b o hc e⟩) (fun _ _ _ _ n=>n)
  (fun b o hc e=>⟨o,k b o hc e⟩) (fun _ _ e=>e) (fun _ _ _ e=>e) (fun b ps e=>⟨#[],by rw [e];simp⟩) (fun m hm=>?_) (fun b u e=>?_) I.bare
 .obtain ⟨_,q2,q3,q4,q5,q6⟩:=hf b hb;exact ⟨q4,q2,q5,q6⟩
 .obtain ⟨o,es,ep,ho,r⟩:=hm;exact ⟨o,es,ep,k _ o (fun z=>(hf _ z).2.1 rfl) ho,r⟩
 .refine (I.hok b u e).stay (fun c v hc q=>k c v ?_ q) (fun _ q=>q) fun _ _ q=>q;rcases hc with z|z
  .rw [z];exact nit b u e
  .exact nit c _ z
def Itz (a b:Bool) (K:PySem.W.Frag) (l1 l2:Addr):It where
 go:=fun i H=>∃ xs ys x y,bX a K H l1 xs/\bX b K H l2 ys/\xs[i]?=some x/\ys[i]?=some y
 yld:=fun i H v H'=>∃ p x y,v=.ref p/\H p=none/\H'=yH H p (.tup [x,y])/\(∀ xs,bX a K H l1 xs->xs[i]?=some x)/\∀ ys,bX b K H l2 ys->ys[i]?=some y
 stop:=fun i H=>∃ xs ys,bX a K H l1 xs/\bX b K H l2 ys/\(xs[i]?=none\/ys[i]?=none)
def vT (a b:Bool) (z TI TO i1 i2 l1 l2:Addr) (i:Nat) (h:Heap):Prop :=
 ∃ f0 f1,bR h z TI TO f0 f1/\(f0=.none\/∃ T:Addr,f0=rawInt T)/\(f1=.bool false\/f1=.bool true)/\IsPair h TI (.ref i1) (.ref i2)/\(∃ u v,IsPair h TO u v)/\sE a h i1 l1 i/\sE b h i2 l2 i
section
variable {a b : Bool} {z TI TO i1 i2 l1 l2 : Addr}
theorem vT.obj {i:Nat} {h:Heap} (x:vT a b z TI TO i1 i2 l1 l2 i h):∀ c∈[z,TI,TO,i1,i2],∃ o,h.get? c=some o/\∀ v,o.data≠.cell v:=by
 obtain ⟨f0,f1,hz,_,_,hTI,⟨u,v,hTO⟩,⟨o1,e1,_,d1⟩,⟨o2,e2,_,d2⟩⟩:=x;intro c hc;simp only [Zk,Zt,or_false] at hc;rcases hc with rfl|rfl|rfl|rfl|rfl
 .exact ⟨_,hz,fun v z=>nomatch z⟩
 .exact ⟨_,hTI,fun v z=>nomatch z⟩
 .exact ⟨_,hTO,fun v z=>nomatch z⟩
 .exact ⟨_,e1,fun v z=>by rw [d1] at z;cases z⟩
 .exact ⟨_,e2,fun v z=>by rw [d2] at z;cases z⟩
theorem vT.keep {i:Nat} {h h':Heap} (x:vT a b z TI TO i1 i2 l1 l2 i h) (k:∀ c∈[z,TI,TO,i1,i2],∀ o,h.get? c=some o->h'.get? c=some o):vT a b z TI TO i1 i2 l1 l2 i h':=by
 obtain ⟨f0,f1,hz,h0,h1,hTI,⟨u,v,hTO⟩,s1,s2⟩:=x;exact ⟨f0,f1,k z (by simp) _ hz,h0,h1,k TI (by simp) _ hTI,⟨u,v,k TO (by simp) _ hTO⟩,s1.at fun o e=>k i1 (by simp) o e,s2.at fun o e=>k i2 (by simp) o e⟩
variable {X : Cx} {pins : List (Addr × Obj)} {σ : St} {H : Hp} {s : Shared}
theorem bP (hd:[z,TI,TO,i1,i2].Nodup) (hf:∀ c∈[z,TI,TO,i1,i2],kF X pins H c) {xs ys:List V} (I:Inv X pins σ H s) (h1:bX a X.K H l1 xs) (h2:bX b X.K H l2 ys)
  (n1:l1∉[z,TI,TO,i1,i2]) (n2:l2∉[z,TI,TO,i1,i2]):ZipApart z TI TO i1 i2 l1 l2:=by
 simp only [Zaj,Zk,Zt,or_false,not_or,ZbZ,not_false_eq_true,and_true] at hd n1 n2;obtain ⟨⟨a1,a2,a3,a4⟩,⟨b1,b2,b3⟩,⟨c1,c2⟩,d1⟩:=hd;obtain ⟨m1,m2,m3,m4,m5⟩:=n1;obtain ⟨k1,k2,k3,k4,k5⟩:=n2;exact ⟨Ne.symm a1,Ne.symm a2,Ne.symm a3,Ne.symm a4,b1,b2,b3,c1,c2,d1,m1,m3,m4,m5,k1,k3,k4,k5⟩
theorem zff {E:Value->Shared->Prop} (hh:X.A.handled=none) (hd:[z,TI,TO,i1,i2].Nodup) (n1:l1∉[z,TI,TO,i1,i2]) (n2:l2∉[z,TI,TO,i1,i2]) {i:Nat} (I:Inv X pins σ H s) (hf:∀ c∈[z,TI,TO,i1,i2],kF X pins H c)
  (st:vT a b z TI TO i1 i2 l1 l2 i s.heap) (go:(Itz a b X.K l1 l2).go i H) :
  wpAny (model X.prog X.w) X.A (pyNext (.ref z)) (fun r s2=>∃ u x H',r=some u/\Inv X pins σ H' s2/\zB x u/\(Itz a b X.K l1 l2).yld i H x H'/\vT a b z TI TO i1 i2 l1 l2 (i+1) s2.heap/\(∃ T:Addr,u=.ref T/\T∉[z,TI,TO,i1,i2])/\∀ c∈[z,TI,TO,i1,i2],H' c=none) E s:=by
 obtain ⟨xs,ys,x,y,q1,q2,ex,ey⟩:=go;have D:=bP hd hf I q1 q2 n1 n2;obtain ⟨itx,vx,sx,_⟩:=I.sqB q1;obtain ⟨ity,vy,sy,_⟩:=I.sqB q2;obtain ⟨ux,eux,rx⟩:=vx.get ex;obtain ⟨uy,euy,ry⟩:=vy.get ey;have hx:itx.toArray[i]?=some ux:=by simpa using eux
 have hy:ity.toArray[i]?=some uy:=by simpa using euy
 obtain ⟨f0,f1,hz,h0,h1,hTI,⟨u,v,hTO⟩,s1,s2⟩:=id st;have hT:s.TypeIs (.ref z) "zip" := ⟨_,hz,rfl⟩
 have lt:∀ c∈[z,TI,TO,i1,i2],c<s.heap.objs.size:=fun c hc=>by
  obtain ⟨o,e,_⟩:=st.obj c hc;exact Zf e
 have new:s.heap.objs.size∉[z,TI,TO,i1,i2]:=fun hm=>Zad _ (lt _ hm)
 have fin:∀ (h':Heap),vT a b z TI TO i1 i2 l1 l2 (i+1) h'->IsPair h' s.heap.objs.size ux uy->h'.objs.size=s.heap.objs.size+1->(∀ c o,c∉[z,TI,TO,i1,i2]->s.heap.get? c=some o->h'.get? c=some o) ->
   ∃ u x H',(some (Value.ref s.heap.objs.size))=some u/\Inv X pins σ H' { s with heap:=h' }/\zB x u/\(Itz a b X.K l1 l2).yld i H x H'/\vT a b z TI TO i1 i2 l1 l2 (i+1) h'/\(∃ T:Addr,u=.ref T/\T∉[z,TI,TO,i1,i2])/\∀ c∈[z,TI,TO,i1,i2],H' c=none:=by
  intro h' st' pr sz k;have hn:H s.heap.objs.size=none:=I.hok.fresh (zzR _);have I1:Inv X pins σ H { s with heap:=h',toks:=s.toks }:=I.turns hf k;refine ⟨_,.ref s.heap.objs.size,yH H s.heap.objs.size (.tup [x,y]),rfl,?_,rfl,⟨_,x,y,rfl,hn,rfl,fun xs' q'=>by rw [I.sqB_inj q' q1];exact ex,fun ys' q'=>by rw [I.sqB_inj q' q2];exact ey⟩,st',⟨_,rfl,new⟩,fun c hc=>by rw [zR (fun e:c=s.heap.objs.size=>new (e▸hc))];exact (hf c hc).1⟩;exact I1.adopt (I.off (zzR _)) hn ⟨by show 2<=sizeLine;rw [ZD];decide,[ux,uy],.cons rx (.cons ry .nil),⟨_,pr,rfl,_,rfl⟩⟩
 unfold pyNext
 have free:(f0=.none\/∃ T:Addr,f0=rawInt T/\s.heap.get? T=none)->wpAny (model X.prog X.w) X.A.in1 (Builtin.«zip.__next__» ⟨[.ref z],[]⟩) (fun fin s'=>∃ v,fin=.done (.ret v)/\∃ u x H',some v=some u/\Inv X pins σ H' s'/\zB x u/\(Itz a b X.K l1 l2).yld i H x H'/\vT a b z TI TO i1 i2 l1 l2 (i+1) s'.heap/\(∃ T:Addr,u=.ref T/\T∉[z,TI,TO,i1,i2])/\∀ c∈[z,TI,TO,i1,i2],H' c=none) (fun _ _=>False) s:=fun hfr=>by
  refine zfh D hfr hz hTI hTO s1 s2 sx sy hx hy fun h' a1 a2 a3 a4 a5 a6 a7=>fin h' ⟨_,_,a1,.inr ⟨_,rfl⟩,.inl rfl,a7 TI _ D.TIz D.TITO D.TIi1 D.TIi2 hTI,⟨_,_,a2⟩,a3,a4⟩ a5 a6 fun c o hc e=>?_;simp only [Zk,Zt,or_false,not_or] at hc;exact a7 c o hc.1 hc.2.2.1 hc.2.2.2.1 hc.2.2.2.2 e
 have held:∀ (T:Addr) (oT:Obj),f0=rawInt T->s.heap.get? T=some oT->wpAny (model X.prog X.w) X.A.in1 (Builtin.«zip.__next__» ⟨[.ref z],[]⟩) (fun fin s'=>∃ v,fin=.done (.ret v)/\∃ u x H',some v=some u/\Inv X pins σ H' s'/\zB x u/\(Itz a b X.K l1 l2).yld i H x H'/\vT a b z TI TO i1 i2 l1 l2 (i+1) s'.heap/\(∃ T:Addr,u=.ref T/\T∉[z,TI,TO,i1,i2])/\∀ c∈[z,TI,TO,i1,i2],H' c=none) (fun _ _=>False) s:=fun T oT e0 eT=>by
  subst e0;refine zfg D h1 hz eT hTI hTO s1 s2 sx sy hx hy fun h' a1 a3 a4 a5 a6 a7=>fin h' ⟨_,_,a1,.inr ⟨_,rfl⟩,.inr rfl,a7 TI _ D.TIz D.TIi1 D.TIi2 hTI,⟨_,_,a7 TO _ D.TOz D.TOi1 D.TOi2 hTO⟩,a3,a4⟩ a5 a6 fun c o hc e=>?_;simp only [Zk,Zt,or_false,not_or] at hc;exact a7 c o hc.1 hc.2.2.2.1 hc.2.2.2.2 e
 refine Za (ZaK (ZJ (name:=Str.ofString "__next__") hT Zbo
  (ZC Zbo hT F.entry_zip_next ?_ (F.args_zip_next_1 _))))
 have all:wpAny (model X.prog X.w) X.A.in1 (Builtin.«zip.__next__» ⟨[.ref z],[]⟩) (fun fin s'=>∃ v,fin=.done (.ret v)/\∃ u x H',some v=some u/\Inv X pins σ H' s'/\zB x u/\(Itz a b X.K l1 l2).yld i H x H'/\vT a b z TI TO i1 i2 l1 l2 (i+1) s'.heap/\(∃ T:Addr,u=.ref T/\T∉[z,TI,TO,i1,i2])/\∀ c∈[z,TI,TO,i1,i2],H' c=none) (fun _ _=>False) s:=by
  rcases h0 with e0|⟨T,e0⟩
  .exact free (.inl e0)
  .cases eT:s.heap.get? T with
   |none=>exact free (.inr ⟨T,e0,eT⟩)
   |some oT=>exact held T oT e0 eT
 refine ZN all (fun fin' s' ⟨v',e',q⟩=>⟨v',e',?_⟩) (fun _ _ z=>z.elim);exact Zc q
theorem zfi {E:Value->Shared->Prop} (hh:X.A.handled=none) (hd:[z,TI,TO,i1,i2].Nodup) (n1:l1∉[z,TI,TO,i1,i2]) (n2:l2∉[z,TI,TO,i1,i2]) {i:Nat} (I:Inv X pins σ H s) (hf:∀ c∈[z,TI,TO,i1,i2],kF X pins H c)
  (st:vT a b z TI TO i1 i2 l1 l2 i s.heap) (stop:(Itz a b X.K l1 l2).stop i H) :
  wpAny (model X.prog X.w) X.A (pyNext (.ref z)) (fun r s1=>r=none/\Inv X pins σ H s1) E s:=by
 obtain ⟨xs,ys,q1,q2,he⟩:=stop;have D:=bP hd hf I q1 q2 n1 n2;obtain ⟨itx,vx,sx,_⟩:=I.sqB q1;obtain ⟨ity,vy,sy,_⟩:=I.sqB q2
 have hend:itx.toArray[i]?=none\/ity.toArray[i]?=none:=by
  rcases he with e|e
  .left;simpa using vx.none_of e
  .right;simpa using vy.none_of e
 obtain ⟨f0,f1,hz,h0,h1,hTI,⟨u,v,hTO⟩,s1,s2⟩:=id st;have hT:s.TypeIs (.ref z) "zip" := ⟨_,hz,rfl⟩;unfold pyNext
 have fin:∀ (h':Heap) (e:Addr),(∀ c o,c≠z->c≠TO->c≠i1->c≠i2->s.heap.get? c=some o->h'.get? c=some o)->(∃ o,h'.get? e=some o/\o.cls=.type "StopIteration") ->
   wpAny (model X.prog X.w) X.A (do if ← isInstance (.ref e) (.type "StopIteration") then pure none else throw (.ref e)) (fun (r:Option Value) s1=>r=none/\Inv X pins σ H s1) E { s with heap:=h' }:=fun h' e k ⟨o,ho,hc⟩=>by
  refine Za (ZaF (T := "StopIteration") (b:=true) ⟨o,ho,hc⟩ Zcw ?_);refine Zc ⟨rfl,I.turns (t':=s.toks) hf fun c o hc e=>?_⟩;simp only [Zk,Zt,or_false,not_or] at hc;exact k c o hc.1 hc.2.2.1 hc.2.2.2.1 hc.2.2.2.2 e
 refine Za (ZaK (ZJ (name:=Str.ofString "__next__") hT Zbo
  (ZC Zbo hT F.entry_zip_next ?_ (F.args_zip_next_1 _))))
 rcases h0 with e0|⟨T,e0⟩
 .exact sD hh D (.inl e0) hz hTI hTO s1 s2 sx sy hend fun h' e k he=>fin h' e k he
 .cases eT:s.heap.get? T with
  |none=>exact sD hh D (.inr ⟨T,e0,eT⟩) hz hTI hTO s1 s2 sx sy hend fun h' e k he=>fin h' e k he
  |some oT =>
   subst e0;exact bQ hh D h1 hz eT hTI hTO s1 s2 sx sy hend fun h' e k he=>fin h' e k he
theorem zbd {P:Program} {w:World} {A:Around} {i:Nat} {s:Shared} {Q:Value->Shared->Prop} {E:Value->Shared->Prop} (st:vT a b z TI TO i1 i2 l1 l2 i s.heap) (h:Q (.ref z) s):wpAny (model P w) A (pyIter (.ref z)) Q E s:=by
 obtain ⟨f0,f1,hz,_⟩:=st;have hT:s.TypeIs (.ref z) "zip" := ⟨_,hz,rfl⟩;refine ZbB hT F.slot_zip_iter (ZC F.slot_zip_iter hT F.entry_zip_iter ?_ (F.args_zip_iter_1 _));show wpAny _ _ (ret (.ref z)) _ _ s;exact Zc ⟨_,rfl, "zip", _,hT,Zbo.lookup,h⟩
end
end L2
namespace L3
open PySem PySem.Spec PyProof.Rows L2
structure Pr where
 prog:Program
 w:World
 K:zA
 mg:Str->Option Value
 base:Heap
abbrev Pr.at (q:Pr) (A:Around):Par:=⟨q.prog,q.w,q.K,q.mg,q.base,A⟩
def uK (K:zA) (sp:mU):Sp:=fun vs H Q E=>∃ ws G,zF K H ws vs/\xP K H G/\sp ws G (jK K H Q) XN
def xX (N:List Str) (ws:List W):wK:=ws.map some++List.replicate (N.length-ws.length) none
theorem sX {K:zA} {H:Hp} {N:List Str} {ws:List W} {vs:List V} (r:zF K H ws vs):yY K H (xX N ws) (L2.start N vs):=by
 have hl:=r.length;refine ⟨by simp [xX,L2.start,hl],fun i w e=>?_⟩;unfold xX at e;unfold L2.start
 by_cases hi:i<ws.length
 .rw [Zar (by simpa using hi),Zj] at e
  cases q:ws[i]? with
  |none=>rw [q] at e;cases e
  |some w' =>
   rw [q] at e;obtain rfl:w'=w:=Zz (Zz e);obtain ⟨v,ev,rp⟩:=r.get q;refine ⟨v,?_,rp⟩;rw [Zar (by simp;omega),Zj,ev];rfl
 .rw [Zan (by simp;omega),Zbq] at e
  split at e<;>cases e
structure MOk (Γ:Ctx3) (M:MC) (sc:Scope):Prop where
 sc:M.sc=sc
 own:M.own=fun _=>true
 fns:Γ.fn.map (·.nm)=M.fns
 gls:Γ.gl.map (·.1)=M.gls
 mts:Γ.mt.map (·.nm)=M.mts
 its:Γ.it.map (·.nm)=M.its
 sxs:Γ.sx.map (·.m)=M.sxm
 ixs:Γ.ix.map (·.m)=M.ixm
def FnE (p:Par) (f:Fn3):Prop:=∀ X,Fits p X->Gl X f.nm->∀ (args:List Expr) (t:A3) (q pos:Pos),qK t->args.all noStar=true->PA X args (vY X.K t)->(args=[]->∀ σ G Q,t σ G Q->Q [] G)->(f.nm==("__debug__" : Str))=false->f.nm ≠ "__name__" ->
  PE X (.Call (.Name f.nm q) args [] pos) (yA X.K fun σ G Q=>t σ G fun ws G1=>f.sp ws G1 Q XN)
theorem xV {e:Expr} {es:List Expr} {env:Env} {pos:Pos} (h:(e::es).all noStar=true):starEach (e::es) env=(false,eval e env)::starEach es env/\(backTo pos (starEach es env)).any (·.1)=false:=by
 rw [Zaq,Zp] at h;refine ⟨qO h.1,?_⟩;have h2:=h.2
 clear h
 induction es with
 |nil=>rfl
 |cons a r ih =>
  rw [Zaq,Zp] at h2;rw [qO h2.1];show (false || (backTo pos (starEach r env)).any (·.1))=false;rw [ih h2.2];rfl
theorem Fits.eq {p:Par} {X:Cx} (f:Fits p X):p=⟨X.prog,X.w,X.K,X.mg,X.base,X.A⟩:=by
 obtain ⟨e1,e2,e3,e4,e5,e6,_,_⟩:=f;rw [e1,e2,e3,e4,e5,e6]
theorem pa_sp {X:Cx} {args:List Expr} {t:A3} {sp:mU} {dws:List W} {dvs:List V} (m:qK t) (hd:∀ H,zF X.K H dws dvs) (mono:∀ ws G (Q Q':Q3),(∀ w G',Q w G'->Q' w G')->sp ws G Q XN->sp ws G Q' XN) {τ:L2.St} {H:Hp} {Q:VK} {E:XK}
  (h:yA X.K (fun σ G Q=>t σ G fun ws G1=>sp (ws++dws) G1 Q XN) τ H Q):zfC (uK X.K sp) dvs E (vY X.K t) τ H Q:=by
 obtain ⟨σ,G,hs,ab,h⟩:=h;refine uI m hs ab h fun ws G1 vs H1 g1 hs1 rs a1 h=>?_;exact ⟨ws++dws,G1,rs.append (hd H1),a1,mono _ _ _ _ (fun w G' z v' H' g'=>z v' H' (g1.trans g')) h⟩
theorem zjv {q:Pr} {k:Nat} {nm:Str} {f:Addr} {fd:FuncData} {ps:List Str} {ds:List Value} {dvs:List V} {dws:List W} {sp:mU} (FO:FnOk q.prog q.w q.K q.mg q.base CX0 k f fd ps (uK q.K sp)) (hm:q.mg nm=some (.ref f)) (hk:PySem.W.keepIn q.K (.ref f)=true)
  (hb:kY q.K fd ps ds) (hd:∀ H,zF q.K H dws dvs) (hv:zE dvs ds) (mono:∀ ws G (Q Q':Q3),(∀ w G',Q w G'->Q' w G')->sp ws G Q XN->sp ws G Q' XN) {A:Around} (hr:Room k A):FnE (q.at A) ⟨nm,fun ws G Q _=>sp (ws++dws) G Q XN⟩:=by
 intro X fits gl args t qp pos mt hn pa hnil hdb hnm;have e:=fits.eq
 injection e with e1 e2 e3 e4 e5 e6
 subst e6;rw [e1,e2,e3,e4,e5] at FO;rw [e4] at hm;rw [e3] at hk hb hd
 cases args with
 |nil =>
  refine (zdN (p:=qp) (pos:=pos) FO hr gl hm hk hb hv zf8 hdb).imp fun τ H Q h=>?_;obtain ⟨σ,G,hs,ab,h⟩:=h;have h:=hnil rfl _ _ _ h;exact ⟨dws,G,hd H,ab,h⟩
 |cons a r =>
  obtain ⟨s1,s2⟩:=xV (env:=X.env) (pos:=pos) hn;exact (zf6 (p:=qp) (pos:=pos) FO hr gl hm hk hb hv zf8 pa hdb s1 s2).imp fun τ H Q h=>pa_sp (args:=a::r) mt hd mono h
end L3
namespace L3
open PySem PySem.Spec PyProof.Rows L2 PySem.SeqAt
abbrev RS:=List W->Hw->Q3->Prop
def xE (sp:RS):Prop:=∀ ws G (Q Q':Q3),(∀ w G',Q w G'->Q' w G')->sp ws G Q->sp ws G Q'
def qQ (K:zA) (sp:RS):List V->Hp->VK->Prop:=fun vs H Q=>∃ ws G,zF K H ws vs/\xP K H G/\sp ws G (jK K H Q)
theorem tN {X:Cx} {t:A3} {sp:RS} (mt:qK t) (mono:xE sp) {τ:L2.St} {H:Hp} {Q:VK} (h:yA X.K (fun σ G Q=>t σ G fun ws G1=>sp ws G1 Q) τ H Q):tCB (qQ X.K sp) (vY X.K t) τ H Q:=by
 obtain ⟨σ,G,hs,ab,h⟩:=h;exact uI mt hs ab h fun ws G1 vs H1 g1 hs1 rs a1 h=>⟨ws,G1,rs,a1,mono _ _ _ _ (fun w G' z v' H' g'=>z v' H' (g1.trans g')) h⟩
theorem sH {q:Pr} {A:Around} {nm:Str} {id:String} {sp:RS} (hm:q.mg nm=none) (hv:bootBuiltins nm=some (.builtin id)) (hc:∀ X,Fits (q.at A) X->xD X (.builtin id) (qQ X.K sp)) (mono:xE sp) (h0:∀ G Q,¬ sp [] G Q):FnE (q.at A) ⟨nm,fun ws G Q _=>sp ws G Q⟩:=by
 intro X fits gl args t qp pos mt hn pa hnil hdb hnm;have hm':X.mg nm=none:=by rw [fits.mg];exact hm
 cases args with
 |nil=>exact fun pins s σ H Q I h=>absurd (hnil rfl _ _ _ h.choose_spec.choose_spec.2.2) (h0 _ _)
 |cons a r =>
  obtain ⟨s1,s2⟩:=xV (env:=X.env) (pos:=pos) hn;exact (zdM (p:=qp) (pos:=pos) (hc X fits) gl hm' hv pa hnm hdb s1 s2).imp fun τ H Q h=>tN mt mono h
theorem zgH {q:Pr} {A:Around} {nm:Str} {T:String} {sp:RS} (hm:q.mg nm=none) (hv:bootBuiltins nm=some (.type T)) (hc:∀ X,Fits (q.at A) X->xD X (.type T) (qQ X.K sp)) (mono:xE sp) (h0:∀ G Q,¬ sp [] G Q):FnE (q.at A) ⟨nm,fun ws G Q _=>sp ws G Q⟩:=by
 intro X fits gl args t qp pos mt hn pa hnil hdb hnm;have hm':X.mg nm=none:=by rw [fits.mg];exact hm
 cases args with
 |nil=>exact fun pins s σ H Q I h=>absurd (hnil rfl _ _ _ h.choose_spec.choose_spec.2.2) (h0 _ _)
 |cons a r =>
  obtain ⟨s1,s2⟩:=xV (env:=X.env) (pos:=pos) hn;exact (zbV (p:=qp) (pos:=pos) (hc X fits) gl hm' hv pa hnm hdb s1 s2).imp fun τ H Q h=>tN mt mono h
abbrev MS:=W->List W->Hw->Q3->Prop
def MtE (p:Par) (m:Mt3):Prop:=∀ X,Fits p X->∀ (o:Expr) (args:List Expr) (to:E3) (t:A3) (apos cpos:Pos),wJ to->qK t->tD o=true->(apos.endLine==cpos.line)=true->args.length<25->args.all noStar=true ->
  PE X o (yA X.K to)->PA X args (vY X.K t)->(args=[]->∀ σ G Q,t σ G Q->Q [] G)->PE X (.Call (.Attribute o m.nm apos) args [] cpos) (yA X.K fun σ G Q=>to σ G fun x G1=>tyW G1 x m.T/\t σ G1 fun ws G2=>m.sp x ws G2 Q)
def lowM (K:zA) (sp:MS):V->List V->Hp->VK->Prop:=fun x vs H Q=>∃ w ws G,wX K H w x/\zF K H ws vs/\xP K H G/\sp w ws G (jK K H Q)
theorem zei {args:List Expr} {env:Env} {pos:Pos} (h:args.all noStar=true):(backTo pos (starEach args env)).all (fun x=>!x.1)=true:=by
 induction args with
 |nil=>rfl
 |cons a r ih =>
  rw [Zaq,Zp] at h;rw [qO h.1];show (true&&(backTo pos (starEach r env)).all (fun x=>!x.1))=true;rw [ih h.2];rfl
theorem zb5 {p:Par} {nm:Str} {T id:String} {sp:MS} (pa:PlainAttrs T) (slot:Slot T nm id) (hty:typeOf (.builtin id)=pure (.type "method_descriptor")) (hm:∀ X,Fits p X->MtR X id (lowM X.K sp))
  (mono:∀ x ws G (Q Q':Q3),(∀ w G',Q w G'->Q' w G')->sp x ws G Q->sp x ws G Q'):MtE p ⟨nm,T,sp⟩:=by
 intro X fits o args to t apos cpos mo mt ho hline hlen hn po pa' hnil
 cases args with
 |nil =>
  refine (ziv pa slot hty (hm X fits) po (kH ho) hline).imp fun τ H Q h=>?_;obtain ⟨σ,G,hs,ab,h⟩:=h;refine yC mo hs ab h fun w G1 v H1 g1 hs1 rw1 a1 h=>⟨zeD rw1 a1 h.1,w,[],G1,rw1,rfl,a1,mono _ _ _ _ _ (fun w' G' z v' H' g'=>z v' H' (g1.trans g')) (hnil rfl _ _ _ h.2)⟩
 |cons a r =>
  obtain ⟨s1,s2⟩:=xV (env:=X.env) (pos:=cpos) hn;refine (pe_bm pa slot hty (hm X fits) po pa' (kH ho) ?_ hline s1 s2).imp fun τ H Q h=>?_
  .rw [zei hn]
   have:(a::r).length+([]:List Keyword).length+(if ([]:List Keyword).isEmpty then 0 else 1)<30:=by
    show (a::r).length+0+0<30;omega
   rw [decide_eq_true this];rfl
  .obtain ⟨σ,G,hs,ab,h⟩:=h;refine yC mo hs ab h fun w G1 v H1 g1 hs1 rw1 a1 h=>⟨zeD rw1 a1 h.1,?_⟩;exact uI mt hs1 a1 h.2 fun ws G2 vs H2 g2 hs2 rs a2 h=>⟨w,ws,G2,rw1.mono g2,rs,a2,mono _ _ _ _ _ (fun w' G' z v' H' g'=>z v' H' (g1.trans (g2.trans g'))) h⟩
def maxS:RS:=fun ws G Q=>match ws with
 | [.int i,.int j]=>Q (.int (if j > i then j else i)) G
 |_=>False
theorem gC:xE maxS:=by
 intro ws G Q Q' k h;unfold maxS at h ⊢
 split at h
 .exact k _ _ h
 .exact h.elim
theorem tU {K:zA} {H:Hp} {a b:W} {vs:List V} (r:zF K H [a,b] vs):∃ x y,vs=[x,y]/\wX K H a x/\wX K H b y:=by
 obtain ⟨x,t,rfl,rx,y,t',rfl,ry,rt⟩:=r;cases (show t'=[] from rt);exact ⟨x,y,rfl,rx,ry⟩
theorem jN {K:zA} {H:Hp} {a:W} {vs:List V} (r:zF K H [a] vs):∃ x,vs=[x]/\wX K H a x:=by
 obtain ⟨x,t,rfl,rx,rt⟩:=r;cases (show t=[] from rt);exact ⟨x,rfl,rx⟩
theorem ziP {X:Cx} (hc:X.calm=true):xD X (.builtin "max") (qQ X.K maxS):=by
 intro pins s σ H xs us Q I r h;obtain ⟨ws,G,rs,ab,h⟩:=h;unfold maxS at h
 split at h
 .rename_i i j;obtain ⟨x,y,rfl,rx,ry⟩:=tU rs;cases (show x=.int i from rx);cases (show y=.int j from ry);exact zcU hc pins s σ H _ us Q I r ⟨i,j,rfl,h _ H .refl rfl ab⟩
 .exact h.elim
def uE (G:Hw):W->Option Nat
 | .str x=>if x.length<=sizeLine then some x.length else none
 | .tup ws=>some ws.length
 | .ref p=>match G p with
  |some (.lst ws)=>some ws.length
  |some (.fix ws)=>some ws.length
  |some (.dic kvs)=>some kvs.length
  |_=>none
 |_=>none
def uD:RS:=fun ws G Q=>match ws with
 | [x]=>(match uE G x with|some n=>Q (.int n) G|none=>False)
 |_=>False
theorem fY:xE uD:=by
 intro ws G Q Q' k h;unfold uD at h ⊢
 split at h
 .split at h
  .exact k _ _ h
  .exact h.elim
 .exact h.elim
theorem zgj {X:Cx}:xD X (.builtin "len") (fun xs H Q=>∃ a kvs,xs=[V.ref a]/\H a=some (.dK kvs)/\Q (.int kvs.length) H):=by
 intro pins s σ H xs us Q I r h;obtain ⟨a,kvs,rfl,ha,q⟩:=h;obtain ⟨u,rfl,ru⟩:=jT r;cases ru;exact d_len I (.inl ha) fun t s' I'=>⟨.int kvs.length,H,I',⟨t,rfl⟩,q⟩
theorem ziU {X:Cx}:xD X (.builtin "len") (qQ X.K uD):=by
 intro pins s σ H xs us Q I r h;obtain ⟨ws,G,rs,ab,h⟩:=h;unfold uD at h
 split at h
 .rename_i w;obtain ⟨v,rfl,rv⟩:=jN rs
  split at h
  .rename_i n hn;have q:Q (.int n) H:=h (.int n) H .refl rfl ab
   cases w with
   |str x =>
    cases (show v=.str x from rv);simp only [uE] at hn
    split at hn
    .rename_i hl;cases hn;exact cE pins s σ H _ us Q I r ⟨x,rfl,hl,q⟩
    .cases hn
   |tup ws' =>
    obtain ⟨a,vs,rfl,sq,rr⟩:=rv;simp only [uE] at hn;cases hn;exact kK pins s σ H _ us Q I r ⟨a,vs,rfl,.inr sq,by rw [rr.length];exact q⟩
   |ref p =>
    cases (show v=.ref p from rv);simp only [uE] at hn
    split at hn
    .rename_i ws' e;cases hn;obtain ⟨vs,sq,rr⟩:=ab.seq (show yV G p=some ws' by unfold yV;rw [e]);exact kK pins s σ H _ us Q I r ⟨p,vs,rfl,.inl sq,by rw [rr.length];exact q⟩
    .rename_i ws' e;cases hn;obtain ⟨vs,sq,rr⟩:=ab.seq (show yV G p=some ws' by unfold yV;rw [e]);exact kK pins s σ H _ us Q I r ⟨p,vs,rfl,.inl sq,by rw [rr.length];exact q⟩
    .rename_i kvs e;cases hn;obtain ⟨l,e',rl⟩:=ab.dic e;exact zgj pins s σ H _ us Q I r ⟨p,l,rfl,e',by rw [rl.length];exact q⟩
    .cases hn
   |_=>simp [uE] at hn
  .exact h.elim
 .exact h.elim
def xO (G:Hw):W->Option (List W)
 | .tup ws=>some ws
 | .ref p=>yV G p
 |_=>none
def mK:RS:=fun ws G Q=>match ws with
 | [x]=>(match xO G x with|some xs=>∀ p,G p=none->Q (.ref p) (put G p (.lst xs))|none=>False)
 |_=>False
theorem gA:xE mK:=by
 intro ws G Q Q' k h;unfold mK at h ⊢
 split at h
 .split at h
  .exact fun p hp=>k _ _ (h p hp)
  .exact h.elim
 .exact h.elim
theorem zbE {K:zA} {H:Hp} {G:Hw} {w:W} {v:V} {xs:List W} (ab:xP K H G) (r:wX K H w v) (e:xO G w=some xs):∃ a vs b,v=.ref a/\bX b K H a vs/\zF K H xs vs:=by
 cases w with
 |tup ws =>
  obtain ⟨a,vs,rfl,sq,rr⟩:=r;cases e;exact ⟨a,vs,true,rfl,sq,rr⟩
 |ref p =>
  cases (show v=.ref p from r);obtain ⟨vs,sq,rr⟩:=ab.seq e;exact ⟨p,vs,false,rfl,sq,rr⟩
 |_=>cases e
theorem ziS {X:Cx}:xD X (.type "list") (qQ X.K mK):=by
 intro pins s σ H xs us Q I r h;obtain ⟨ws,G,rs,ab,h⟩:=h;unfold mK at h
 split at h
 .rename_i w;obtain ⟨v,rfl,rv⟩:=jN rs
  split at h
  .rename_i ys hy;obtain ⟨a,vs,b,rfl,sq,rr⟩:=zbE ab rv hy;refine cF pins s σ H _ us Q I r ⟨a,vs,rfl,?_,jM ab rr h⟩;cases b
   .exact .inl sq
   .exact .inr sq
  .exact h.elim
 .exact h.elim
def allS (f:List Bool->Bool):RS:=fun ws G Q=>match ws with
 | [.ref p]=>∃ bs:List Bool,yV G p=some (bs.map .bl)/\Q (.bl (f bs)) G
 |_=>False
theorem fB (f:List Bool->Bool):xE (allS f):=by
 intro ws G Q Q' k h;unfold allS at h ⊢
 split at h
 .obtain ⟨bs,e,h⟩:=h;exact ⟨bs,e,k _ _ h⟩
 .exact h.elim
theorem nA {K:zA} {H:Hp}:∀ {bs:List Bool} {vs:List V} {us:List Value},zF K H (bs.map .bl) vs->zE vs us->us=bs.map .bool
 | [],vs,us,r,v=>by cases (show vs=[] from r);cases v;rfl
 |b::bs,vs,us,r,v=>by
  obtain ⟨x,t,rfl,rx,rt⟩:=r;cases (show x=.bl b from rx)
  cases v with
  |cons a c =>
   cases (show _=Value.bool b from a);rw [nA rt c];rfl
theorem zc0 (bs:List Bool):(List.range bs.length).all (fun i=>(bs[i]?).getD false)=bs.all id:=by
 rw [Bool.eq_iff_iff,ZI,ZI]
 constructor
 .intro h b hb;obtain ⟨i,hi,rfl⟩:=ZaO.mp hb;have:=h i (Zax.mpr hi)
  rwa [Ze hi] at this
 .intro h i hi;have hi:=Zax.mp hi;rw [Ze hi];exact h _ (Zau hi)
theorem zex {X:Cx} (hc:X.calm=true) {pins:List (Addr×Obj)} {s:Shared} {σ:L2.St} {H:Hp} {G:Hw} {p:Addr} {bs:List Bool} (I:Inv X pins σ H s) (ab:xP X.K H G) (e:yV G p=some (bs.map .bl)) {A:Around} (hh:A.handled=none) {E:Value->Shared->Prop}
  {R:Value->Shared->Prop} (h:∀ (I':Addr) (s₂:Shared),Walks X.prog X.w A I' [I',p] [I'] bs.length (fun i v=>(bs.map Value.bool).toArray[i]?=some v) (fun i h=>h.IsListIter I' p i/\h.IsList p (bs.map Value.bool).toArray)->(s₂.heap.IsListIter I' p 0/\s₂.heap.IsList p (bs.map Value.bool).toArray) ->
   (∀ h' tk,(∀ b o,b∉[I']->s₂.heap.get? b=some o->h'.get? b=some o)->Inv X pins σ H { s₂ with heap:=h',toks:=tk })->R (.ref I') s₂):wpAny (model X.prog X.w) A (pyIter (.ref p)) R E s:=by
 obtain ⟨vs,sq,rr⟩:=ab.seq e;obtain ⟨its,rv,pl,hz⟩:=I.list sq;have eits:=nA rr rv;subst eits;have hl:=pl.isList;refine ZbA hl ?_
 have hne:p≠s.heap.objs.size:=by
  obtain ⟨o,ho,_⟩:=hl;exact Zl (Zf ho)
 have W:=Walks.list (prog:=X.prog) (w:=X.w) hh s.heap.objs.size p hne (bs.map Value.bool).toArray;have hn:(bs.map Value.bool).toArray.size=bs.length:=by simp
 rw [hn] at W;refine h _ _ W ⟨⟨_,Zd _ rfl,rfl,rfl⟩,hl.push _⟩ fun h' tk k=>I.kept fun b o e=>k b o (fun hm=>?_) (Zb _ e);rw [Zx] at hm;exact Zl (Zf e) hm
theorem zdd {P:Program} {w:World} {A:Around} {bs:List Bool}:TruthOf P w A (fun i v=>(bs.map Value.bool).toArray[i]?=some v) (fun i=>(bs[i]?).getD false):=by
 intro i v s Q E h q;have h':(bs[i]?).map Value.bool=some v:=by simpa using h
 cases e:bs[i]? with
 |none=>rw [e] at h';cases h'
 |some b =>
  rw [e] at h';cases h';have q':Q ((bs[i]?).getD false) s:=q;rw [e] at q';exact ZE q'
theorem zjN {X:Cx} (hc:X.calm=true):xD X (.builtin "all") (qQ X.K (allS (·.all id))):=by
 intro pins s σ H xs us Q I r h;obtain ⟨ws,G,rs,ab,h⟩:=h;unfold allS at h
 split at h
 .rename_i p;obtain ⟨v,rfl,rv⟩:=jN rs;cases (show v=.ref p from rv);obtain ⟨bs,e,h⟩:=h;obtain ⟨u,rfl,ru⟩:=jT r;cases ru;refine call_all_walk (zex hc I ab e (A:=X.A.in1) (I.ok.hd hc) fun I' s₂ W st k=>⟨I',_,_,_,_,_,_,rfl,W,st,zdd,fun h' tk hk=>?_⟩);rw [zc0];exact ⟨.bl (bs.all id),H,k h' tk hk,rfl,h _ H .refl rfl ab⟩
 .exact h.elim
def tyO (G:Hw):W->Option String
 | .non=>some "NoneType"
 | .bl _=>some "bool"
 | .int _=>some "int"
 | .str _=>some "str"
 | .tup _=>some "tuple"
 | .ref p=>match G p with
  |some (.lst _)=>some "list"
  |some (.fix _)=>some "list"
  |some (.dic _)=>some "dict"
  |_=>none
 |_=>none
def popS:MS:=fun x ws G Q=>match x,ws with
 | .ref p,[]=>(match G p with
  |some (.lst xs)=>(match xs[xs.length-1]? with|some y=>Q y (put G p (.lst xs.dropLast))|none=>False)
  |_=>False)
 |_,_=>False
theorem gG:∀ x ws G (Q Q':Q3),(∀ w G',Q w G'->Q' w G')->popS x ws G Q->popS x ws G Q':=by
 intro x ws G Q Q' k h;unfold popS at h ⊢
 split at h
 .split at h
  .split at h
   .exact k _ _ h
   .exact h.elim
  .exact h.elim
 .exact h.elim
theorem zih {X:Cx}:MtR X "list.pop" (lowM X.K popS):=by
 intro pins s σ H x xs v us Q I rx rxs h;obtain ⟨w,ws,G,rw1,rs,ab,h⟩:=h;unfold popS at h
 split at h
 .rename_i p;cases (show x=.ref p from rw1);cases (show xs=[] from rs)
  split at h
  .rename_i ys e
   split at h
   .rename_i y ey;obtain ⟨vs,ev,rr⟩:=ab.lst e;obtain ⟨vy,evy,ry⟩:=rr.get ey;have gr:yK X.K H (yH H p (.lst vs.dropLast)):=ab.grow e;exact ziL pins s σ H _ _ v us Q I rx rxs ⟨p,vs,vy,rfl,rfl,ev,by rw [rr.length];exact evy,h vy _ gr (ry.mono gr) (ab.chg e ⟨_,rfl,rr.dropLast.mono gr⟩)⟩
   .exact h.elim
  .exact h.elim
 .exact h.elim
def cA:MS:=fun x ws G Q=>match x,ws with
 | .ref p,[y]=>(match G p with
  |some (.lst xs)=>xs.length<sizeLine/\Q .non (put G p (.lst (xs++[y])))
  |_=>False)
 |_,_=>False
theorem fC:∀ x ws G (Q Q':Q3),(∀ w G',Q w G'->Q' w G')->cA x ws G Q->cA x ws G Q':=by
 intro x ws G Q Q' k h;unfold cA at h ⊢
 split at h
 .split at h
  .exact ⟨h.1,k _ _ h.2⟩
  .exact h.elim
 .exact h.elim
theorem zjL {X:Cx}:MtR X "list.append" (lowM X.K cA):=by
 intro pins s σ H x xs v us Q I rx rxs h;obtain ⟨w,ws,G,rw1,rs,ab,h⟩:=h;unfold cA at h
 split at h
 .rename_i p y;cases (show x=.ref p from rw1);obtain ⟨vy,rfl,ry⟩:=jN rs
  split at h
  .rename_i ys e;obtain ⟨vs,ev,rr⟩:=ab.lst e;have gr:yK X.K H (yH H p (.lst (vs++[vy]))):=ab.grow e;exact zb6 pins s σ H _ _ v us Q I rx rxs ⟨p,vs,vy,rfl,rfl,ev,by rw [rr.length];exact h.1,h.2 .non _ gr (show wX X.K _ .non .non from rfl) (ab.chg e ⟨_,rfl,(rr.append (show zF X.K H [y] [vy] from ⟨vy,[],rfl,ry,rfl⟩)).mono gr⟩)⟩
  .exact h.elim
 .exact h.elim
theorem zje {K:zA} {H1:Hp} {n:Nat}:ItIs K (Itr 0 n) H1 ((List.range n).map fun i=>W.int (i:Nat)) (fun _=>True) where
 go:=fun i H G _ ab st hi=>by show i<n;simpa using hi
 yld:=fun i H G x H' _ ab st hi y=>by
  obtain ⟨rfl,rfl⟩:=y;have hi':i<n:=by simpa using hi
  refine ⟨.int (i:Nat),by simp [hi'],.refl,?_,ab⟩;show V.int (0+(i:Int))=V.int (i:Int);rw [Int.zero_add]
 stop:=fun i H G _ ab st hi=>by show n<=i;simpa using hi
def ItE (p:Par) (i:It3):Prop:=∀ X,Fits p X->Gl X i.nm->∀ (tg:Expr) (args:List Expr) (t:A3) (q pos:Pos),qK t->args.all noStar=true->PA X args (vY X.K t)->(args=[]->∀ σ G Q,t σ G Q->Q [] G)->(i.nm==("__debug__" : Str))=false->i.nm ≠ "__name__" ->
  PI X tg (.Call (.Name i.nm q) args [] pos) (lowI X.K fun σ G R=>t σ G fun ws G1=>i.sp ws G1 R)
def lofM (nm:Str):Scope->Expr->Option (List Expr):=fun sc e=>match e with
 | .Call (.Name o _) [.Call (.Name x _) xs [] _] [] _=>if o==("list" : Str)&&x==nm&&jQ sc o&&jQ sc x&&!xs.isEmpty then some xs else none
 |_=>none
theorem zdS {nm:Str} {sc:Scope} {e:Expr} {xs:List Expr} (h:lofM nm sc e=some xs):∃ qo q pos pos' a r,xs=a::r/\e=.Call (.Name "list" qo) [.Call (.Name nm q) (a::r) [] pos] [] pos'/\jQ sc "list" = true/\jQ sc nm=true:=by
 have no:¬ ((none:Option (List Expr))=some xs):=fun e=>nomatch e
 cases e with
 |Call f args kws pos' =>
  cases f with
  |Name o qo =>
   cases args with
   |nil=>exact absurd h no
   |cons c rest =>
    cases c with
    |Call g ys kw2 pos =>
     cases g with
     |Name x q =>
      cases kw2 with
      |nil =>
       cases rest with
       |nil =>
        cases kws with
        |nil =>
         replace h:(if (o==("list" : Str)&&x==nm&&jQ sc o&&jQ sc x&&!ys.isEmpty)=true then some ys else none)=some xs:=h
         by_cases hb:(o==("list" : Str)&&x==nm&&jQ sc o&&jQ sc x&&!ys.isEmpty)=true
         .rw [if_pos hb] at h;cases h;simp only [Zp,beq_iff_eq,ZaP,List.isEmpty_eq_false_iff] at hb;obtain ⟨⟨⟨⟨rfl,rfl⟩,h1⟩,h2⟩,h3⟩:=hb
          cases xs with
          |nil=>exact absurd rfl h3
          |cons a r=>exact ⟨qo,q,pos,pos',a,r,rfl,rfl,h1,h2⟩
         .rw [if_neg hb] at h;exact absurd h no
        |cons _ _=>exact absurd h no
       |cons _ _=>exact absurd h no
      |cons _ _=>exact absurd h no
     |_=>exact absurd h no
    |_=>exact absurd h no
  |_=>exact absurd h no
 |_=>exact absurd h no
def SxE (p:Par) (k:Sx3):Prop:=∀ X,Fits p X->∀ (e:Expr) (xs:List Expr) (es:List E3),k.m X.env.scope e=some xs->dY X xs es->xs.all noStar=true->PA X xs (vY X.K (dP es)) ->
  PE X e (yA X.K fun σ G Q=>dP es σ G fun ws G1=>k.sp ws G1 Q)/\(∀ whole,isTrue e X.env whole=(do let v ← whole;standAt e.pos;holding [v] (truthy v)))/\∀ op vs pos,e≠.BoolOp op vs pos
theorem uV {X:Cx}:∀ {xs:List Expr} {es:List E3},dY X xs es->qK (dP es)
 | [],[],_=>fun σ G Q Q' k h=>k _ _ h
 |_::_,_::_,⟨m,_,r⟩=>fun σ G Q Q' k h=>m σ G _ _ (fun x G1 h=>uV r σ G1 _ _ (fun xs G2 h=>k _ _ h) h) h
theorem zhK {q:Pr} {A:Around} {nm:Str} {T:String} {sp:RS} (hl:q.mg "list" = none) (hm:q.mg nm=none) (hv:bootBuiltins nm=some (.type T)) (mono:xE sp)
  (hc:∀ X,Fits (q.at A) X->∀ (pins:List (Addr×Obj)) (s:Shared) (σ:L2.St) (H:Hp) (vs:List V) (us:List Value) (Q:VK),Inv X pins σ H s->zE vs us->qQ X.K sp vs H Q ->
   wpAny (model X.prog X.w) X.A (call (.type T) us) (fun v s1=>wpAny (model X.prog X.w) X.A (call (.type "list") [v]) (EP X pins σ Q) X.xe s1) X.xe s):SxE (q.at A) ⟨lofM nm,sp⟩:=by
 intro X fits e xs es he each hn pa;obtain ⟨qo,qq,pos,pos',a,r,rfl,rfl,g1,g2⟩:=zdS he;obtain ⟨gl1,d1,n1⟩:=kD rfl g1;obtain ⟨gl2,d2,n2⟩:=kD rfl g2;have hl':X.mg "list" = none:=by rw [fits.mg];exact hl
 have hm':X.mg nm=none:=by rw [fits.mg];exact hm
 refine ⟨fun pins s σ H Q I h=>?_,fun _=>rfl,fun _ _ _ z=>nomatch z⟩;obtain ⟨s1,s2⟩:=xV (env:=X.env) (pos:=pos) hn;have h':=tN (uV each) mono h;refine ZH (qW I gl1 hl' boot_list ?_ n1 d1);refine ZP (e:=.Call (.Name nm qq) (a::r) [] pos) (rest:=[]) ?_ rfl rfl;show wpAny _ _ (spliced ((false,eval (.Call (.Name nm qq) (a::r) [] pos) X.env)::backTo pos' (starEach [] X.env))) _ _ s;refine Zbn (ZH (qW I gl2 hm' hv (ZP (yG (pa pos pins s σ H _ I h') fun us s1 ⟨vs,H1,I1,r1,q1⟩=>?_) s1 s2) n2 d2));exact yG (hc X fits pins s1 σ H1 vs us Q I1 r1 q1) fun v s2 z=>Zby z
theorem za4 (n:Nat):[n+4,n+2,n+3,n,n+1].Nodup:=by
 simp
theorem zaD (n a:Nat) (h:a<n):a∉[n+4,n+2,n+3,n,n+1]:=by
 simp only [Zk,Zt,or_false,not_or];omega
theorem zcz (n b:Nat) (h:b∈[n+4,n+2,n+3,n,n+1]):n<=b:=by
 simp only [Zk,Zt,or_false] at h;omega
def Itv (K:zA) (a:Addr) (n:Nat):It where
 go:=fun i H=>∃ xs,rQ K H a xs/\xs.length=n/\i<n
 yld:=fun i H v H'=>H'=H/\∀ xs,rQ K H a xs->xs.length=n->xs[n-1-i]?=some v
 stop:=fun i H=>i=n
theorem za0:typeLookup (.type "list_reverseiterator") "__len__" = pure none:=by rw [Zab,ZL];kernel_rfl
theorem zdR:typeLookup (.type "list_reverseiterator") "__length_hint__" = pure (some (.builtin "list_reverseiterator.__length_hint__")):=by rw [Zab,ZL];kernel_rfl
theorem zfL {P:Program} {w:World} {A:Around} {it a:Addr} {i:Int} {s:Shared} {Q:Bool->Shared->Prop} {E:Value->Shared->Prop} (st:s.heap.IsRevIter it a i) (h:∀ b,Q b s):wpAny (model P w) A (Builtin.List.listLengthHint (.ref it)) Q E s:=by
 have hT:=st.typeIs;unfold Builtin.List.listLengthHint;refine Za (Zat hT za0 ?_);show wpAny _ _ (specialOf (Value.ref it) (Str.ofString "__length_hint__") >>= _) _ _ _;refine Za (Zat hT zdR ?_)
 (generalize hid:("list_reverseiterator.__length_hint__" : String)=id0;(fail_if_success (clear hid id0));wp_delta;rw [show splitId id0=some ("list_reverseiterator", "__length_hint__") from by subst hid;decide +kernel];subst hid)
 refine Za (ZaF (b:=true) hT (by rw [ZaN];kernel_rfl) ?_);exact Zc (h _)
theorem zds (P:Program) (w:World) (K:zA) {it a:Addr} {n:Nat} (hne:a≠it):TurnL P w K "list_reverseiterator" (Itv K a n) [it] it (fun i h=>i<=n/\h.IsRevIter it a ((n:Int)-1-i)) where
 mem:=by simp
 ty:=fun i h ⟨_,o,ho,hc,_⟩=>⟨o,ho,hc⟩
 obj:=fun i h ⟨_,o,ho,hc,hd⟩ b hb=>by
  rw [Zx] at hb;subst hb;exact ⟨o,ho,fun v z=>by rw [hd] at z;cases z⟩
 keep:=fun i h h' ⟨hi,x⟩ k=>⟨hi,x.at fun o e=>k it (by simp) o e⟩
 item:=by
  intro X e1 e2 e3 hc i pins s σ H E I hf st go;subst e1;subst e2;subst e3;obtain ⟨hi,st⟩:=st;obtain ⟨xs,sq,ln,hlt⟩:=go;obtain ⟨its,rv,pl,hz⟩:=I.list sq;have hlx:n-1-i<xs.length:=by omega
  obtain ⟨u,eu,ru⟩:=rv.get (Ze hlx);have e:(n:Int)-1-(i:Int)=((n-1-i:Nat):Int):=by omega
  rw [e] at st;refine wpAny_pyNext_rev_item st pl.isList (x:=u) (by simpa using eu) fun h' st' sb=>?_;have e':((n-1-i:Nat):Int)-1=(n:Int)-1-((i+1:Nat):Int):=by omega
  rw [e'] at st';obtain ⟨f1,f2,f3,f4,f5,f6⟩:=hf it (by simp);refine ⟨u,xs[n-1-i],H,rfl,I.turned (t':=s.toks) (fun b o hb e=>sb.extBut b o hb e) f1 f2 f4 f5 f6,ru,⟨rfl,fun ys sq' _=>by rw [I.list_inj sq' sq];exact Ze hlx⟩,⟨hlt,st'⟩,fun b hb=>(hf b hb).1⟩
 done:=by
  intro X e1 e2 e3 hc i pins s σ H E I hf st stop;subst e1;subst e2;subst e3;obtain ⟨hi,st⟩:=st;have hin:i=n:=stop;subst hin;have e:(i:Int)-1-(i:Int)=-1:=by omega
  rw [e] at st;obtain ⟨f1,f2,f3,f4,f5,f6⟩:=hf it (by simp);exact wpAny_pyNext_rev_end (I.ok.hd hc) st fun h' k=>⟨rfl,I.turned (t':=s.toks) (fun b o hb e=>k b o hb e) f1 f2 f4 f5 f6⟩
 self:=fun A i s Q E st h=>wpAny_pyIter_revIter st.2 h
 hint:=fun A i s Q E st h=>zfL st.2 h
def revS:RS:=fun ws G Q=>match ws with
 | [.ref p]=>∃ xs,yV G p=some xs/\∀ r,G r=none->Q (.ref r) (put G r (.lst xs.reverse))
 |_=>False
theorem gJ:xE revS:=by
 intro ws G Q Q' k h;unfold revS at h ⊢
 split at h
 .obtain ⟨xs,e1,h⟩:=h;exact ⟨xs,e1,fun p hp=>k _ _ (h p hp)⟩
 .exact h.elim
theorem zh5 {X:Cx} (hc:X.calm=true) (pins:List (Addr×Obj)) (s:Shared) (σ:L2.St) (H:Hp) (vs:List V) (us:List Value) (Q:VK) (I:Inv X pins σ H s) (r:zE vs us) (h:qQ X.K revS vs H Q) :
  wpAny (model X.prog X.w) X.A (call (.type "reversed") us) (fun v s1=>wpAny (model X.prog X.w) X.A (call (.type "list") [v]) (EP X pins σ Q) X.xe s1) X.xe s:=by
 obtain ⟨ws,G,rs,ab,h⟩:=h;unfold revS at h
 split at h
 .rename_i p;obtain ⟨v,rfl,rv⟩:=jN rs;cases (show v=.ref p from rv);obtain ⟨u,rfl,ru⟩:=jT r;cases (show u=Value.ref p from ru);obtain ⟨xs,e,h⟩:=h;obtain ⟨vs,sq,rr⟩:=ab.seq e;obtain ⟨its,vv,pl,hz⟩:=I.list sq;have hl:=pl.isList
  have hlt:p<s.heap.objs.size:=by
   obtain ⟨o,ho,_⟩:=hl;exact Zf ho
  refine call_reversed_list hl ?_;have I1:Inv X pins σ H { s with heap:=s.heap.push (revObj p ((its.toArray.size:Int)-1)),toks:=s.toks }:=I.kept fun b u e=>Zb _ e;have en:its.toArray.size=vs.length:=by rw [zzS,← vv.length]
  refine zca hc (by decide) (by decide) I1 (zds X.prog X.w X.K (n:=vs.length) (Zl hlt)) ⟨ZX _,?_⟩ (fun b hb=>?_) vs.length hz
   (fun i acc H'=>H'=H/\acc=vs.reverse.take i) ⟨rfl,by simp⟩ ?_ ?_
  .refine ⟨_,Zd _ rfl,rfl,?_⟩;show Data.fields #[.ref p,rawInt ((its.toArray.size:Int)-1)]=_;rw [en];simp
  .rw [Zx] at hb;subst hb;exact I.fpOk (zzR _) (I.hok.fresh (zzR _))
  .rintro i acc H' hi ⟨rfl,rfl⟩;refine ⟨⟨vs,sq,rfl,hi⟩,?_⟩;rintro v H2 ⟨rfl,e2⟩;refine ⟨rfl,?_⟩;have e2:=e2 vs sq rfl;have hl':i<vs.reverse.length:=by simpa using hi
   rw [Zam hl'];congr 2;have:vs.reverse[i]?=some v:=by rw [List.getElem?_reverse hi];exact e2
   exact (Zz ((Ze hl').symm.trans this)).symm
  .rintro acc H' ⟨rfl,rfl⟩;refine ⟨rfl,?_⟩;rw [Zbw (by simp)];exact jM ab rr.reverse h
 .exact h.elim
end L3
namespace L3
open PySem PySem.Spec PyProof.Rows L2
def zV (S:List Addr) (G G':Hw):Prop:=∀ a o,a∉S->G a=some o->G' a=some o
theorem zV.refl {S:List Addr} {G:Hw}:zV S G G:=fun _ _ _ h=>h
theorem zV.trans {S:List Addr} {G G1 G2:Hw} (a:zV S G G1) (b:zV S G1 G2):zV S G G2:=fun x o hx h=>b x o hx (a x o hx h)
theorem zV.put {S:List Addr} {G:Hw} {p:Addr} {o:O} (h:p∈S):zV S G (put G p o):=fun x u hx hu=>by
 rw [yD (fun e:x=p=>hx (e▸h))];exact hu
theorem zV.new {S:List Addr} {G:Hw} {p:Addr} {o:O} (h:G p=none):zV S G (L3.put G p o):=fun x u hx hu=>by
 rw [yD (fO hu h)];exact hu
theorem zV.none {S:List Addr} {G G':Hw} {p:Addr} (k:zV S G G') (hp:p∉S) (h:G' p=Option.none):G p=Option.none:=by
 cases e:G p with
 |none=>rfl
 |some o=>rw [k p o hp e] at h;cases h
theorem zV.mono {S S':List Addr} {G G':Hw} (k:zV S G G') (h:∀ a∈S,a∈S'):zV S' G G':=fun x o hx hu=>k x o (fun z=>hx (h x z)) hu
abbrev kS:yM:=.inr "seed"
abbrev kN:yM:=.inr "number"
abbrev kL:yM:=.inr "left"
def zjE (seed num:Int) (l:Addr):O:=.dic [(kS,.int seed),(kN,.int num),(kL,.ref l)]
structure DealS (G:Hw) (d l:Addr) (seed num:Int) (left:List Int):Prop where
 dic:G d=some (zjE seed num l)
 lst:G l=some (.lst (left.map .int))
 s0:0<=seed
 s1:seed<2147483647
 n0:0<=num
 lf:∀ x∈left,(0:Int)<=x
 len:left.length<=63
 ne:d≠l
def xQ (G:Hw) (d l:Addr):Prop:=∃ seed num left,DealS G d l seed num left
theorem dgS {a b c:W}:vF [(kS,a),(kN,b),(kL,c)] kS=some a:=by rfl
theorem dgN {a b c:W}:vF [(kS,a),(kN,b),(kL,c)] kN=some b:=by
 have e1:¬ (kS=kN):=by decide +kernel
 unfold vF;rw [Zbv (by simp [e1]),List.find?_cons_of_pos (by simp)];rfl
theorem dgL {a b c:W}:vF [(kS,a),(kN,b),(kL,c)] kL=some c:=by
 have e1:¬ (kS=kL):=by decide +kernel
 have e2:¬ (kN=kL):=by decide +kernel
 unfold vF;rw [Zbv (by simp [e1]),Zbv (by simp [e2]),List.find?_cons_of_pos (by simp)];rfl
theorem dpN {a b c x:W}:qV [(kS,a),(kN,b),(kL,c)] kN x=[(kS,a),(kN,x),(kL,c)]:=by
 unfold qV;have e1:¬ (kS=kN):=by decide +kernel
 have e2:¬ (kL=kN):=by decide +kernel
 simp [e1,e2]
theorem dpS {a b c x:W}:qV [(kS,a),(kN,b),(kL,c)] kS x=[(kS,x),(kN,b),(kL,c)]:=by
 unfold qV;have e1:¬ (kN=kS):=by decide +kernel
 have e2:¬ (kL=kS):=by decide +kernel
 simp [e1,e2]
def zjH:ISs:=(.cons (.whl (.and (.cmp .Eq (.ix (.var 0) (.con (.str "number"))) (.con (.int 0))) (.cmp .Gt (.call 1 (.cons (.ix (.var 0) (.con (.str "left"))) .nil)) (.con (.int 0)))) (.cons (.asgI (.var 0) (.con (.str "number")) (.mth 0 (.ix (.var 0) (.con (.str "left"))) .nil))
 .nil))
 (.cons (.asg 2 (.ix (.var 0) (.con (.str "number"))))
 (.cons (.ite (.cmp .Gt (.var 2) (.con (.int 0))) (.cons (.asgI (.var 0) (.con (.str "number")) (.bin .FloorDiv (.var 2) (.var 1)))
 (.cons (.ret (.bin .Mod (.var 2) (.var 1)))
 .nil)) .nil)
 (.cons (.asg 3 (.bin .Mod (.bin .Add (.bin .Mult (.ix (.var 0) (.con (.str "seed"))) (.con (.int 48271))) (.con (.int 7919))) (.con (.int 2147483647))))
 (.cons (.asgI (.var 0) (.con (.str "seed")) (.bin .Mod (.bin .Add (.bin .Mult (.var 3) (.con (.int 40692))) (.con (.int 104729))) (.con (.int 2147483399))))
 (.cons (.asg 4 (.bin .Mod (.bin .Mult (.ix (.var 0) (.con (.str "seed"))) (.ix (.var 0) (.con (.str "seed")))) (.con (.int 2147483563))))
 (.cons (.ret (.bin .Mod (.bin .Add (.bin .Mult (.bin .Mod (.bin .Mult (.var 3) (.var 3)) (.con (.int 2147483629))) (.con (.int 2147483563))) (.var 4)) (.var 1)))
 .nil)))))))
abbrev hZ:Fn3:=⟨"len", fun ws G Q _=>uD ws G Q⟩
abbrev ePop:Mt3:=⟨"pop", "list", popS⟩
theorem DealS.put {G:Hw} {d l:Addr} {seed num:Int} {left:List Int} (D:DealS G d l seed num left) {seed' num':Int} (h1:0<=seed') (h2:seed' < 2147483647) (h3:0<=num'):DealS (put G d (zjE seed' num' l)) d l seed' num' left :=
 ⟨zX,by rw [yD D.ne.symm];exact D.lst,h1,h2,h3,D.lf,D.len,D.ne⟩
theorem za6 {i j:Int}:vV (.int i) (.int j)=decide (i=j):=by
 simp [vV,Bool.beq_eq_decide_eq]
theorem xI {G:Hw} {i j:Int}:bS G (.int i) (.int j)=some (decide (i=j)):=by
 simp [bS,uP,nG,za6]
theorem zdQ {left:List Int}:(left.map W.int)[left.length-1]?=(left[left.length-1]?).map W.int:=by simp
theorem modb {a m:Int} (h:0<m):0<=a % m/\a % m<m:=⟨Int.emod_nonneg _ (by omega),Int.emod_lt_of_pos _ h⟩
theorem fM {d l:Addr} {m:Int} {G G1:Hw} {Q:Q3} {seed num:Int} {left:List Int} (D:DealS G1 d l seed num left) (kp:zV [d,l] G G1) (hm:0<m/\m<1073741824) (few:∀ {a b c:W},[(kS,a),(kN,b),(kL,c)].length<sizeLine)
  (hq:∀ r G',0<=r->r<m->zV [d,l] G G'->xQ G' d l->Q (.int r) G'):if decide (0<num)=true then
   CDiv num m/\[(kS,W.int seed),(kN,W.int num),(kL,W.ref l)].length<sizeLine/\0<m/\Q (W.int (num % m)) (put G1 d (O.dic [(kS,W.int seed),(kN,W.int (num / m)),(kL,W.ref l)]))
  else
   bT seed 48271/\(0:Int)<2147483647/\bT ((seed * 48271+7919) % 2147483647) 40692/\(0:Int)<2147483399/\[(kS,W.int seed),(kN,W.int num),(kL,W.ref l)].length<sizeLine /\
   bT (((seed * 48271+7919) % 2147483647 * 40692+104729) % 2147483399) (((seed * 48271+7919) % 2147483647 * 40692+104729) % 2147483399)/\(0:Int)<2147483563 /\
   bT ((seed * 48271+7919) % 2147483647) ((seed * 48271+7919) % 2147483647)/\(0:Int)<2147483629 /\
   bT ((seed * 48271+7919) % 2147483647 * ((seed * 48271+7919) % 2147483647) % 2147483629) 2147483563/\0<m /\
   Q (W.int (((seed * 48271+7919) % 2147483647 * ((seed * 48271+7919) % 2147483647) % 2147483629 * 2147483563+((seed * 48271+7919) % 2147483647 * 40692+104729) % 2147483399 * (((seed * 48271+7919) % 2147483647 * 40692+104729) % 2147483399) % 2147483563) % m))
    (put G1 d (O.dic [(kS,W.int (((seed * 48271+7919) % 2147483647 * 40692+104729) % 2147483399)),(kN,W.int num),(kL,W.ref l)])):=by
 split
 .exact ⟨hm,few,hm.1,hq _ _ (modb hm.1).1 (modb hm.1).2 (kp.trans (zV.put (by simp))) ⟨seed,num / m,left,D.put D.s0 D.s1 (Int.ediv_nonneg D.n0 (by omega))⟩⟩
 .have b1:=modb (a:=seed * 48271+7919) (m:=2147483647) (by decide);generalize (seed * 48271+7919) % 2147483647=x at b1 ⊢;have b2:=modb (a:=x * 40692+104729) (m:=2147483399) (by decide);generalize (x * 40692+104729) % 2147483399=y at b2 ⊢;refine ⟨.inr ⟨by decide,by decide⟩,by decide,.inr ⟨by decide,by decide⟩,by decide,few,.inl ⟨by omega,by omega⟩,by decide,.inl ⟨by omega,by omega⟩,by decide,.inr ⟨by decide,by decide⟩,hm.1,?_⟩;exact hq _ _ (modb hm.1).1 (modb hm.1).2 (kp.trans (zV.put (by simp))) ⟨y,num,left,D.put b2.1 (by omega) D.n0⟩
theorem zeq {Γ:Ctx3} (h1:Γ.fn[1]?=some hZ) (h2:Γ.mt[0]?=some ePop) {d l:Addr} {m:Int} {G:Hw} {Q:Q3} {nx:wK->Hw->Prop} (D:xQ G d l) (hm:0<m/\m<1073741824)
  (hq:∀ r G',0<=r->r<m->zV [d,l] G G'->xQ G' d l->Q (.int r) G'):yW Γ XN zjH { nx:=nx,rt:=Q } [some (.ref d),some (.int m),none,none,none] G:=by
 obtain ⟨seed,num,left,D⟩:=D;dsimp only [zjH,yW,zO,zQ,zL,zD,yX,yP,yN,zM,zU,zH,ZW,ZR,ZaJ,Zbr];simp only [h1,h2];refine ⟨fun k σ G'=>σ=[some (.ref d),some (.int m),none,none,none]/\zV [d,l] G G'/\∃ num left,k=left.length/\DealS G' d l seed num left,⟨_,rfl,.refl,num,left,rfl,D⟩,?_⟩;rintro k σ G1 ⟨rfl,kp,num,left,rfl,D⟩;have hd:G1 d=some (.dic [(kS,.int seed),(kN,.int num),(kL,.ref l)]):=D.dic;have hl:G1 l=some (.lst (left.map .int)):=D.lst;have hds:∀ o,(put G1 d o) d=some o:=fun o=>zX;have hdl:∀ o,(put G1 l o) d=some (.dic [(kS,.int seed),(kN,.int num),(kL,.ref l)]):=fun o=>by rw [yD D.ne];exact hd
 have few:∀ {a b c:W},[(kS,a),(kN,b),(kL,c)].length<sizeLine:=by intros;show 3<sizeLine;rw [ZD];decide
 simp only [ZW,ZR,ZaJ,Zbr,rX,hd,qC,dgN,dgL,dgS,yL,xI,yU,uD,uE,hl,zzM,tyW,popS,pJ,zdQ,rN,hdl,hds,dpN,dpS,jO]
 by_cases hn:num=0
 .simp only [decide_eq_true hn,if_true]
  by_cases hlen:(0:Int)<(left.length:Int)
  .simp only [decide_eq_true hlen,if_true];have hlast:left.length-1<left.length:=by omega
   rw [Ze hlast];simp only [Option.map_some];refine ⟨trivial,few,left.dropLast.length,by rw [ZbI];omega,trivial,?_,left[left.length-1],left.dropLast,rfl,?_⟩
   .exact (kp.trans (zV.put (by simp))).trans (zV.put (by simp))
   .refine ⟨zX,?_,D.s0,D.s1,D.lf _ (Zau hlast),fun x hx=>D.lf x (List.dropLast_subset _ hx),by have:=D.len;rw [ZbI];omega,D.ne⟩;rw [yD D.ne.symm,zX,List.map_dropLast]
  .simp only [decide_eq_false hlen,zzB,if_false];exact fM D kp hm few hq
 .simp only [decide_eq_false hn,zzB,if_false];exact fM D kp hm few hq
theorem zcd {items:List W} {stab:Hw->Prop} {G1:Hw} {turn:W->Hw->(Option W->Hw->Prop)->Prop} {Q:Q3} (f:W->Option W) (hs:stab G1) (hl:items.length<=sizeLine) (ht:∀ w∈items,∀ K:Option W->Hw->Prop,K (f w) G1->turn w G1 K)
  (hq:∀ p,G1 p=none->Q (.ref p) (put G1 p (.lst (items.filterMap f)))):lcR items stab G1 turn Q:=by
 refine ⟨fun i acc G=>G=G1/\acc=(items.take i).filterMap f,⟨rfl,by simp⟩,?_,hl,?_,?_⟩
 .rintro i acc G ⟨rfl,rfl⟩ hi;refine ⟨hs,Zy (List.length_filterMap_le _ _) ?_⟩;rw [Zac];omega
 .rintro i w acc G hi ⟨rfl,rfl⟩;have hlt:i<items.length:=(Zg.mp hi).1;have hw:items[i]=w:=(Zg.mp hi).2;refine ht w (Zv hi) _ ?_;have et:items.take (i+1)=items.take i++[w]:=by rw [Zam hlt,hw]
  cases e:f w with
  |some x=>exact ⟨rfl,by rw [et,ZbE];simp [e]⟩
  |none=>exact ⟨rfl,by rw [et,ZbE];simp [e]⟩
 .rintro acc G ⟨rfl,rfl⟩ p hp;rw [Zcj];exact hq p hp
theorem uS {α β:Type} (f:α->β) (xs:List α) (lo hi:Option Int):tH (xs.map f) lo hi=(tH xs lo hi).map f:=by
 unfold tH;rw [zzM,List.map_take,ZcD]
theorem zg8 {α:Type} (xs:List α) (lo hi:Option Int):(tH xs lo hi).length<=xs.length:=by
 unfold tH;rw [Zac,Zav];omega
def zjI:ISs:=(.cons (.asg 2 (.lc (.nm 0) ["_law_cell"] [] (.val (.sl (.var 0) (.yes (.var 1)) (.yes (.con (.int 63))))) .no (.call 0 (.cons (.var 0) (.cons (.bin .Sub (.con (.int 0)) (.var 0)) .nil)))))
 (.cons (.asg 3 (.bin .Add (.con (.int 7919)) (.var 1)))
 (.cons (.for (.nm 4) (.val (.var 2)) (.cons (.asg 3 (.bin .Mod (.bin .Add (.bin .Mult (.var 3) (.con (.int 69621))) (.bin .Mod (.var 4) (.con (.int 2147483629)))) (.con (.int 2147483647))))
 .nil))
 (.cons (.ret (.dct ["seed", "number", "left"] (.cons (.var 3) (.cons (.con (.int 0)) (.cons (.spc 0 (.cons (.lc (.nm 0) ["_law_cell"] [] (.val (.var 2)) (.yes (.cmp .GtE (.var 0) (.bin .Pow (.con (.int 10)) (.con (.int 18))))) (.var 0)) .nil)) .nil)))))
 .nil))))
abbrev eMax:Fn3:=⟨"max", fun ws G Q _=>maxS ws G Q⟩
abbrev eRev:Sx3:=⟨lofM "reversed", revS⟩
def rG (x:Int):Int:=if 0-x > x then 0-x else x
theorem zhi (x:Int):0<=rG x:=by unfold rG;split<;>omega
theorem zS {G:Hw} {p:Addr} {ws:List W} (h:G p=some (.lst ws)):yV G p=some ws:=by unfold yV;rw [h]
theorem dct3 {a b c:W}:zg5 ["seed", "number", "left"] [a,b,c]=[(kS,a),(kN,b),(kL,c)]:=by
 have e1:¬ (kS=kN):=by decide +kernel
 have e2:¬ (kS=kL):=by decide +kernel
 have e3:¬ (kN=kL):=by decide +kernel
 simp [zg5,qV,e1,e2,e3]
def dZ (G:Hw) (w:W) (ns:List Int):Prop:=(∃ a,w=.ref a/\yV G a=some (ns.map .int))\/w=.lsf (ns.map .int)
theorem dZ.sl {G:Hw} {w:W} {ns:List Int} (h:dZ G w ns) {lo hi:Option Int} {Q:Q3} (hq:∀ r,G r=none->Q (.ref r) (put G r (.lst (tH (ns.map W.int) lo hi)))):slR w lo hi G Q:=by
 rcases h with ⟨a,rfl,e⟩|rfl
 .simp only [slR,e];exact hq
 .exact hq
theorem zet {Γ:Ctx3} (h0:Γ.fn[0]?=some eMax) (h2:Γ.sx[0]?=some eRev) {a:W} {base:Int} {ns:List Int} {G:Hw} {Q:Q3} {nx:wK->Hw->Prop} (hs:dZ G a ns) (hl:ns.length<=63) (hb:0<=base/\base<=1000)
  (hq:∀ d l G',G d=none->G l=none->zV [] G G'->xQ G' d l->Q (.ref d) G'):yW Γ XN zjI { nx:=nx,rt:=Q } [some a,some (.int base),none,none,none] G:=by
 dsimp only [zjI,yW,zO,zQ,zL,zD,yX,yP,yN,zM,zU,zP,zK,zN,zT,zH,ZW,ZR,zJ];simp only [h0,h2,qA];refine hs.sl fun p1 hp1=>?_;dsimp only;have hp1':yV (put G p1 (.lst (tH (ns.map W.int) (some base) (some 63)))) p1=some (tH (ns.map W.int) (some base) (some 63)):=zS zX;rw [hp1'];rw [uS];generalize ecs:tH ns (some base) (some 63)=cs;have hcl:cs.length<=63:=by rw [← ecs];exact Zy (zg8 _ _ _) hl
 rw [uS,ecs] at hp1';refine zcd (fun w=>match w with|.int x=>some (.int (rG x))|_=>none) hp1' (by rw [zzM,ZD];omega) ?_ ?_
 .intro w hw K hK;obtain ⟨x,hx,rfl⟩:=zzP hw;simp only [vU,Zh,Zs,List.replicate,zzV,ZO,ZaJ,ZW,jO,maxS,if_true];exact hK
 .intro p2 hp2
  have ef:(cs.map W.int).filterMap (fun w=>match w with|.int x=>some (.int (rG x))|_=>none)=(cs.map rG).map W.int:=by
   rw [List.filterMap_map,Zaf,← List.filterMap_eq_map];rfl
  rw [ef];generalize eG:put (put G p1 (.lst (cs.map W.int))) p2 (.lst ((cs.map rG).map W.int))=G2;have kp2:zV [] G G2:=by rw [← eG];exact (zV.new hp1).trans (zV.new hp2)
  have g2:G2 p2=some (.lst ((cs.map rG).map W.int)):=by rw [← eG];exact zX
  simp only [ZW,ZR,ZaJ,Zbr,jO,zS g2];refine ⟨fun i σ G'=>G'=G2/\∃ (n:Int) (c:Option W),σ=[some a,some (.int base),some (.ref p2),some (.int n),c]/\0<=n/\n<2147483647,⟨rfl,7919+base,none,rfl,by omega,by omega⟩,?_,?_,?_⟩
  .rintro i σ G' ⟨rfl,_⟩ _;exact zS g2
  .rintro i w σ G' hi ⟨rfl,n,c,rfl,n0,n1⟩;have hw:=Zv hi;obtain ⟨x,hx,rfl⟩:=zzP hw;simp only [ZW,ZR,ZaJ,Zbr,jO];exact ⟨.inr ⟨by decide,by decide⟩,by decide,by decide,trivial,_,_,rfl,(modb (by decide)).1,(modb (by decide)).2⟩
  .rintro σ G' ⟨rfl,n,c,rfl,n0,n1⟩;intro d hd;simp only [ZW,ZR];have g3:(put G' d (.dic [])) p2=some (.lst ((cs.map rG).map W.int)):=by rw [yD (fO g2 hd)];exact g2
   simp only [zS g3];refine zcd (fun w=>match w with|.int x=>if (10:Int) ^ 18<=x then some (.int x) else none|_=>none) (zS g3) (by rw [zzM,zzM,ZD];omega) ?_ ?_
   .intro w hw K hK;obtain ⟨x,hx,rfl⟩:=zzP hw;simp only [vU,Zh,Zs,List.replicate,zzV,ZO,ZaJ,ZW,jO,yL,pJ,yU];refine ⟨⟨by decide,by decide,by decide⟩,?_⟩;have e18:(10:Int) ^ (18:Int).toNat=10 ^ 18:=rfl;rw [e18]
    by_cases hx:(10:Int) ^ 18<=x
    .rw [decide_eq_true hx,if_pos rfl];simp only [if_pos hx] at hK;exact hK
    .rw [decide_eq_false hx,if_neg zzN];simp only [if_neg hx] at hK;exact hK
   .intro p3 hp3
    have ef:((cs.map rG).map W.int).filterMap (fun w=>match w with|.int x=>if (10:Int) ^ 18<=x then some (.int x) else none|_=>none)=((cs.map rG).filter fun x=>decide ((10:Int) ^ 18<=x)).map W.int:=by
     generalize cs.map rG=ys
     induction ys with
     |nil=>rfl
     |cons y ys ih =>
      rw [zzU,ZaY,Zch]
      by_cases hy:(10:Int) ^ 18<=y
      .simp only [if_pos hy,decide_eq_true hy,if_true,zzU,ih]
      .simp only [if_neg hy,decide_eq_false hy,zzB,if_false,ih]
    rw [ef];generalize efl:(cs.map rG).filter (fun x=>decide ((10:Int) ^ 18<=x))=fl;have flen:fl.length<=63:=by rw [← efl];refine Zy (Za4 _ _) ?_;rw [zzM];exact hcl
    have fnn:∀ x∈fl,(0:Int)<=x:=fun x hx=>by
     rw [← efl] at hx;obtain ⟨y,hy,rfl⟩:=zzP (Zcn.mp hx).1;exact zhi y
    refine ⟨fl.map W.int,zS zX,fun l hl'=>?_⟩
    have ned:d≠l:=fun e=>by
     subst e;rw [yD (fO zX hp3),zX] at hl';cases hl'
    have np3:d≠p3:=fO zX hp3;refine ⟨by rw [yD ned,yD np3,zX],rfl,?_⟩;rw [dct3];refine hq d l _ (kp2.none (by simp) hd) ?_ ?_ ⟨n,0,fl.reverse,zX,?_,n0,n1,by omega,fun x hx=>fnn x (List.mem_reverse.mp hx),by rw [Zbh];exact flen,ned⟩
    .have k3:zV [] G (put (put G' d (.dic [])) p3 (.lst (fl.map W.int))):=(kp2.trans (zV.new hd)).trans (zV.new hp3);exact k3.none (by simp) hl'
    .intro x u hx hu;rw [yD (fO hu (kp2.none (by simp) hd))];exact ((((kp2.trans (zV.new hd)).trans (zV.new hp3)).trans (zV.new hl')) x u hx hu)
    .rw [yD ned.symm,zX,← Zci]
structure FunD (K:zA) (x qual:Str) (st:Stmt) (dV:Value) (f:Addr) (fd:FuncData):Prop where
 ex:∃ (oc:Value) (od:Option Addr) (kV doc pm:Value) (an:Option Addr) (cdv ct:Value) (osl:Array (Option Value)),
  fd=PySem.W.fnOf x qual (yJ st) (zG st) (zZ st) dV kV doc pm an cdv ct/\K.lookup f=some ⟨oc,od,.func fd,osl⟩/\PySem.W.codeIn K cdv qual=true
 kp:PySem.W.keepIn K (.ref f)=true
theorem zcH {Γ:Ctx3} {q:Pr} {k:Nat} {M:MC} {x qual:Str} {st:Stmt} {dV:Value} {f:Addr} {fd:FuncData} {ps:List Str} {sp:mU} {body:ISs} (F:FunD q.K x qual st dV f fd) (S:FnScope M.N ps (zZ st)) (g:∀ A,Room k A->Good Γ (q.at A))
  (eM:MOk Γ M (zZ st)) (hm:sM body M (zG st)=true) (len:∀ ws G Q,sp ws G Q XN->ws.length=ps.length)
  (hb:∀ ws G Q,sp ws G Q XN->yW Γ XN body { nx:=fun _ G'=>Q .non G',rt:=Q } (xX M.N ws) G):FnOk q.prog q.w q.K q.mg q.base CX0 (k+1) f fd ps (uK q.K sp):=by
 obtain ⟨oc,od,kV,doc,pm,an,cdv,ct,osl,rfl,lk,hcd⟩:=F.ex;refine zeg lk hcd S (fun vs H Q E h=>?_) fun A outer s H vs Q E hr h=>?_
 .obtain ⟨ws,G,rs,ab,h⟩:=h;rw [rs.length];exact len ws G _ h
 .obtain ⟨ws,G,rs,ab,h⟩:=h;have gg:=g _ hr;refine ⟨lowS q.K (yW Γ XN body),mR.nox (zbB gg body M _ (zG st) ?_ hm),?_⟩
  .exact ⟨⟨rfl,rfl,rfl,rfl,rfl,rfl,rfl,rfl⟩,rfl,eM.sc.symm,S.nd,fun _ _=>rfl,by rw [eM.sc];exact S.kind,eM.fns,eM.gls,eM.mts,eM.its,eM.sxs,eM.ixs⟩
  .refine ⟨xX M.N ws,G,_,sX rs,ab,⟨?_,?_,?_,?_⟩,hb ws G _ h⟩
   .exact fun σ G' τ H' g' _ a' z=>z .non H' g' (show wX q.K H' .non .non from rfl) a'
   .exact fun σ G' τ H' g' _ a' z=>z.elim
   .exact fun σ G' τ H' g' _ a' z=>z.elim
   .exact fun w G' v H' g' r' a' z=>z v H' g' r' a'
structure HD (K:zA) (x qual:Str) (st:Stmt) (dV:Value) (f:Addr):Prop where
 ex:∃ (oc:Value) (od an:Option Addr) (osl:Array (Option Value)) (kV doc pm cdv ct:Value),K.lookup f=some ⟨oc,od,.func (PySem.W.fnOf x qual (yJ st) (zG st) (zZ st) dV kV doc pm an cdv ct),osl⟩/\PySem.W.codeIn K cdv qual=true
 kp:PySem.W.keepIn K (.ref f)=true
theorem HD.mk' {K:zA} {x qual:Str} {st:Stmt} {dV:Value} {f:Addr} {oc:Value} {od an:Option Addr} {osl:Array (Option Value)} {kV doc pm cdv ct:Value}
  (l:K.lookup f=some ⟨oc,od,.func (PySem.W.fnOf x qual (yJ st) (zG st) (zZ st) dV kV doc pm an cdv ct),osl⟩) (c:PySem.W.codeIn K cdv qual=true) (k:PySem.W.keepIn K (.ref f)=true):HD K x qual st dV f:=⟨⟨oc,od,an,osl,kV,doc,pm,cdv,ct,l,c⟩,k⟩
theorem HD.fd {K:zA} {x qual:Str} {st:Stmt} {dV:Value} {f:Addr} (h:HD K x qual st dV f):∃ fd,FunD K x qual st dV f fd/\∃ kV doc pm an cdv ct,fd=PySem.W.fnOf x qual (yJ st) (zG st) (zZ st) dV kV doc pm an cdv ct:=by
 obtain ⟨oc,od,an,osl,kV,doc,pm,cdv,ct,l,c⟩:=h.ex;exact ⟨_,⟨⟨oc,od,kV,doc,pm,an,cdv,ct,osl,rfl,l,c⟩,h.kp⟩,kV,doc,pm,an,cdv,ct,rfl⟩
def zc2 (f:Fn3):Prop:=∀ ws G (Q Q':Q3) E,(∀ w G',Q w G'->Q' w G')->f.sp ws G Q E->f.sp ws G Q' E
def qS (p:Par) (f:Fn3):Prop:=FnE p f/\zc2 f
def bV (m:Mt3):Prop:=∀ x ws G (Q Q':Q3),(∀ w G',Q w G'->Q' w G')->m.sp x ws G Q->m.sp x ws G Q'
def mW (m:It3):Prop:=∀ ws G (R R':List W->(Hw->Prop)->Hw->Prop),(∀ a b c,R a b c->R' a b c)->m.sp ws G R->m.sp ws G R'
def GlE (p:Par) (g:Str×W):Prop:=∀ X,Fits p X->Gl X g.1->∀ q:Pos,(g.1==("__debug__" : Str))=false->g.1 ≠ "__name__" -> PE X (.Name g.1 q) (yA X.K fun _ G Q=>Q g.2 G)
theorem zgC {Γ:Ctx3} {p:Par} (un:p.A.units+200<cLine) (fn:∀ f∈Γ.fn,qS p f) (gl:∀ g∈Γ.gl,GlE p g) (mt:∀ m∈Γ.mt,MtE p m/\bV m) (it:∀ i∈Γ.it,ItE p i/\mW i)
  (cl:∀ c∈Γ.cl,Cls p.K c.1/\∀ f∈c.2,vC p.K c.1 f) (sx:∀ k∈Γ.sx,SxE p k/\xE k.sp) (ix:Γ.ix=[]):Good Γ p where
 mono:=⟨fun f hf=>(fn f hf).2,fun m hm=>(mt m hm).2,fun i hi=>(it i hi).2,fun k hk=>(sx k hk).2,fun k hk=>by rw [ix] at hk;cases hk⟩
 un:=un
 fn:=fun f hf=>(fn f hf).1
 gl:=gl
 mt:=fun m hm=>(mt m hm).1
 it:=fun i hi=>(it i hi).1
 cl:=cl
 sx:=fun k hk=>(sx k hk).1
 ix:=fun k hk=>by rw [ix] at hk;cases hk
theorem xS {α:Type} {P:α->Prop}:∀ x∈([]:List α),P x:=fun _ h=>nomatch h
theorem zW {α:Type} {P:α->Prop} {a:α} {l:List α} (h:P a) (t:∀ x∈l,P x):∀ x∈a::l,P x:=fun x hx=>by
 rcases Zk.mp hx with rfl|hx
 .exact h
 .exact t x hx
theorem zaj {α:Type} {P:α->Prop} {a:α} {l:List α} (t:∀ x∈l,P x) (h:P a):∀ x∈l++[a],P x:=fun x hx=>by
 rcases Z3.mp hx with hx|hx
 .exact t x hx
 .rw [zzO hx];exact h
theorem jW {q:Pr} {A:Around} {x:Str} {w:W} {u:Value} {v:V} (hm:q.mg x=some u) (r:zB v u) (rp:∀ H,wX q.K H w v):GlE (q.at A) (x,w):=by
 intro X fits gl qp hd hn;have hm':X.mg x=some u:=by rw [fits.mg];exact hm
 refine (zf2 gl hm' r hd).imp fun τ H Q h=>?_;obtain ⟨σ,G,hs,ab,h⟩:=h;exact h v H .refl (by have:=rp H;rw [fits.K];exact this) ab
theorem cW {q:Pr} {A:Around} {x:Str} {T:String} (hm:q.mg x=none) (hv:bootBuiltins x=some (.type T)):GlE (q.at A) (x,.ty T):=by
 intro X fits gl qp hd hn;have hm':X.mg x=none:=by rw [fits.mg];exact hm
 refine (zf7 (v:=.ty T) gl hm' hv rfl hn hd).imp fun τ H Q h=>?_;obtain ⟨σ,G,hs,ab,h⟩:=h;exact h (.ty T) H .refl rfl ab
def zby:mU:=fun ws G Q _=>∃ a base ns,ws=[a,.int base]/\dZ G a ns/\ns.length<=63/\(0<=base/\base<=1000)/\∀ d l G',G d=none->G l=none->zV [] G G'->xQ G' d l->Q (.ref d) G'
def zbx:mU:=fun ws G Q _=>∃ d l m,ws=[.ref d,.int m]/\xQ G d l/\(0<m/\m<1073741824)/\∀ r G',0<=r->r<m->zV [d,l] G G'->xQ G' d l->Q (.int r) G'
theorem bC:zc2 ⟨"_law_deal", zby⟩:=fun ws G Q Q' E k hh=>by
 obtain ⟨a,b,ns,h1,h2,h3,h4,h⟩:=hh;exact ⟨a,b,ns,h1,h2,h3,h4,fun d l G' a b c e=>k _ _ (h d l G' a b c e)⟩
theorem bD:zc2 ⟨"_law_draw", zbx⟩:=fun ws G Q Q' E k hh=>by
 obtain ⟨a,b,m,h1,h2,h3,h⟩:=hh;exact ⟨a,b,m,h1,h2,h3,fun d l a b c e=>k _ _ (h d l a b c e)⟩
abbrev zjA:Fn3:=⟨"_law_deal", zby⟩
abbrev tI:Fn3:=⟨"_law_draw", zbx⟩
abbrev eAll:Fn3:=⟨"all", fun ws G Q _=>allS (·.all id) ws G Q⟩
abbrev eLst:Fn3:=⟨"list", fun ws G Q _=>mK ws G Q⟩
section
variable {q : Pr} {A : Around} {k : Nat}
theorem zgS (hm:q.mg "max" = none):qS (q.at A) eMax:=⟨sH hm (by decide +kernel) (fun X f=>ziP f.calm) gC (fun _ _ h=>h),fun ws G Q Q' _ k h=>gC ws G Q Q' k h⟩
theorem zgU (hm:q.mg "len" = none):qS (q.at A) hZ:=⟨sH hm (by decide +kernel) (fun X f=>ziU) fY (fun _ _ h=>h),fun ws G Q Q' _ k h=>fY ws G Q Q' k h⟩
theorem zgY (hm:q.mg "all" = none):qS (q.at A) eAll:=⟨sH hm (by decide +kernel) (fun X f=>zjN f.calm) (fB _) (fun _ _ h=>h),fun ws G Q Q' _ k h=>fB _ ws G Q Q' k h⟩
theorem zgT (hm:q.mg "list" = none):qS (q.at A) eLst:=⟨zgH hm (by decide +kernel) (fun X f=>ziS) gA (fun _ _ h=>h),fun ws G Q Q' _ k h=>gA ws G Q Q' k h⟩
theorem zgQ:MtE (q.at A) ePop/\bV ePop:=⟨zb5 PySem.F.plainAttrs_list PySem.F.slot_list_pop PySem.F.type_list_pop (fun X f=>zih) gG,gG⟩
theorem zgP (hl:q.mg "list" = none) (hm:q.mg "reversed" = none):SxE (q.at A) eRev/\xE eRev.sp:=⟨zhK hl hm (by decide +kernel) gJ (fun X f=>zh5 f.calm),gJ⟩
end
theorem FnE.imp {p:Par} {nm:Str} {sp sp':mU} (h:FnE p ⟨nm,sp'⟩) (k:∀ ws G Q,sp ws G Q XN->sp' ws G Q XN):FnE p ⟨nm,sp⟩:=by
 intro X fits gl args t qp pos mt hn pa hnil hdb hnm;refine (h X fits gl args t qp pos mt hn pa hnil hdb hnm).imp fun τ H Q z=>?_;obtain ⟨σ,G,hs,ab,z⟩:=z;exact ⟨σ,G,hs,ab,mt σ G _ _ (fun ws G1 z=>k _ _ _ z) z⟩
theorem tG {K:zA} {x qual:Str} {st:Stmt} {f:Addr} {fd:FuncData} {ps:List Str} (F:FunD K x qual st .none f fd)
  (h:∀ (kV doc pm:Value) (an:Option Addr) (cdv ct:Value) (us:List Value),us.length=ps.length->bindArgs (PySem.W.fnOf x qual (yJ st) (zG st) (zZ st) .none kV doc pm an cdv ct) ⟨us,[]⟩=pure (ps.zip us)):kY K fd ps []:=by
 obtain ⟨oc,od,kV,doc,pm,an,cdv,ct,osl,rfl,lk,hcd⟩:=F.ex;exact .all (h kV doc pm an cdv ct)
theorem zcE {q:Pr} {j k:Nat} {nm:Str} {f:Addr} {fd:FuncData} {ps:List Str} {sp:mU} (FO:FnOk q.prog q.w q.K q.mg q.base CX0 j f fd ps (uK q.K sp)) (hm:q.mg nm=some (.ref f)) (hk:PySem.W.keepIn q.K (.ref f)=true) (hb:kY q.K fd ps [])
  (mono:zc2 ⟨nm,sp⟩) {A:Around} (hr:Room k A) (hjk:j<=k):qS (q.at A) ⟨nm,sp⟩ :=
 ⟨(zjv (dws:=[]) (dvs:=[]) (FO.mono hjk) hm hk hb (fun _=>rfl) .nil (fun ws G Q Q' z h=>mono ws G Q Q' XN z h) hr).imp fun ws G Q h=>by rw [ZO];exact h,mono⟩
def gN:mU:=fun ws G Q _=>∃ a ns,ws=[a]/\dZ G a ns/\ns.length<=63/\∀ G',Q (.bl true) G'
theorem uZ {K:zA} {H:Hp}:∀ ns:List Int,zF K H (ns.map W.int) (ns.map V.int)
 | []=>rfl
 |n::ns=>⟨.int n,_,rfl,rfl,uZ ns⟩
theorem zcf {K:zA} {H:Hp} {a:Addr} {ns:List Int} (hl:ns.length<=63) (hS:rQ K H a (ns.map V.int)):uK K gN [.ref a] H (fun v _=>v=.bl true) fun _ _ _=>False:=by
 rcases hS with hS|hS
 .refine ⟨[.ref a],fun b=>if b=a then some (.fix (ns.map W.int)) else none,⟨_,[],rfl,rfl,rfl⟩,?_,.ref a,ns,rfl,.inl ⟨a,rfl,by simp [yV]⟩,hl,fun G' v H' _ r _=>r⟩;intro b o e;dsimp only at e
  by_cases hb:b=a
  .subst hb;rw [if_pos rfl] at e;cases e;rcases hS with hS|⟨ob,hS⟩
   .exact ⟨_,hS,_,default,.inl rfl,uZ ns⟩
   .exact ⟨_,hS,_,ob,.inr rfl,uZ ns⟩
  .rw [if_neg hb] at e;cases e
 .exact ⟨[.lsf (ns.map W.int)],fun _=>none,⟨_,[],rfl,⟨a,_,rfl,hS,uZ ns⟩,rfl⟩,(fun b o e=>nomatch e),.lsf (ns.map W.int),ns,rfl,.inr rfl,hl,fun G' v H' _ r _=>r⟩
theorem walk3 {l:PySem.W.OpenLaw} {k:Nat} {q:Program} {loose:List Str} {XP:(Str->Option Value)->Heap->Prop} {YP:World->Heap->Prop} {d:DefRec} {K:Params->PySem.W.Frag} (hn:l.most=some 63) (hdf:d.params.defaults=[]) (hr:Room k callerA)
  (hY:∀ (w:World) (h:Heap),YP w h->(K w.params).In h)
  (F:∀ (w:World) (mg:Str->Option Value) (fa:Addr) (h:Heap),(K w.params).In h->h.Ns mainGlobals mg->mg d.name=some (.ref fa) ->
   ∃ fd:FuncData,(∀ (s:Shared) (u:Value),BindsTo s fd ⟨[u],[]⟩ [("_law_script", u)])/\∀ base:Heap,(K w.params).In base->base.Ns mainGlobals mg->FnOk l.prog w (K w.params) mg base CX0 k fa fd ["_law_script"] (uK (K w.params) gN)) :
  PySem.W.WalkO q loose XP YP l.row.toRowW d [] (fun f vs=>PySem.call f vs) :=
 L2.walk_of (n:=63) (k:=k) (x := "_law_script") (CX:=fun _=>CX0) (sp:=fun w=>uK (K w.params) gN) hn (by decide) hdf hr hY F (fun _ _ a ns hl _ hS=>zcf hl hS) fun _ _ _ _ _ z=>z
end L3
namespace L3
open PySem PySem.Spec PyProof.Rows L2 PySem.SeqAt
def fW:MS:=fun x ws G Q=>match x,ws with
 | .str sep,[.ref p]=>∃ ts:List Str,yV G p=some (ts.map .str)/\JoinOk sep ts=true/\Q (.str (Txt.join sep ts)) G
 |_,_=>False
theorem nP:∀ x ws G (Q Q':Q3),(∀ w G',Q w G'->Q' w G')->fW x ws G Q->fW x ws G Q':=by
 intro x ws G Q Q' k h;unfold fW at h ⊢
 split at h
 .obtain ⟨ts,e,o,h⟩:=h;exact ⟨ts,e,o,k _ _ h⟩
 .exact h.elim
theorem gQ {K:zA} {H:Hp}:∀ {ts:List Str} {vs:List V} {us:List Value},zF K H (ts.map .str) vs->zE vs us->∃ l:List (Str×Tok),l.map (·.1)=ts/\us=strValues l
 | [],vs,us,r,v=>by cases (show vs=[] from r);cases v;exact ⟨[],rfl,rfl⟩
 |t::ts,vs,us,r,v=>by
  obtain ⟨x,tl,rfl,rx,rt⟩:=r;cases (show x=.str t from rx)
  cases v with
  |cons a c =>
   obtain ⟨tk,rfl⟩:=a;obtain ⟨l,e1,e2⟩:=gQ rt c;exact ⟨(t,tk)::l,by rw [zzU,e1],by rw [e2];rfl⟩
theorem zgn {X:Cx}:MtR X "str.join" (lowM X.K fW):=by
 intro pins s σ H x xs v us Q I rx rxs h;obtain ⟨w,ws,G,rw1,rs,ab,h⟩:=h;unfold fW at h
 split at h
 .rename_i sep p;cases (show x=.str sep from rw1);obtain ⟨y,rfl,ry⟩:=jN rs;cases (show y=.ref p from ry);obtain ⟨u,rfl,ru⟩:=jT rxs;cases (show u=Value.ref p from ru);obtain ⟨t,rfl⟩:=rx;obtain ⟨ts,e,ok,h⟩:=h;obtain ⟨vs,sq,rr⟩:=ab.seq e;obtain ⟨its,vv,pl,hz⟩:=I.list sq;obtain ⟨l,e1,e2⟩:=gQ rr vv;subst e2;exact SC.join pl.isList e1 ok fun t' k=>⟨.str (Txt.join sep ts),H,I.tok _,⟨t',rfl⟩,h _ H .refl rfl ab⟩
 .exact h.elim
abbrev zep:Mt3:=⟨"join", "str", fW⟩
theorem zen {q:Pr} {A:Around}:MtE (q.at A) zep/\bV zep:=⟨zb5 PySem.F.plainAttrs_str PySem.F.slot_str_join PySem.F.type_str_join (fun X f=>zgn) nP,nP⟩
def intS:RS:=fun ws G Q=>match ws with
 | [.int i]=>Q (.int i) G
 | [.bl b]=>Q (.int (if b then 1 else 0)) G
 |_=>False
theorem fS:xE intS:=by
 intro ws G Q Q' k h;unfold intS at h ⊢
 split at h
 .exact k _ _ h
 .exact k _ _ h
 .exact h.elim
theorem zjs {X:Cx}:xD X (.type "int") (qQ X.K intS):=by
 intro pins s σ H xs us Q I r h;obtain ⟨ws,G,rs,ab,h⟩:=h;unfold intS at h
 split at h
 .rename_i i;obtain ⟨v,rfl,rv⟩:=jN rs;cases (show v=.int i from rv);exact fK pins s σ H _ us Q I r (.inl ⟨i,rfl,h _ H .refl rfl ab⟩)
 .rename_i b;obtain ⟨v,rfl,rv⟩:=jN rs;cases (show v=.bl b from rv);exact fK pins s σ H _ us Q I r (.inr ⟨b,rfl,h _ H .refl rfl ab⟩)
 .exact h.elim
abbrev eInt:Fn3:=⟨"int", fun ws G Q _=>intS ws G Q⟩
theorem zgW {q:Pr} {A:Around} (hm:q.mg "int" = none):qS (q.at A) eInt:=⟨zgH hm (by decide +kernel) (fun X f=>zjs) fS (fun _ _ h=>h),fun ws G Q Q' _ k h=>fS ws G Q Q' k h⟩
theorem ziY {X:Cx} {pins:List (Addr×Obj)} {σ:L2.St} {H:Hp} {s:Shared} {G:Hw} {w:W} {v:V} {u:Value} {T:String} (I:Inv X pins σ H s) (ab:xP X.K H G) (rv:wX X.K H w v) (ru:zB v u) (ty:tyO G w=some T) :
  ∃ HH:Heap->Prop,PySem.W.KitX X.K u (.type T) HH/\HH s.heap/\u≠.builtin "__main__.__loader__#opaque" := by
 cases w with
 |non=>cases ty;cases (show v=.non from rv);cases (show u=Value.none from ru);exact ⟨_,PySem.W.kitx_none,True.intro,fun z=>nomatch z⟩
 |bl x=>cases ty;cases (show v=.bl x from rv);cases (show u=Value.bool x from ru);exact ⟨_,PySem.W.kitx_bool,True.intro,fun z=>nomatch z⟩
 |int x=>cases ty;cases (show v=.int x from rv);obtain ⟨t,rfl⟩:=(show ∃ t,u=Value.int x t from ru);exact ⟨_,PySem.W.kitx_int,True.intro,fun z=>nomatch z⟩
 |str x=>cases ty;cases (show v=.str x from rv);obtain ⟨t,rfl⟩:=(show ∃ t,u=Value.str x t from ru);exact ⟨_,PySem.W.kitx_str,True.intro,fun z=>nomatch z⟩
 |tup ws' =>
  cases ty;obtain ⟨a,vs,rfl,sq,rr⟩:=rv;cases (show u=Value.ref a from ru);obtain ⟨its,_,p,_⟩:=I.tuple sq;obtain ⟨o,h1,h2,_⟩:=p;exact ⟨_,PySem.W.kitx_tuple,⟨o,h1,h2⟩,fun z=>nomatch z⟩
 |ref p =>
  cases (show v=.ref p from rv);cases (show u=Value.ref p from ru);simp only [tyO] at ty
  have lk:∀ ws',yV G p=some ws'->∃ HH:Heap->Prop,PySem.W.KitX X.K (.ref p) (.type "list") HH/\HH s.heap/\Value.ref p≠.builtin "__main__.__loader__#opaque" := fun ws' el=>by
   obtain ⟨vs,sq,rr⟩:=ab.seq el;obtain ⟨its,_,pl,_⟩:=I.list sq;obtain ⟨o,ho,hc,_⟩:=pl.isList;exact ⟨_,PySem.W.kitx_list,⟨o,ho,hc⟩,fun z=>nomatch z⟩
  split at ty
  .rename_i ws' eg;cases ty;exact lk ws' (by unfold yV;rw [eg])
  .rename_i ws' eg;cases ty;exact lk ws' (by unfold yV;rw [eg])
  .rename_i kvs eg;cases ty;obtain ⟨l,e',rl⟩:=ab.dic eg;obtain ⟨_,_,vs,_,o,_,_,e1,e2,_⟩:=(show xR X.prog X.w H s.heap p (.dK l) from I.hok p _ e');exact ⟨_,PySem.W.kitx_dict,⟨o,e1,e2.1⟩,fun z=>nomatch z⟩
  .cases ty
 |_=>cases ty
def zdb:List W->Option (List String)
 | []=>some []
 | .ty T::r=>(zdb r).map (T::·)
 |_=>none
theorem bJ {K:zA} {H:Hp}:∀ {ws:List W} {Ts:List String} {vs:List V} {us:List Value},zdb ws=some Ts->zF K H ws vs->zE vs us->us=Ts.map .type
 | [],Ts,vs,us,e,r,v=>by cases e;cases (show vs=[] from r);cases v;rfl
 |w::ws,Ts,vs,us,e,r,v=>by
  cases w with
  |ty T =>
   simp only [zdb] at e;obtain ⟨Ts',e',rfl⟩:=Zq.mp e;obtain ⟨x,tl,rfl,rx,rt⟩:=r;cases (show x=.ty T from rx)
   cases v with
   |cons a c =>
    cases (show _=Value.type T from a);rw [bJ e' rt c];rfl
  |_=>cases e
def isjS (K:zA):RS:=fun ws G Q=>match ws with
 | [x,.ty T]=>∃ T' b,tyO G x=some T'/\PySem.W.kitOne K (.type T') (.type T)=some b/\Q (.bl b) G
 | [x,.tup ts]=>∃ T' b Ts,tyO G x=some T'/\zdb ts=some Ts/\PySem.W.kitAny K (.type T') (Ts.map .type)=some b/\Q (.bl b) G
 |_=>False
theorem zcm (K:zA):xE (isjS K):=by
 intro ws G Q Q' k h;unfold isjS at h ⊢
 split at h
 .obtain ⟨T',b,e,e',h⟩:=h;exact ⟨T',b,e,e',k _ _ h⟩
 .obtain ⟨T',b,Ts,e,e',e2,h⟩:=h;exact ⟨T',b,Ts,e,e',e2,k _ _ h⟩
 .exact h.elim
theorem zjm {X:Cx}:xD X (.builtin "isinstance") (qQ X.K (isjS X.K)):=by
 intro pins s σ H xs us Q I r h;obtain ⟨ws,G,rs,ab,h⟩:=h;unfold isjS at h
 split at h
 .rename_i w T;obtain ⟨v,y,rfl,rv,ry⟩:=tU rs;cases (show y=.ty T from ry);obtain ⟨u,c,rfl,ru,rc⟩:=tX r;cases (show c=Value.type T from rc);obtain ⟨T',b,ty,e,h⟩:=h;obtain ⟨HH,kx,hp,hb⟩:=ziY I ab rv ru ty;exact Zcr kx I.kIn hp e hb fun tk=>⟨.bl b,H,I.tok _,rfl,h _ H .refl rfl ab⟩
 .rename_i w ts;obtain ⟨v,y,rfl,rv,ry⟩:=tU rs;obtain ⟨u,c,rfl,ru,rc⟩:=tX r;obtain ⟨T',b,Ts,ty,et,e,h⟩:=h;obtain ⟨a,vs,rfl,sq,rr⟩:=ry;cases (show c=Value.ref a from rc);obtain ⟨its,vv,p,_⟩:=I.tuple sq;obtain ⟨⟨oc,od,dt,sl⟩,h1,h2,n,h3⟩:=p;cases (show oc=_ from h2);cases (show dt=_ from h3);have ei:=bJ et rr vv;subst ei;obtain ⟨HH,kx,hp,hb⟩:=ziY I ab rv ru ty;exact PySem.W.kia_tup kx I.kIn hp h1 e hb fun tk=>⟨.bl b,H,I.tok _,rfl,h _ H .refl rfl ab⟩
 .exact h.elim
end L3
namespace L2
open PySem PySem.Spec PyProof.Rows
section
variable {a b : Bool} {z TI TO i1 i2 l1 l2 : Addr}
theorem zp_go {P:Program} {w:World} {A:Around} {E:Value->Shared->Prop} {s:Shared} {tg:Expr} {u:Value} {i:Nat} {Q:Unit->Shared->Prop} (hd:[z,TI,TO,i1,i2].Nodup) (st:vT a b z TI TO i1 i2 l1 l2 i s.heap)
  (h:∀ h',vT a b z TI TO i1 i2 l1 l2 i h'->(∀ c o,c≠z->s.heap.get? c=some o->h'.get? c=some o)->Q () { s with heap:=h' }):wpAny (model P w) A (letOwnedTupleGo tg (.ref z) u) Q E s:=by
 have stay:Q () s:=h s.heap st fun _ _ _ e=>e
 have core:wpAny (model P w) A (do
   let (.ref r,.ref t):=(Value.ref z,u)|return
   let o ← load r
   match o.cls,o.data with
   | .type n,.fields vs =>
    if ["enumerate", "zip", "dict_itemiterator", "dict_reverseitemiterator", "odict_iterator", "itertools.zip_longest", "itertools.pairwise"].contains n&&vs[0]?==some (rawInt t) then
     rule "for.unpacks-the-owned-tuple"
     updateField r 0 .none
   |_,_=>pure ()) Q E s:=by
  cases u with
  |ref t =>
   obtain ⟨f0,f1,hz,h0,h1,hTI,⟨p,q,hTO⟩,s1,s2⟩:=st;refine Za (Zct hz ?_);dsimp only
   split
   .refine Za (ZaU ?_);show wpAny _ _ (setField (.ref z) 0 .none) Q E s;refine Z8 hz (by simp) fun h' hz' hs'=>h h' ⟨.none,f1,hz',.inl rfl,h1,?_,⟨p,q,?_⟩,s1.at ?_,s2.at ?_⟩ fun c o hc e=>(hs'.2 c hc).trans e
    all_goals simp only [Zaj,Zk,Zt,or_false,not_or,ZbZ,not_false_eq_true,and_true] at hd
    .exact (hs'.2 _ (Ne.symm hd.1.1)).trans hTI
    .exact (hs'.2 _ (Ne.symm hd.1.2.1)).trans hTO
    .exact fun o e=>(hs'.2 _ (Ne.symm hd.1.2.2.1)).trans e
    .exact fun o e=>(hs'.2 _ (Ne.symm hd.1.2.2.2)).trans e
   .exact Zc stay
  |_=>exact Zc stay
 cases tg with
 |Tuple es x p=>exact core
 |List es x=>exact core
 |_=>exact Zc stay
theorem zfe (P:Program) (w:World) (K:PySem.W.Frag) (tg:Expr) (hd:[z,TI,TO,i1,i2].Nodup) (n1:l1∉[z,TI,TO,i1,i2]) (n2:l2∉[z,TI,TO,i1,i2]):Turn P w K tg (Itz a b K l1 l2) [z,TI,TO,i1,i2] z (vT a b z TI TO i1 i2 l1 l2) where
 mem:=by simp
 obj:=fun i h x=>x.obj
 keep:=fun i h h' x k=>x.keep k
 item:=by
  intro X e1 e2 e3 hc i pins s σ H E I hf st go;subst e1;subst e2;subst e3;refine yG (zff (I.ok.hd hc) hd n1 n2 I hf st go) fun r s2 ⟨u,x,H',q1,q2,q3,q4,q5,_,q6⟩=>⟨u,q1,zp_go hd q5 fun h' st' k=>⟨x,H',?_,q3,q4,st',q6⟩⟩;refine q2.turns (t':=s2.toks) (fp:=[z]) (fun c hcz=>?_) fun c o hcz e=>k c o (fun z=>hcz (by rw [z];simp)) e;rw [Zx] at hcz;subst hcz;obtain ⟨_,f2,f3,f4,f5,f6⟩:=hf c (by simp);exact ⟨q6 c (by simp),f2,f3,f4,f5,f6⟩
 done:=by
  intro X e1 e2 e3 hc i pins s σ H E I hf st stop;subst e1;subst e2;subst e3;exact zfi (I.ok.hd hc) hd n1 n2 I hf st stop
 self:=fun A i s Q E st h=>zbd st h
end
end L2
namespace L3
open PySem PySem.Spec PyProof.Rows L2 PySem.SeqAt
def zipI (ws:List W) (G:Hw) (R:List W->(Hw->Prop)->Hw->Prop):Prop:=match ws with
 | [x,y]=>∃ xs ys,xO G x=some xs/\xO G y=some ys/\R (List.zipWith (fun a b=>W.tup [a,b]) xs ys) (fun G'=>xO G' x=some xs/\xO G' y=some ys) G
 |_=>False
theorem zbe:mW ⟨"zip", zipI⟩:=by
 intro ws G R R' k h;replace h:zipI ws G R:=h;show zipI ws G R';unfold zipI at h ⊢
 split at h
 .obtain ⟨xs,ys,e1,e2,h⟩:=h;exact ⟨xs,ys,e1,e2,k _ _ _ h⟩
 .exact h.elim
def bOf (w:W):Bool:=match w with|.tup _=>true|_=>false
theorem sW {K:zA} {H1 H:Hp} {G1 G:Hw} {w:W} {a:Addr} {vs:List V} {b:Bool} {xs:List W} (g:yK K H1 H) (ab:xP K H G) (r1:wX K H1 w (.ref a)) (b1:xO G1 w=some xs) (sq1:bX b K H1 a vs) (hb:b=bOf w) (st:xO G w=some xs) (rr1:zF K H1 xs vs) :
  ∃ vs',bX b K H a vs'/\zF K H xs vs':=by
 cases w with
 |tup ws =>
  subst hb;exact ⟨vs,g.1 _ _ sq1,rr1.mono g⟩
 |ref p =>
  subst hb;cases (show V.ref a=.ref p from r1);obtain ⟨vs',sq,rr⟩:=ab.seq st;exact ⟨vs',sq,rr⟩
 |_=>cases b1
theorem qF {K:zA} {H:Hp} {G:Hw} {w:W} {v:V} {xs:List W} (ab:xP K H G) (r:wX K H w v) (e:xO G w=some xs):∃ a vs,v=.ref a/\bX (bOf w) K H a vs/\zF K H xs vs:=by
 cases w with
 |tup ws =>
  obtain ⟨a,vs,rfl,sq,rr⟩:=r;cases e;exact ⟨a,vs,rfl,sq,rr⟩
 |ref p =>
  cases (show v=.ref p from r);obtain ⟨vs,sq,rr⟩:=ab.seq e;exact ⟨p,vs,rfl,sq,rr⟩
 |_=>cases e
theorem zi9 {K:zA} {H1:Hp} {G1:Hw} {x y:W} {a1 a2:Addr} {vx vy:List V} {xs ys:List W} (rx:wX K H1 x (.ref a1)) (ry:wX K H1 y (.ref a2)) (ex:xO G1 x=some xs) (ey:xO G1 y=some ys) (sx:bX (bOf x) K H1 a1 vx) (sy:bX (bOf y) K H1 a2 vy)
  (rrx:zF K H1 xs vx) (rry:zF K H1 ys vy):ItIs K (Itz (bOf x) (bOf y) K a1 a2) H1 (List.zipWith (fun a b=>W.tup [a,b]) xs ys) (fun G'=>xO G' x=some xs/\xO G' y=some ys) where
 go:=fun i H G g ab st hi=>by
  obtain ⟨vx',sx',rx'⟩:=sW g ab rx ex sx rfl st.1 rrx;obtain ⟨vy',sy',ry'⟩:=sW g ab ry ey sy rfl st.2 rry;have h1:=rx'.length;have h2:=ry'.length;rw [List.length_zipWith] at hi;exact ⟨vx',vy',vx'[i]'(by omega),vy'[i]'(by omega),sx',sy',Ze _,Ze _⟩
 yld:=fun i H G v H' g ab st hi yl=>by
  obtain ⟨vx',sx',rx'⟩:=sW g ab rx ex sx rfl st.1 rrx;obtain ⟨vy',sy',ry'⟩:=sW g ab ry ey sy rfl st.2 rry;obtain ⟨p,x',y',rfl,hp,rfl,e2,e3⟩:=yl;have e2:=e2 vx' sx';have e3:=e3 vy' sy';obtain ⟨wx,ewx,rpx⟩:=rx'.get' e2;obtain ⟨wy,ewy,rpy⟩:=ry'.get' e3;have gr:yK K H (yH H p (.tup [x',y'])):=xJ hp;refine ⟨.tup [wx,wy],?_,gr,⟨p,[x',y'],rfl,.of yO,⟨_,_,rfl,rpx.mono gr,_,_,rfl,rpy.mono gr,rfl⟩⟩,ab.tup hp⟩;rw [List.getElem?_zipWith,ewx,ewy]
 stop:=fun i H G g ab st hi=>by
  obtain ⟨vx',sx',rx'⟩:=sW g ab rx ex sx rfl st.1 rrx;obtain ⟨vy',sy',ry'⟩:=sW g ab ry ey sy rfl st.2 rry;have h1:=rx'.length;have h2:=ry'.length;rw [List.length_zipWith] at hi;refine ⟨vx',vy',sx',sy',?_⟩
  by_cases hl:xs.length<=ys.length
  .left;rw [Zas];omega
  .right;rw [Zas];omega
theorem zjj {q:Pr} {A:Around} (hm:q.mg "zip" = none):ItE (q.at A) ⟨"zip", zipI⟩:=by
 intro X fits gl tg args t qp pos mt hn pa hnil hdb hnm;have hm':X.mg "zip" = none:=by rw [fits.mg];exact hm
 intro pins s σ H R I h
 cases args with
 |nil =>
  obtain ⟨σ3,G,hs,ab,h⟩:=h;exact (hnil rfl _ _ _ h).elim
 |cons a r =>
  obtain ⟨s1,s2⟩:=xV (env:=X.env) (pos:=pos) hn;obtain ⟨σ3,G,hs,ab,h⟩:=h
  have h':=uI (S:=fun vs H1=>∃ x y a1 a2 vx vy,vs=[.ref a1,.ref a2]/\bX (bOf x) X.K H1 a1 vx/\bX (bOf y) X.K H1 a2 vy/\R (Itz (bOf x) (bOf y) X.K a1 a2) H1) mt hs ab h fun ws G1 vs H1 g1 hs1 rs a1 h=>by
   dsimp only at h;unfold zipI at h
   split at h
   .rename_i x y;obtain ⟨v1,v2,rfl,r1,r2⟩:=tU rs;obtain ⟨xs,ys,ex,ey,h⟩:=h;obtain ⟨p1,vx,rfl,sx,rx⟩:=qF a1 r1 ex;obtain ⟨p2,vy,rfl,sy,ry⟩:=qF a1 r2 ey;exact ⟨x,y,p1,p2,vx,vy,rfl,sx,sy,h _ H1 g1 a1 (zi9 r1 r2 ex ey sx sy rx ry)⟩
   .exact h.elim
  refine Call_ (qW I gl hm' (by decide +kernel:bootBuiltins "zip" = some (.type "zip")) (ZP (yG (pa pos pins s σ H _ I h') fun us s1 ⟨vs,H1,I1,r1,q1⟩=>?_) s1 s2));obtain ⟨x,y,a1,a2,vx,vy,e,sx,sy,q⟩:=q1;subst e;obtain ⟨u1,u2,rfl,ru1,ru2⟩:=tX r1;cases (show u1=Value.ref a1 from ru1);cases (show u2=Value.ref a2 from ru2);obtain ⟨itx,vvx,ssx,hzx⟩:=I1.sqB sx;obtain ⟨ity,vvy,ssy,hzy⟩:=I1.sqB sy
  have lt1:a1<s1.heap.objs.size:=by
   cases hb:bOf x<;>rw [hb] at ssx<;>(obtain ⟨o,ho,_⟩:=ssx;exact Zf ho)
  have lt2:a2<s1.heap.objs.size:=by
   cases hb:bOf y<;>rw [hb] at ssy<;>(obtain ⟨o,ho,_⟩:=ssy;exact Zf ho)
  refine zhe ssx ssy fun h' z1 z2 z3 z4 z5 z6 z7=>?_;have I2:Inv X pins σ H1 { s1 with heap:=h',toks:=s1.toks }:=I1.kept z7;have hd:=za4 s1.heap.objs.size;have n1:=zaD _ _ lt1;have n2:=zaD _ _ lt2;have hf:∀ b∈[s1.heap.objs.size+4,s1.heap.objs.size+2,s1.heap.objs.size+3,s1.heap.objs.size,s1.heap.objs.size+1],kF X pins H1 b:=fun b hb=>I1.fpOk (zcz _ _ hb) (I1.hok.fresh (zcz _ _ hb));have st:vT (bOf x) (bOf y) (s1.heap.objs.size+4) (s1.heap.objs.size+2) (s1.heap.objs.size+3) s1.heap.objs.size (s1.heap.objs.size+1) a1 a2 0 h':=⟨.none,.bool false,z1,.inl rfl,.inl rfl,z2,⟨_,_,z3⟩,z4,z5⟩;refine zbd st ⟨_,_,_,_,H1,rfl,I2,zfe X.prog X.w X.K tg hd n1 n2,st,hf,q⟩
abbrev eZpi:It3:=⟨"zip", zipI⟩
theorem zgM {q:Pr} {A:Around} (hm:q.mg "zip" = none):ItE (q.at A) eZpi/\mW eZpi:=⟨zjj hm,zbe⟩
def krun {α:Type} (lt:Nat->Nat->Bool):PySem.W.KasT α->α
 | .ret a=>a
 | .ask i j k=>krun lt (k (lt i j))
section
variable {n : Nat} {p : Array Nat}
end
def srtP (n:Nat) (lt:Nat->Nat->Bool):List Nat:=if n<2 then List.range n else (krun lt (PySem.W.kas_sort n)).toList
theorem jB {α:Type} (d:α) (l:List α):(List.range l.length).map (fun i=>l.getD i d)=l:=by
 apply List.ext_getElem
 .simp
 .intro i h1 h2;simp [h2]
mutual
def ltW:W->W->Option Bool
 | .str x,.str y=>some (decide (x.cps.toList<y.cps.toList))
 | .tup xs,.tup ys=>ltWs xs ys
 |_,_=>none
def ltWs:List W->List W->Option Bool
 | [],[]=>some false
 | [],_::_=>some true
 |_::_,[]=>some false
 |x::xs,y::ys=>if vV x y=true then ltWs xs ys else ltW x y
end
section
variable {X : Cx} {pins : List (Addr × Obj)} {σ : L2.St} {H : Hp} {s : Shared}
end
section
variable {prog : Program} {w : World} {A : Around} {E : Value → Shared → Prop} {s : Shared} {D : Addr} {vs : List Value} {κ : SortKind} {lt : Nat → Nat → Bool}
def But (D:Addr) (h h':Heap):Prop:=∀ b o,b≠D->h.get? b=some o->h'.get? b=some o
end
def ltB (x y:W):Bool:=(ltW x y).getD false
def srt (ws:List W):List W:=(srtP ws.length fun i j=>ltB (ws.getD i .non) (ws.getD j .non)).map fun i=>ws.getD i .non
section
variable {prog : Program} {w : World} {A : Around} {s : Shared} {b fin v : Bool} {C : Bool → Shared → Prop}
end
section
variable {X : Cx} {pins : List (Addr × Obj)} {σ : L2.St} {H : Hp} {s : Shared}
end
end L3
namespace L3
open PySem PySem.Spec PyProof.Rows L2
end L3
namespace PySem.W
open PySem.Spec PySem.Calls PyProof.Rows PySem
theorem bM:builtinKind "BaseException.__getattribute__" = some .slot:=by
 decide +kernel
theorem zbh:splitId "BaseException.__getattribute__" = some ("BaseException", "__getattribute__"):=by
 decide +kernel
section
variable {prog : Program} {w : World} {A : Around} {E : Value → Shared → Prop} {s : Shared} {K : Frag} {x C : Addr} {ox : Obj} {od : Option Obj} {name : Str} {expr : Bool}
theorem bN {M:Model} {nameV:Value} {Q:Unit->Shared->Prop} (X:K.In s.heap) (I:InstAt s.heap x ox C od) (hs:subIn K (.ref C) (.type "BaseException")=some true) (q:Q () s):wpAny M A (checkBuiltinCall "BaseException.__getattribute__" ⟨[.ref x,nameV],[]⟩) Q E s:=by
 have hk:=bM;have hsp:=zbh;have ha:=F.args_bexc_ga (.ref x) nameV;obtain ⟨hh,g,d,t,os⟩:=s;have ty:=I.type (M:=M);have ls:=looks_subIn X hs (M:=M);have LI:Looks M hh (isInstance (.ref x) (.type "BaseException")) true:=ty.andThen ls;simp only [checkBuiltinCall,hsp,hk];refine Za (LI.at ?_)
 wp_walk
 exact q
theorem zc5 {v:Value} {tk:Tok} {Q:Fin->Shared->Prop} (X:K.In s.heap) (I:InstAt s.heap x ox C od) (hf:findObj K C od name=some (.value v)) (q:Q (.done (.ret v)) s) :
  wpAny (model prog w) A (Builtin.«object.__getattribute__» ⟨[.ref x,.str name tk],[]⟩) Q E s:=by
 obtain ⟨hh,g,d,t,os⟩:=s;have ty:=I.type (M:=model prog w);have fd:=looks_find X I hf (M:=model prog w)
 delta Builtin.«object.__getattribute__»
 repeat (any_goals (first|with_reducible refine ty.at ?_|with_reducible refine fd.at ?_|wp_step))
 all_goals exact q
theorem zfp (self:Value):bindSpecial (.builtin "BaseException.__getattribute__") self=pure (.builtin "BaseException.__getattribute__", [self]):=by
 have hop:withoutEnding? "BaseException.__getattribute__" "#opaque" = none:=by decide +kernel
 have hdat:withoutEnding? "BaseException.__getattribute__" "#data" = none:=by decide +kernel
 have hk:=bM;simp only [bindSpecial,typeOf,builtinType,hop,hdat,hk];rfl
theorem zfo {v:Value} {tk:Tok} {R:Result->Shared->Prop} (X:K.In s.heap) (I:InstAt s.heap x ox C od) (hs:subIn K (.ref C) (.type "BaseException")=some true) (hf:findObj K C od name=some (.value v)) (q:R (.ok (.ret v)) s) :
  codeAny (model prog w) A (.call (.builtin "BaseException.__getattribute__") ⟨[.ref x,.str name tk],[]⟩) R s :=
 Zbb (by decide +kernel) F.entry_bexc_ga (bN X I hs (zc5 X I hf q))
theorem zho {nameV:Value} {fill:Bool} {Q:Value->Shared->Prop} (X:K.In s.heap) (I:InstAt s.heap x ox C od) (hga:findIn K (.ref C) "__getattribute__" = some (some (.builtin "BaseException.__getattribute__"))) (hgt:findIn K (.ref C) "__getattr__" = some none)
  (h:codeAny (model prog w) A (.call (.builtin "BaseException.__getattribute__") ⟨[.ref x,nameV],[]⟩) (fun r s'=>match r with|.ok (.ret v)=>wpAny (model prog w) A (handedOut v) Q E s'|_=>False) s) :
  wpAny (model prog w) A (getAttrBy (.ref x) nameV fill expr) Q E s:=by
 obtain ⟨hp,g,d,t,os⟩:=s;have ty:=I.type (M:=model prog w);have lg:=Zcs X hga (M:=model prog w);have lh:=Zcs X hgt (M:=model prog w);unfold getAttrBy;refine ZK (Za (ty.at ?_));refine Za (lg.at ?_);show wpAny _ _ (getAttrByItsOwn _ _ _ _ _ _) _ _ _;unfold getAttrByItsOwn;refine Za ?_;show wpAny _ _ (typeLookup (.ref C) "__getattr__") _ _ _;refine lh.at (Za (ZaK (ZK ?_)));have hx0:¬ ((expr&&onTheHeap (Value.builtin "BaseException.__getattribute__"))=true):=by cases expr<;>exact fun e=>nomatch e
 unfold callGetattribute;rw [if_neg hx0];unfold boundAndCalled;rw [zfp];refine Za (Zc (Zb7 (ZaV h fun r s' z=>?_)));rcases r with _|(_|_|_|_)<;>first|exact z|exact z.elim
theorem xg_value {v:Value} {Q:Value->Shared->Prop} (X:K.In s.heap) (I:InstAt s.heap x ox C od) (hga:findIn K (.ref C) "__getattribute__" = some (some (.builtin "BaseException.__getattribute__"))) (hgt:findIn K (.ref C) "__getattr__" = some none)
  (hs:subIn K (.ref C) (.type "BaseException")=some true) (hf:findObj K C od name=some (.value v)) (hh:handedIn v=true) (q:Q v { s with toks:=s.toks+1 }):wpAny (model prog w) A (getAttr (.ref x) name expr) Q E s:=by
 obtain ⟨hp,g,d,t,os⟩:=s;unfold getAttr;refine Za (wpAny_mkText (zho (s:=⟨hp,g,d,t+1,os⟩) X I hga hgt (zfo (s:=⟨hp,g,d,t+1,os⟩) X I hs hf ?_)));show wpAny (model prog w) A (handedOut v) Q E _;rw [handedOut_of hh];exact Zc q
theorem zbf {g a:Value} {tk:Tok} {Q:Fin->Shared->Prop} (X:K.In s.heap) (I:InstAt s.heap x ox C od) (hf:findObj K C od name=some (.bind g a))
  (q:codeAny (model prog w) A (.call g ⟨[a,.ref x,.ref C],[]⟩) (fun r s'=>match r with|.ok (.ret v)=>Q (.done (.ret v)) s'|_=>False) s) :
  wpAny (model prog w) A (Builtin.«object.__getattribute__» ⟨[.ref x,.str name tk],[]⟩) Q E s:=by
 obtain ⟨hp,gn,dr,tt,st⟩:=s;have ty:=I.type (M:=model prog w);have fd:=looks_find X I hf (M:=model prog w)
 delta Builtin.«object.__getattribute__»
 repeat (any_goals (first|with_reducible refine ty.at ?_|with_reducible refine fd.at ?_|wp_step))
 refine ZaV q fun r s' z=>?_;rcases r with _|(_|_|_|_)<;>first|exact z.elim|exact Zc z
theorem zc6 {Q:Option Value->Shared->Prop} (X:K.In s.heap) (I:InstAt s.heap x ox C od) (hga:findIn K (.ref C) "__getattribute__" = some (some (.builtin "BaseException.__getattribute__"))) (hgt:findIn K (.ref C) "__getattr__" = some none)
  (hs:subIn K (.ref C) (.type "BaseException")=some true) (hf:findObj K C od "__class__" = some (.bind (.builtin "getset_descriptor.__get__") (.builtin "object.__class__"))) (hm:mroIn K C (.type "object")=some true)
  (q:Q (some (.ref C)) { s with toks:=s.toks+1 }):wpAny (model prog w) A (getAttr? (.ref x) "__class__") Q E s:=by
 obtain ⟨hp,g,d,t,os⟩:=s;unfold getAttr? getAttrBy?
 refine Za (wpAny_mkText (Za (ZaK (zho (s:=⟨hp,g,d,t+1,os⟩) X I hga hgt
  (Zbb (by decide +kernel) F.entry_bexc_ga (bN (s:=⟨hp,g,d,t+1,os⟩) X I hs (zbf (s:=⟨hp,g,d,t+1,os⟩) X I hf
   (class_get (s:=⟨hp,g,d,t+1,os⟩) X I hm ?_))))))))
 show wpAny _ _ (handedOut (.ref C)) _ _ _;rw [handedOut_of rfl];exact Zc (Zc q)
end
structure XC (K:Frag) (C:Addr):Prop where
 cls:(clsIn K C).isSome=true
 ga:findIn K (.ref C) "__getattribute__" = some (some (.builtin "BaseException.__getattribute__"))
 gt:findIn K (.ref C) "__getattr__" = some none
 sub:subIn K (.ref C) (.type "BaseException")=some true
 cl:findIn K (.ref C) "__class__" = some (some (.builtin "object.__class__"))
 mro:mroIn K C (.type "object")=some true
theorem zfr {K:Frag} {C:Addr} {od:Option Obj} (T:XC K C) (hn:specialIn K (.builtin "object.__class__") "__get__" = some (some (.builtin "getset_descriptor.__get__"))) (htk:takesIn K (.builtin "object.__class__")=some true) :
  findObj K C od "__class__" = some (.bind (.builtin "getset_descriptor.__get__") (.builtin "object.__class__")):=by
 obtain ⟨cd,hc⟩:=ZaS.mp T.cls;unfold findObj;rw [hc,T.cl];simp only [Option.bind_some,hn,htk]
theorem kitx_exc {K:Frag} {x C:Addr} (T:XC K C) (hn:specialIn K (.builtin "object.__class__") "__get__" = some (some (.builtin "getset_descriptor.__get__"))) (htk:takesIn K (.builtin "object.__class__")=some true) :
  KitX K (.ref x) (.ref C) (fun h=>∃ ox od,InstAt h x ox C od) where
 ty:=fun _ _ _ I=>by obtain ⟨_,_,I⟩:=I;exact I.type
 it:=fun _ _ X _=>by
  obtain ⟨cdD,hcD⟩:=ZaS.mp T.cls;unfold clsIn at hcD
  split at hcD
  .rename_i c' d' cd' sl' ho;intro A' Q' E' s' k q;unfold isType loadHead;refine Za (Zcx (k _ _ (X _ _ ho)) ?_);exact Zc q
  .cases hcD
 ne:=fun hp tp _ _ _ _ X htp=>by
  obtain ⟨cdD,hcD⟩:=ZaS.mp T.cls;rw [Zb2];intro q;cases (Zcc (beq_iff_eq.mp q):C=tp);unfold clsIn at hcD
  split at hcD
  .rename_i c' d' cd' sl' ho;cases (X _ _ ho).symm.trans htp
  .cases hcD
 ca:=fun X I k=>by
  obtain ⟨ox,od,I⟩:=I;exact zc6 X I T.ga T.gt T.sub (zfr T hn htk) T.mro k
end PySem.W
namespace PySem.W
open PySem PySem.Spec PySem.Calls PyProof.Rows Builtin Builtin.ObjectAttr
abbrev xsD:Obj:={ cls:=.type "dict", data:=.dict #[] }
abbrev xsH (hp:Heap) (x:Addr):Heap:=(hp.push xsD).update x fun o=>{ cls:=o.cls,dict:=some hp.objs.size,data:=o.data,slots:=o.slots }
section
variable {prog : Program} {w : World} {A : Around} {Er : Value → Shared → Prop} {hp : Heap} {gn : Array GenState} {dr : Drawn} {tk : Nat} {st : OsState} {K : Frag} {x C : Addr} {fld : Str} {val : Value}
variable {fs : Array Value} {sl : Array (Option Value)} {cd : ClassData}
theorem zhk (e:hp.get? x=some ⟨.ref C,none,.fields fs,sl⟩):x≠hp.objs.size:=Zl (Zf e)
theorem zfk (e:hp.get? x=some ⟨.ref C,none,.fields fs,sl⟩):(xsH hp x).Ns hp.objs.size (fun _=>none):=by
 refine ⟨xsD,#[],_,?_,rfl,fun z hz=>absurd hz (by simp),fun _=>rfl⟩;rw [Heap.get?_update_ne _ _ _ _ (zhk e).symm];exact Heap.get?_push_at rfl rfl
theorem zc3 {nt:Tok} {Q:Fin->Shared->Prop} (X:K.In hp) (at_:hp.get? x=some ⟨.ref C,none,.fields fs,sl⟩) (hc:clsIn K C=some cd) (hd:cd.hasDict=true) (ok:refuseLoop (.ref x) "__setattr__" cd.mro=pure ()) (no:findIn K (.ref C) fld=some none)
  (go:∀ h' n',h'.get? x=some ⟨.ref C,some hp.objs.size,.fields fs,sl⟩->h'.Ns1 hp.objs.size (fun y=>if y=fld then some val else none)->(∀ b o,b≠x->hp.get? b=some o->h'.get? b=some o)->Q (.done (.ret .none)) ⟨h',gn,dr,n',st⟩) :
  wpAny (model prog w) A (Builtin.«object.__setattr__» ⟨[.ref x,.str fld nt,val],[]⟩) Q Er ⟨hp,gn,dr,tk,st⟩:=by
 have I:InstAt hp x ⟨.ref C,none,.fields fs,sl⟩ C none:=⟨at_,rfl,rfl,True.intro⟩;have lm:Looks (model prog w) hp (mroOf (.ref C)) cd.mro:=(looks_clsIn X hc).andThen .now;have lt:=I.type (M:=model prog w);rw [osa_eq,refuse_eq];refine Za (Za (lt.at (Za (lm.at ?_))));rw [ok];refine Zc (Za (lt.at (Za ((Zcs (M:=model prog w) X no).at (Za (Zc ?_))))));show wpAny _ _ (storeInOwnDict (.ref x) (.ref C) (.str fld nt) fld val false) _ _ _;refine Za (Zc (Za (Za (Zcx at_ (Za ((looks_clsIn (M:=model prog w) X hc).at ?_))))));rw [hd];have now:(hp.push xsD).get? x=some ⟨.ref C,none,.fields fs,sl⟩:=Zb _ at_;show wpAny _ _ (alloc xsD >>= fun a=>(update x fun o=>{ cls:=o.cls,dict:=some a,data:=o.data,slots:=o.slots }) >>= fun _=>dictMade (.ref C) x a) _ _ _;refine Za (wpAny_alloc' (Za (wpAny_update' now (Zc ?_))));show wpAny _ _ (storeInDict hp.objs.size (.str fld nt) fld val) _ _ (Shared.mk (xsH hp x) _ _ _ _);unfold storeInDict;unfold newKeyGuard;refine Za (Zc (Za (wpAny_nsSet1 (Heap.Ns1.of_empty (zfk at_)) fun h' nn same=>?_)));obtain ⟨ob,en,ep,e1,e2,few⟩:=nn.count (Within.cons fld val Within.nil)
 refine Za (wpAny_lookBehind e1 (by
  rw [e2];exact pastItsLine_dict (Zy few (by show 1<=sizeLine+1;rw [ZD];decide))) (Zc (go h' _ ?_ nn fun b o hb e=>?_)))
 .rw [same.2 x (zhk at_)];exact Zr _ now rfl
 .rw [same.2 b (Zl (Zf e)),Heap.get?_update_ne _ _ _ _ hb];exact Zb _ e
def vTail (l:List Value):Prop:=∃ cs:List Addr,l=cs.map Value.ref++[.type "ValueError", .type "Exception", .type "BaseException", .type "object"]
theorem zaL (self:Value) {l:List Value} (e:vTail l):refuseLoop self "__setattr__" l=pure ():=by
 obtain ⟨cs,rfl⟩:=e
 induction cs with
 |nil=>exact PySem.F.store_ValueError.passes self
 |cons c r ih=>rw [zzU,ZT,refuseLoop_ref];exact ih
theorem xs_set {Q:Unit->Shared->Prop} (X:K.In hp) (at_:hp.get? x=some ⟨.ref C,none,.fields fs,sl⟩) (hc:clsIn K C=some cd) (hd:cd.hasDict=true) (up:vTail cd.mro)
  (hs:findIn K (.ref C) "__setattr__" = some (some (.builtin "object.__setattr__"))) (hm:mroIn K C (.type "object")=some true) (no:findIn K (.ref C) fld=some none)
  (go:∀ h' n',h'.get? x=some ⟨.ref C,some hp.objs.size,.fields fs,sl⟩->h'.Ns1 hp.objs.size (fun y=>if y=fld then some val else none)->(∀ b o,b≠x->hp.get? b=some o->h'.get? b=some o)->Q () ⟨h',gn,dr,n',st⟩) :
  wpAny (model prog w) A (setAttr (.ref x) fld val) Q Er ⟨hp,gn,dr,tk,st⟩:=by
 have I:InstAt hp x ⟨.ref C,none,.fields fs,sl⟩ C none:=⟨at_,rfl,rfl,True.intro⟩;have st0:=PySem.F.store_object;have lo:Looks (model prog w) hp (isInstance (.ref x) (.type "object")) true:=I.type.andThen (looks_mroIn X hm);refine set_plain (s:=⟨hp,gn,dr,tk,st⟩) X I hs ?_;refine Zbb st0.slot.plain st0.entry (@check_slot (model prog w) _ _ ⟨hp,gn,dr,tk+1,st⟩ "object.__setattr__" "object" "__setattr__" (.ref x) [.str fld tk,val] [] _ st0.kind st0.split lo (st0.args (.ref x) (.str fld tk) val) ?_);exact zc3 X at_ hc hd (zaL _ up) no go
end
end PySem.W
namespace PySem
abbrev xnT (ps:List Value):Obj:={ cls:=.type "tuple", data:=.seq ps.toArray }
abbrev xnO (C n:Addr):Obj:={ cls:=.ref C,data:=.fields #[.ref n,.none,.none,.none,.bool false,.none] }
abbrev xnH (hp:Heap) (C:Addr) (ps:List Value):Heap:=(hp.push (xnT ps)).push (xnO C hp.objs.size)
theorem zey {hp:Heap} {C:Addr} {ps:List Value} {b:Addr} {o:Obj} (e:hp.get? b=some o):(xnH hp C ps).get? b=some o:=Zb _ (Zb _ e)
theorem zhl {hp:Heap} {C:Addr} {ps:List Value}:(xnH hp C ps).get? (hp.objs.size+1)=some (xnO C hp.objs.size):=by heap_get
section
variable {prog : Program} {w : World} {A : Around} {X : Value → Shared → Prop} {hp : Heap} {gn : Array GenState} {dr : Drawn} {tk : Nat} {st : OsState}
variable {nm qn : Str} {C N : Addr} {bs up upB : List Value} {hdct : Bool} {sn : List Str} {sub : List Value} {ab : Bool} {col : Option Bool} {dd : Option Addr} {k0 k1 k2 k3 k5 : Option Value} {B B' new new' ini ini' : String} {up' : List Value}
variable {mN : Str → Option Value} {ps : List Value} {fI : Addr} {oI : Obj}
end
end PySem
namespace L3
open PySem PySem.Spec PyProof.Rows L2
structure XK (K:zA):Prop where
 get:PySem.W.specialIn K (.builtin "object.__class__") "__get__" = some (some (.builtin "getset_descriptor.__get__"))
 tak:PySem.W.takesIn K (.builtin "object.__class__")=some true
theorem cU {X:Cx} {pins:List (Addr×Obj)} {σ:L2.St} {H:Hp} {s:Shared} {a C:Addr} {l:List (Str×V)} (I:Inv X pins σ H s) (e:ExAt H a C l):∃ ox od,PySem.W.InstAt s.heap a ox C od:=by
 rcases e with ⟨e,_⟩|⟨dx,e,e'⟩
 .obtain ⟨⟨fs,h1⟩,_⟩:=I.hok a _ e;exact ⟨_,none,h1,rfl,rfl,True.intro⟩
 .obtain ⟨⟨fs,h1⟩,_⟩:=I.hok a _ e;obtain ⟨mA,⟨od,es,ep,h2,_⟩,_⟩:=I.hok dx _ e';exact ⟨_,some od,h1,rfl,rfl,h2⟩
def dM:List W->Option (List Addr)
 | []=>some []
 | .ref C::r=>(dM r).map (C::·)
 |_=>none
theorem gH {K:zA} {H:Hp}:∀ {ws:List W} {Cs:List Addr} {vs:List V} {us:List Value},dM ws=some Cs->zF K H ws vs->zE vs us->us=Cs.map .ref
 | [],Cs,vs,us,e,r,v=>by cases e;cases (show vs=[] from r);cases v;rfl
 |w::ws,Cs,vs,us,e,r,v=>by
  cases w with
  |ref C =>
   simp only [dM] at e;obtain ⟨Cs',e',rfl⟩:=Zq.mp e;obtain ⟨x,tl,rfl,rx,rt⟩:=r;cases (show x=.ref C from rx)
   cases v with
   |cons a c =>
    cases (show _=Value.ref C from a);rw [gH e' rt c];rfl
  |_=>cases e
def isxS (K:zA):RS:=fun ws G Q=>match ws with
 | [.exc C _ _,.ref D]=>PySem.W.XC K C/\XK K/\∃ b,PySem.W.kitOne K (.ref C) (.ref D)=some b/\Q (.bl b) G
 | [.exc C _ _,.ty T]=>PySem.W.XC K C/\XK K/\∃ b,PySem.W.kitOne K (.ref C) (.type T)=some b/\Q (.bl b) G
 | [.exc C _ _,.tup ts]=>PySem.W.XC K C/\XK K/\∃ b Cs,dM ts=some Cs/\PySem.W.kitAny K (.ref C) (Cs.map .ref)=some b/\Q (.bl b) G
 |ws=>isjS K ws G Q
theorem fU (K:zA):xE (isxS K):=by
 intro ws G Q Q' k h;unfold isxS at h ⊢
 split at h
 .obtain ⟨h1,h2,b,h3,h4⟩:=h;exact ⟨h1,h2,b,h3,k _ _ h4⟩
 .obtain ⟨h1,h2,b,h3,h4⟩:=h;exact ⟨h1,h2,b,h3,k _ _ h4⟩
 .obtain ⟨h1,h2,b,Cs,h3,h4,h5⟩:=h;exact ⟨h1,h2,b,Cs,h3,h4,k _ _ h5⟩
 .exact zcm K _ _ _ _ k h
theorem zjl {X:Cx}:xD X (.builtin "isinstance") (qQ X.K (isxS X.K)):=by
 intro pins s σ H xs us Q I r h;obtain ⟨ws,G,rs,ab,h⟩:=h;unfold isxS at h
 split at h
 .rename_i C ns vs' D;obtain ⟨v,y,rfl,rv,ry⟩:=tU rs;cases (show y=.ref D from ry);obtain ⟨u,c,rfl,ru,rc⟩:=tX r;cases (show c=Value.ref D from rc);obtain ⟨xc,xk,b,e,h⟩:=h;obtain ⟨a,vs,rfl,ex,_⟩:=rv;cases (show u=Value.ref a from ru);exact Zcr (PySem.W.kitx_exc xc xk.get xk.tak) I.kIn (cU I ex) e (fun z=>nomatch z) fun tk=>⟨.bl b,H,I.tok _,rfl,h _ H .refl rfl ab⟩
 .rename_i C ns vs' T;obtain ⟨v,y,rfl,rv,ry⟩:=tU rs;cases (show y=.ty T from ry);obtain ⟨u,c,rfl,ru,rc⟩:=tX r;cases (show c=Value.type T from rc);obtain ⟨xc,xk,b,e,h⟩:=h;obtain ⟨a,vs,rfl,ex,_⟩:=rv;cases (show u=Value.ref a from ru);exact Zcr (PySem.W.kitx_exc xc xk.get xk.tak) I.kIn (cU I ex) e (fun z=>nomatch z) fun tk=>⟨.bl b,H,I.tok _,rfl,h _ H .refl rfl ab⟩
 .rename_i C ns vs' ts;obtain ⟨v,y,rfl,rv,ry⟩:=tU rs;obtain ⟨u,c,rfl,ru,rc⟩:=tX r;obtain ⟨xc,xk,b,Cs,et,e,h⟩:=h;obtain ⟨a,vs,rfl,ex,_⟩:=rv;cases (show u=Value.ref a from ru);obtain ⟨p,ys,rfl,sq,rr⟩:=ry;cases (show c=Value.ref p from rc);obtain ⟨its,vv,pl,_⟩:=I.tuple sq;obtain ⟨⟨oc,od,dt,sl⟩,h1,h2,n,h3⟩:=pl;cases (show oc=_ from h2);cases (show dt=_ from h3);have ei:=gH et rr vv;subst ei;exact PySem.W.kia_tup (PySem.W.kitx_exc xc xk.get xk.tak) I.kIn (cU I ex) h1 e (fun z=>nomatch z) fun tk=>⟨.bl b,H,I.tok _,rfl,h _ H .refl rfl ab⟩
 .exact zjm pins s σ H xs us Q I r ⟨_,G,rs,ab,h⟩
abbrev eIsx (K:zA):Fn3:=⟨"isinstance", fun ws G Q _=>isxS K ws G Q⟩
theorem zgV {q:Pr} {A:Around} (hm:q.mg "isinstance" = none):qS (q.at A) (eIsx q.K):=⟨sH (id := "isinstance") hm (by decide +kernel) (fun X f=>by rw [← show X.K=q.K from f.K];exact zjl) (fU _) (fun _ _ h=>h),fun ws G Q Q' _ k h=>fU _ ws G Q Q' k h⟩
section
variable {X : Cx}
theorem zfn {pins:List (Addr×Obj)} {σ:L2.St} {H:Hp} {s:Shared} {A:Around} {Er:Value->Shared->Prop} {a C:Addr} {l:List (Str×V)} {f:Str} {v:V} {b:Bool} {Q:Value->Shared->Prop} (I:Inv X pins σ H s) (e:ExAt H a C l) (xc:PySem.W.XC X.K C) (hh:PySem.W.hasDictIn X.K C=true)
  (na:PySem.W.findIn X.K (.ref C) f=some none) (lk:l.lookup f=some v) (h:∀ u s',Inv X pins σ H s'->zB v u->Q u s'):wpAny (model X.prog X.w) A (getAttr (.ref a) f b) Q Er s:=by
 rcases e with ⟨_,rfl⟩|⟨dx,e,e'⟩
 .cases lk
 .obtain ⟨⟨fs,h1⟩,_⟩:=I.hok a _ e;obtain ⟨mA,n1,rel⟩:=I.hok dx _ e';obtain ⟨u,hu,ru⟩:=uA.some_of (v:=v) (o:=mA f) (by rw [← lk];exact rel f);obtain ⟨od,h2,look⟩:=fZ n1;exact PySem.W.xg_value I.kIn ⟨h1,rfl,rfl,h2⟩ xc.ga xc.gt xc.sub (PySem.W.findObj_own hh na rfl (by rw [look,hu])) (fQ ru) (h u _ (I.tok _) ru)
def tXf (K:zA) (t:TE) (f:Str):TE:=fun τ H Q=>t τ H fun x H1=>∃ a C l v,x=.ref a/\ExAt H1 a C l/\PySem.W.XC K C/\PySem.W.hasDictIn K C=true/\PySem.W.findIn K (.ref C) f=some none/\l.lookup f=some v/\Q v H1
theorem pe_xf {e:Expr} {f:Str} {pos:Pos} {t:TE} (he:PE X e t) (hb:attributeBase e f X.env (eval e X.env)=eval e X.env):PE X (.Attribute e f pos) (tXf X.K t f):=by
 intro pins s σ H Q I h;refine zcX hb (yG (he pins s σ H _ I h) fun u s1 z=>?_);obtain ⟨x,H1,I1,rx,a,C,l,v,rfl,ex,xc,hh,na,lk,q⟩:=z;cases (show u=Value.ref a from rx);exact zfn I1 ex xc hh na lk fun u' s2 I2 ru=>⟨v,H1,I2,ru,q⟩
end
def xfM (f:Str):Scope->Expr->Option (List Expr):=fun _ e=>match e with
 | .Attribute l y _=>if (y==f&&tD l)=true then some [l] else none
 |_=>none
def xfS (K:zA) (f:Str):RS:=fun ws G Q=>match ws with
 | [.exc C ns vs]=>(PySem.W.XC K C/\PySem.W.hasDictIn K C=true/\PySem.W.findIn K (.ref C) f=some none)/\(match (ns.zip vs).lookup f with|some w=>Q w G|none=>False)
 |_=>False
theorem zc7 (K:zA) (f:Str):xE (xfS K f):=by
 intro ws G Q Q' k h;unfold xfS at h ⊢
 split at h
 .refine ⟨h.1,?_⟩;have h:=h.2
  split at h
  .exact k _ _ h
  .exact h.elim
 .exact h.elim
theorem zfq {f:Str} {sc:Scope} {e:Expr} {xs:List Expr} (h:xfM f sc e=some xs):∃ l pos,e=.Attribute l f pos/\xs=[l]/\tD l=true:=by
 have no:¬ ((none:Option (List Expr))=some xs):=fun e=>nomatch e
 cases e with
 |Attribute l y pos =>
  replace h:(if (y==f&&tD l)=true then some [l] else none)=some xs:=h
  by_cases hb:(y==f&&tD l)=true
  .rw [if_pos hb] at h;obtain ⟨h1,h2⟩:=vD hb;cases h;cases eq_of_beq h1;exact ⟨l,pos,rfl,rfl,h2⟩
  .rw [if_neg hb] at h;exact absurd h no
 |_=>exact absurd h no
theorem bO {K:zA} {H:Hp} {f:Str}:∀ {ns:List Str} {ws:List W} {vs:List V} {w:W},zF K H ws vs->(ns.zip ws).lookup f=some w->∃ v,(ns.zip vs).lookup f=some v/\wX K H w v
 | [],ws,vs,w,_,e=>by cases e
 |n::ns,[],vs,w,_,e=>by cases e
 |n::ns,x::ws,vs,w,r,e=>by
  obtain ⟨v,tl,rfl,rv,rt⟩:=r;rw [Za2,ZB] at e ⊢
  cases q:(f==n) with
  |true=>rw [q] at e;cases e;exact ⟨v,rfl,rv⟩
  |false=>rw [q] at e;exact bO rt e
theorem sx_xf {q:Pr} {A:Around} {f:Str}:SxE (q.at A) ⟨xfM f,xfS q.K f⟩:=by
 intro X fits e xs es he each hn pa;obtain ⟨l,pos,rfl,rfl,ok⟩:=zfq (sc:=X.env.scope) he
 match es,each with
 | [t],each =>
  refine ⟨(pe_xf each.2.1 (kH ok)).imp fun τ H Q h=>?_,fun _=>rfl,fun _ _ _ z=>nomatch z⟩;obtain ⟨σ,G,hs,ab,h⟩:=h;refine yC each.1 hs ab h fun w G1 v H1 g1 hs1 rx a1 h=>?_;have h:xfS q.K f [w] G1 (jK X.K H Q):=h;unfold xfS at h
  split at h
  .rename_i C ns vs ew;cases ew;obtain ⟨⟨h1,h2,h3⟩,h⟩:=h
   split at h
   .rename_i w' lk;obtain ⟨a,us,rfl,ex,rr⟩:=rx;obtain ⟨v',lk',rv⟩:=bO rr lk;rw [show q.K=X.K from (fits.K).symm] at h1 h2 h3;exact ⟨a,C,_,v',rfl,ex,h1,h2,h3,lk',h _ H1 g1 rv a1⟩
   .exact h.elim
  .exact h.elim
end L3
namespace PySem
open PySem.W
def Nw (fs:Array Value):Prop:=∃ v0 v2 v3 v4 v5,fs=#[v0,.none,v2,v3,v4,v5]
section
variable {prog : Program} {w : World} {A : Around} {Er : Value → Shared → Prop} {hp : Heap} {gn : Array GenState} {dr : Drawn} {tk : Nat} {st : OsState} {K : Frag}
variable {nm qn : Str} {C N : Addr} {bs up : List Value} {hdct : Bool} {sn : List Str} {sub : List Value} {ab : Bool} {col : Option Bool} {dd : Option Addr} {k0 k1 k2 k3 k5 : Option Value} {B new ini : String} {upB : List Value} {ps : List Value}
theorem zhn {M:Model} (F:ExcBaseFacts B new ini upB) (cC:hp.get? C=some (excClassObj nm qn C N bs up hdct sn sub ab col dd k0 k1 k2 k3 k5 new)) (isB:(Value.ref C::up).contains (.type B)=true) {Q:Unit->Shared->Prop} (go:Q () ⟨hp,gn,dr,tk,st⟩) :
  wpAny M A (checkBuiltinCall new ⟨.ref C::ps,[]⟩) Q Er ⟨hp,gn,dr,tk,st⟩:=by
 have z:=F.noStar;simp only [checkBuiltinCall,F.newKind,F.newRow,F.newSplit]
 repeat (first|(refine ZaA cC ?_;rw [isB])|refine wpAny_madeBy_exc cC ?_|refine wpAny_staticBase_exc cC ?_|refine Zag cC ?_|simp only [if_false,zzB,bne_self_eq_false]|wp_step)
 exact go
theorem zhm (F:ExcBaseFacts B new ini upB) (cC:hp.get? C=some (excClassObj nm qn C N bs up hdct sn sub ab col dd k0 k1 k2 k3 k5 new)) (isB:(Value.ref C::up).contains (.type B)=true) (noA:(Value.ref C::up).contains (.type "AttributeError")=false) (noN:(Value.ref C::up).contains (.type "NameError")=false)
  (few:ps.length<=sizeLine) {R:Result->Shared->Prop} (go:R (.ok (.ret (.ref (hp.objs.size+1)))) ⟨xnH hp C ps,gn,dr,tk,st⟩):codeAny (model prog w) A (.builtin new ⟨.ref C::ps,[]⟩) R ⟨hp,gn,dr,tk,st⟩:=by
 have z:=F.ends;refine codeAny_builtinAt F.entry ?_;unfold Builtin.«BaseException.__new__»;refine wpAt_bind (show wpAt _ _ _ (stack >>= _) _ _ _ from wpAt_bind (wpAt_stack fun p below=>wpAt_of_wpAny ?_))
 wp_walk
 refine wpAt_of_wpAny ?_;rw [F.owner]
 repeat (first|(with_reducible refine ZaA cC ?_;first|rw [isB]|rw [noA]|rw [noN])|(with_reducible refine wpAny_madeHere_exc F.canon cC ?_)|(with_reducible refine Zag cC ?_)|wp_step)
 show R _ _;rw [ZF];exact go
theorem zfl (X:K.In hp) (F:ExcBaseFacts B new ini upB) (lC:K.lookup C=some (excClassObj nm qn C N bs up hdct sn sub ab col dd k0 k1 k2 k3 k5 new)) (isB:(Value.ref C::up).contains (.type B)=true) (noA:(Value.ref C::up).contains (.type "AttributeError")=false) (noN:(Value.ref C::up).contains (.type "NameError")=false)
  (few:ps.length<=sizeLine) {fI:Addr} (ci:findIn K (.ref C) "__init__" = some (some (.ref fI))) (cf:typeIn K (.ref fI)=some (.type "function")) {Q:Fin->Shared->Prop}
  (go:wpAny (model prog w) A (call (.ref fI) (.ref (hp.objs.size+1)::ps)) (fun r s'=>r=.none/\Q (.done (.ret (.ref (hp.objs.size+1)))) s') Er ⟨xnH hp C ps,gn,dr,tk,st⟩) :
  wpAny (model prog w) A (Builtin.«type.__call__» ⟨.ref C::ps,[]⟩) Q Er ⟨hp,gn,dr,tk,st⟩:=by
 have cC:=X _ _ lC;have X':K.In (xnH hp C ps):=fun a o e=>zey (X a o e);have mine:(Value.ref C::up).contains (.ref C)=true:=by simp
 have cC':=X' _ _ lC;have here:=zhl (hp:=hp) (C:=C) (ps:=ps)
 repeat (first|(with_reducible refine Zag cC ?_)|(with_reducible refine wpAny_madeBy_exc cC ?_)|wp_step)
 refine codeAny_call_builtin_code (ZbR _ F.quiet) (zhn F cC isB (zhm F cC isB noA noN few ?_));show wpAny _ _ _ _ _ (Shared.mk (xnH hp C ps) _ _ _ _);unfold isInstance
 repeat (first|(with_reducible refine Zag here ?_)|(with_reducible refine ZaA cC' ?_;rw [mine])|wp_step)
 refine (show wpAny (model prog w) A (typeLookup (.ref C) "__init__") _ _ _ from (Zcs X' ci (M:=model prog w)).at ?_);refine ZK (Za (show wpAny (model prog w) A (bindSpecial (.ref fI) _) _ _ _ from ?_));unfold bindSpecial;refine Za ((looks_typeIn X' cf (M:=model prog w)).at ?_);rw [if_pos (by decide)];refine Zc (Za (ZN go (fun r s' z=>?_) fun _ _ z=>z));obtain ⟨rfl,z⟩:=z
 wp_walk
 exact z
theorem zfm (X:K.In hp) (F:ExcBaseFacts B new ini upB) (lC:K.lookup C=some (excClassObj nm qn C N bs up hdct sn sub ab col dd k0 k1 k2 k3 k5 new)) (isB:(Value.ref C::up).contains (.type B)=true) (noA:(Value.ref C::up).contains (.type "AttributeError")=false) (noN:(Value.ref C::up).contains (.type "NameError")=false)
  (few:ps.length<=sizeLine) {fI:Addr} (ci:findIn K (.ref C) "__init__" = some (some (.ref fI))) (cf:typeIn K (.ref fI)=some (.type "function")) {Q:Value->Shared->Prop}
  (go:wpAny (model prog w) (A.under (.builtin "type.__call__" ⟨.ref C::ps,[]⟩)) (call (.ref fI) (.ref (hp.objs.size+1)::ps)) (fun r s'=>r=.none/\Q (.ref (hp.objs.size+1)) s') Er ⟨xnH hp C ps,gn,dr,tk,st⟩) :
  wpAny (model prog w) A (call (.ref C) ps) Q Er ⟨hp,gn,dr,tk,st⟩:=by
 have cC:=X _ _ lC;have a1:=tc_lookup;have a2:=tc_bind (.ref C);have a3:(⟨hp,gn,dr,tk,st⟩:Shared).TypeIs (.ref C) "type" := ⟨_,cC,rfl⟩;refine Zb7 (Zbt (show wpAny _ _ (callAny (.ref C) _) _ _ _ from ?_))
 repeat (any_goals (first|assumption|(with_reducible refine Zag cC ?_)|wp_step))
 exact ⟨rfl,codeAny_call_builtin_at (ZbR _ (by decide +kernel)) entry_typeCall (wpAny_check_type_call_sub cC (zfl X F lC isB noA noN few ci cf go))⟩
end
end PySem
namespace L3
open PySem PySem.Spec PyProof.Rows L2
structure XM (K:zA) (C:Addr) (ini:Value):Prop where
 cls:∃ (nm qn:Str) (N:Addr) (bs up:List Value) (hd:Bool) (sn:List Str) (sub:List Value) (ab:Bool) (col:Option Bool) (dd:Option Addr) (k0 k1 k2 k3 k5:Option Value),
  K.lookup C=some (excClassObj nm qn C N bs up hd sn sub ab col dd k0 k1 k2 k3 k5 "ValueError.__new__")/\(Value.ref C::up).contains (.type "ValueError")=true/\(Value.ref C::up).contains (.type "AttributeError")=false/\(Value.ref C::up).contains (.type "NameError")=false/\(Value.ref C::up).contains (.type "BaseException")=true
 ini:PySem.W.findIn K (.ref C) "__init__" = some (some ini)
 kp:PySem.W.keepIn K (.ref C)=true
def ExN (a C:Addr) (dx:Option Addr):Heap->Prop:=fun h=>∃ fs,h.get? a=some { cls:=.ref C,dict:=dx,data:=.fields fs }/\Nw fs
theorem ze5 {P:Program} {w:World} {H:Hp} {h:Heap} {a C:Addr} {dx:Option Addr} {fs:Array Value} (e:h.get? a=some { cls:=.ref C,dict:=dx,data:=.fields fs }) (n:Nw fs):xR P w H h a (.ext (ExN a C dx)) :=
 ⟨⟨fs,e,n⟩,⟨_,e⟩,fun h1 h2 z k=>by obtain ⟨fs',e,n⟩:=z;exact ⟨fs',k _ e,n⟩⟩
theorem ze4 {P:Program} {w:World} {H:Hp} {h:Heap} {a C:Addr} {dx:Option Addr} {fs:Array Value} (e:h.get? a=some { cls:=.ref C,dict:=dx,data:=.fields fs }):xR P w H h a (.ext (bU a C dx)) :=
 ⟨⟨fs,e⟩,⟨_,e⟩,fun h1 h2 z k=>by obtain ⟨fs',e⟩:=z;exact ⟨fs',k _ e⟩⟩
structure XI (K:zA) (C:Addr) (f:Str):Prop where
 cls:∃ cd,PySem.W.clsIn K C=some cd/\cd.hasDict=true/\PySem.W.vTail cd.mro
 sa:PySem.W.findIn K (.ref C) "__setattr__" = some (some (.builtin "object.__setattr__"))
 mro:PySem.W.mroIn K C (.type "object")=some true
 no:PySem.W.findIn K (.ref C) f=some none
theorem zbO {hp:Heap} {od v:Obj} {b:Addr} (z:b≠hp.objs.size) (q:(hp.push od).get? b=some v):hp.get? b=some v:=by
 obtain ⟨q1,q2⟩:=ZbS.mp q;refine ZbS.mpr ⟨?_,q2⟩;obtain ⟨os,rs⟩:=hp;simpa [Heap.push,Array.getElem?_push,z] using q1
section
variable {X : Cx}
theorem zfj {pins:List (Addr×Obj)} {σ:L2.St} {H:Hp} {s:Shared} {A:Around} {Er:Value->Shared->Prop} {a C:Addr} {f:Str} {y:V} {u:Value} {Q:Unit->Shared->Prop} (I:Inv X pins σ H s) (e:H a=some (.ext (ExN a C none))) (T:XI X.K C f) (ry:zB y u)
  (h:∀ dx s',H dx=none->dx≠a->Inv X pins σ (yH (yH H dx (.xd [(f,y)])) a (.ext (ExN a C (some dx)))) s'->Q () s'):wpAny (model X.prog X.w) A (setAttr (.ref a) f u) Q Er s:=by
 obtain ⟨⟨fs,h1,nw⟩,_⟩:=I.hok a _ e;obtain ⟨cd,hc,hd,up⟩:=T.cls;obtain ⟨hp,gn,dr,tk,st⟩:=s;refine PySem.W.xs_set I.kIn h1 hc hd up T.sa T.mro T.no fun h' n' now ns keep=>?_;have fr:H hp.objs.size=none:=I.hok.fresh (zzR _);have ne:hp.objs.size≠a:=fun z=>by rw [z,e] at fr;cases fr
 obtain ⟨od,es,ep,e1,rest⟩:=id ns;have live:=(ZbS.mp e1).2;have at1:(hp.push od).get? hp.objs.size=some od:=Zd hp live
 have rel:∀ g,uA ([(f,y)].lookup g) (if g=f then some u else none):=fun g=>by
  by_cases q:g=f
  .subst q;rw [if_pos rfl,List.lookup_cons_self];exact ry
  .have:(g==f)=false:=by simpa using q
   rw [if_neg q,ZB,this];exact True.intro
 have I1:=I.laid (a:=hp.objs.size) (h':=hp.push od) (t':=tk) (o:=.xd [(f,y)]) (fun b v q=>Zb _ q) (zzR _) ⟨_,ns.at fun o q=>by rw [e1] at q;cases q;exact at1,rel⟩
 have I2:=I1.write (x:=a) (e:=a) (h':=h') (t':=n') (o:=.ext (ExN a C (some hp.objs.size))) (by rw [zR ne.symm,e];exact True.intro) (.inl rfl) (fun b v hb q=>by
   by_cases z:b=hp.objs.size
   .subst z;rw [at1] at q;cases q;exact e1
   .exact keep b v hb (zbO z q)) ⟨_,now⟩ (ze5 now nw)
 exact h _ _ fr ne I2
def sXs (K:zA) (ta tv:TE) (f:Str):TS:=fun D σ H=>tv σ H fun y H1=>ta σ H1 fun x H2=>∃ a C,x=.ref a/\H2 a=some (.ext (ExN a C none))/\XI K C f/\∀ dx,H2 dx=none->dx≠a->D.nx σ (yH (yH H2 dx (.xd [(f,y)])) a (.ext (ExN a C (some dx))))
theorem ps_xs {o value:Expr} {f:Str} {pos pos':Pos} {ta tv:TE} (ha:PE X o ta) (hv:PE X value tv) (hs:swapsWith value (some (.Attribute o f pos')) pos.line X.env=pure false):PS X (.Assign [.Attribute o f pos'] value pos) (sXs X.K ta tv f):=by
 intro pins s σ H D I h;refine plainObj_wpAny_Assign_Attribute (yG (hv pins s σ H _ I h) fun u s1 z=>?_) hs;obtain ⟨y,H1,I1,ry,z⟩:=z;refine yG (ha pins s1 σ H1 _ I1 z) fun ov s2 z=>?_;obtain ⟨x,H2,I2,rx,a,C,rfl,e,T,z⟩:=z;cases (show ov=Value.ref a from rx);exact zfj I2 e T ry fun dx s3 fr ne I3=>⟨σ,_,I3,z dx fr ne⟩
end
def spXI (K:zA) (f:Str):Sp:=fun vs H Q _=>∃ a v C,vs=[.ref a,v]/\H a=some (.ext (ExN a C none))/\XI K C f/\∀ dx,H dx=none->dx≠a->Q .non (yH (yH H dx (.xd [(f,v)])) a (.ext (ExN a C (some dx))))
theorem zc4 {q:Pr} {k:Nat} {qual p f:Str} {stm:Stmt} {fI:Addr} {fd:FuncData} {p1 p2 p3 p4:Pos} (F:Fun q.K "__init__" qual stm fI fd) (S:FnScope ["self", p] ["self", p] (zZ stm)) (hb:zG stm=[.Assign [.Attribute (.Name "self" p1) f p2] (.Name p p3) p4])
  (v0:visB (zZ stm) "self" = true) (v1:visB (zZ stm) p=true) (n1:(p==("__debug__" : Str))=false) (n2:(p==("__classdict__" : Str))=false):FnOk q.prog q.w q.K q.mg q.base CX0 (k+1) fI fd ["self", p] (spXI q.K f):=by
 refine F.ok S (fun vs H Q E h=>by obtain ⟨a,v,C,rfl,_⟩:=h;rfl) (fun cdv A outer s H vs Q E hr h=>?_);obtain ⟨a,v,C,rfl,e,T,h⟩:=h;rw [hb];refine ⟨_,zbP (ps_xs (dI (i:=0) rfl (zbk v0) (by decide +kernel) (by decide +kernel)) (dI (i:=1) rfl (zbk v1) n1 n2) (wM rfl)),?_⟩;exact ⟨v,rfl,.ref a,rfl,a,C,rfl,e,T,fun dx fr ne=>h dx fr ne⟩
def mk1 (C:Addr) (f:Str):List V->Hp->VK->Prop:=fun vs H Q=>∃ v,vs=[v]/\∀ a dx,H a=none->H dx=none->dx≠a->Q (.ref a) (yH (yH H dx (.xd [(f,v)])) a (.ext (ExN a C (some dx))))
theorem ziN {X:Cx} {C fI:Addr} {f p:Str} {k:Nat} {fd:FuncData} (T:XM X.K C (.ref fI)) (TI:XI X.K C f) (F:FnOk X.prog X.w X.K X.mg X.base CX0 k fI fd ["self", p] (spXI X.K f)) (hr:Room (k+1) X.A) (hb:kY X.K fd ["self", p] []) (hf:PySem.W.typeIn X.K (.ref fI)=some (.type "function")) :
  xD X (.ref C) (mk1 C f):=by
 intro pins s σ H xs us Q I r h;obtain ⟨v,rfl,h⟩:=h;obtain ⟨u,rfl,ru⟩:=jT r;obtain ⟨nm,qn,N,bs,up,hd,sn,sub,abb,col,dd,k0,k1,k2,k3,k5,lC,isB,noA,noN,isX⟩:=T.cls;obtain ⟨hp,gn,dr,tk,st⟩:=s;have one:([u]:List Value).length<=sizeLine:=by show 1<=sizeLine;rw [ZD];decide
 refine zfm I.kIn PySem.F.excBase_ValueError lC isB noA noN one T.ini hf ?_;have fr:H (hp.objs.size+1)=none:=I.hok.fresh (Zbj _);have I2:=I.laid (a:=hp.objs.size+1) (h':=xnH hp C [u]) (t':=tk) (o:=.ext (ExN (hp.objs.size+1) C none)) (fun b o=>zey) (Zbj _) (ze5 zhl ⟨_,_,_,_,_,rfl⟩);generalize hp.objs.size+1=e at fr I2 ⊢
 have hq:spXI X.K f [.ref e,v] (yH H e (.ext (ExN e C none))) (fun v' H2=>v'=.non/\Q (.ref e) H2) E0:=by
  refine ⟨e,v,C,rfl,yO,TI,fun dx fx ne=>⟨rfl,?_⟩⟩;have fx':H dx=none:=by rw [zR ne] at fx;exact fx
  have same:yH (yH (yH H e (.ext (ExN e C none))) dx (.xd [(f,v)])) e (.ext (ExN e C (some dx)))=yH (yH H dx (.xd [(f,v)])) e (.ext (ExN e C (some dx))):=by
   funext b
   unfold yH
   by_cases z:b=e
   .simp only [if_pos z]
   .by_cases z':b=dx
    .simp only [if_neg z,if_pos z']
    .simp only [if_neg z,if_neg z']
  rw [same];exact h e dx fr fx' ne
 refine Zb7 (ZaV (F.run _ X.stack _ _ ⟨[.ref e,u],[]⟩ [.ref e,u] [.ref e,v] _ E0 (hr.make C [u] []) (I2.env0.make C [u] []) (hb _ [.ref e,u] I2.kIn rfl) (.cons rfl (.cons ru .nil)) hq) fun rr s' z=>?_)
 cases rr with
 |error e'=>exact zf8 pins σ _ _ e' s' I2 z
 |ok fl =>
  cases fl with
  |ret u' =>
   obtain ⟨v',H',I3,rv',ev,q3⟩:=I2.after z;subst ev;exact ⟨rv',⟨.ref e,H',I3,rfl,q3⟩⟩
  |next=>exact False.elim z
  |brk=>exact False.elim z
  |cont=>exact False.elim z
structure Lf (fs:List Addr) (a:Addr) (old:Option Addr) (T:Addr) (fl:Value) (h h':Heap):Prop where
 keep:∀ b o,h.get? b=some o->b≠a->old≠some b->b∉fs->h'.get? b=some o
 slot:∀ b o,h.get? b=some o->b≠a->old≠some b->∃ sl,h'.get? b=some { o with slots:=sl }
 it:∀ o vs,h.get? a=some o->o.data=.fields vs->∃ vs',h'.get? a=some { o with data:=.fields vs' }/\vs'[1]?=some (.ref T)
 tb:∃ oT ts,h'.get? T=some oT/\oT.data=.fields ts/\ts[3]?=some fl
 new:h.objs.size<=T
 old':∀ b o,old=some b->h.get? b=some o->∃ o',h'.get? b=some o'
section
variable {M : Model} {A : Around} {E : Value → Shared → Prop} {s : Shared} {base : Heap} {env : Env} {outer : List Env} {L a : Addr}
theorem mapF {o:Obj} {vs:Array Value} (hd:o.data=.fields vs) (f:Array Value->Array Value):Obj.mapFields f o={ o with data:=.fields (f vs) }:=by
 obtain ⟨c,d,dt,sl⟩:=o;subst hd;rfl
theorem sY {h:Heap} {b:Addr} {o:Obj} {vs:Array Value} (e:h.get? b=some o) (hd:o.data=.fields vs) (f:Array Value->Array Value):(h.update b (Obj.mapFields f)).get? b=some { o with data:=.fields (f vs) }:=by
 rw [← mapF hd];exact Zr _ e (by rw [mapF hd];rfl)
theorem zaH {oe:Obj} {vs:Array Value} {head:Value} {had:Bool} {Q:Unit->Shared->Prop} (hfr:A.frames=some (env::outer)) (hl:s.heap.FunFrames base (env::outer)) (hf:env.frame=some L) (he:s.heap.get? a=some oe) (hd:oe.data=.fields vs) (hz:1<vs.size)
  (q:∀ h' T,Lf (rH (env::outer)) a none T (rawInt L) s.heap h'->Q () { s with heap:=h' }) :
  wpAny M A (frameOf env >>= fun x=>entryPlaceOf L had >>= fun pl=>EntryCells.newEntry head x .none (rawInt L) .none pl >>= fun b=>setField (.ref a) 1 b) Q E s:=by
 have na:a∉rH (env::outer):=fun z=>by
  obtain ⟨_,o,ho,no⟩:=hl.mem z;rw [he] at ho;cases ho;exact no vs hd
 refine Za (wpAny_frameOf_fun hfr hl hf fun h1 s1=>Za (wpAny_entryPlaceOf fun pl hp=>?_));unfold EntryCells.newEntry newFields;refine Za (ZA ?_ (hp.sizeOk5 _ _ _ _ _));have e1:h1.get? a=some oe:=(s1.2.1 a na).trans he;have lt:a<h1.objs.size:=Zf e1;refine ZM (Zb _ e1) hd hz (q _ h1.objs.size ⟨fun b o eb n1 _ n2=>?_,fun b o eb n1 _=>?_,fun o ws eo ew=>?_,?_,by rw [s1.1];exact zzR _,fun b o z=>by cases z⟩)
 .rw [Zm _ _ (Ne.symm n1)];exact Zb _ ((s1.2.1 b n2).trans eb)
 .obtain ⟨sl,es⟩:=s1.2.2 b o eb;exact ⟨sl,by rw [Zm _ _ (Ne.symm n1)];exact Zb _ es⟩
 .rw [he] at eo;cases eo;rw [hd] at ew;cases ew;exact ⟨_,sY (Zb _ e1) hd _,by simp [hz]⟩
 .refine ⟨_,_,(Zm _ _ (Zl lt)).trans (Zd h1 rfl),rfl,?_⟩
  first|(simp;done)|(rcases hp with rfl|⟨_,_,_,_,_,_,_,rfl⟩<;>simp)
theorem zb2 {oe:Obj} {vs:Array Value} {Q:Unit->Shared->Prop} (hfr:A.frames=some (env::outer)) (hl:s.heap.FunFrames base (env::outer)) (hf:env.frame=some L) (he:s.heap.get? a=some oe) (hd:oe.data=.fields vs) (h1:vs[1]?=some .none)
  (q:∀ h' T,Lf (rH (env::outer)) a none T (rawInt L) s.heap h'->Q () { s with heap:=h' }):wpAny M A (noteFrame (.ref a) env) Q E s:=by
 unfold noteFrame;simp only [hf];refine Za (Zu he hd h1 ?_);rw [if_neg (by decide)];exact zaH hfr hl hf he hd (Z6.mp h1).1 q
structure Trc (h:Heap) (a T:Addr):Prop where
 it:∃ o vs,h.get? a=some o/\o.data=.fields vs/\vs[1]?=some (.ref T)
 ne:T≠a
 tb:∃ o ts,h.get? T=some o/\o.data=.fields ts/\ts[3]?=some .none
theorem zb1 {T0:Addr} {Q:Unit->Shared->Prop} (hfr:A.frames=some (env::outer)) (hl:s.heap.FunFrames base (env::outer)) (hf:env.frame=some L) (t:Trc s.heap a T0)
  (q:∀ h' T,Lf (rH (env::outer)) a (some T0) T (rawInt L) s.heap h'->Q () { s with heap:=h' }):wpAny M A (noteFrame (.ref a) env) Q E s:=by
 obtain ⟨oe,vs,he,hd,h1⟩:=t.it;obtain ⟨oT,ts,hT,dT,h3⟩:=t.tb;have z3:3<ts.size:=(Z6.mp h3).1
 have nT:T0∉rH (env::outer):=fun z=>by
  obtain ⟨_,o,ho,no⟩:=hl.mem z;rw [hT] at ho;cases ho;exact no ts dT
 unfold noteFrame;simp only [hf];refine Za (Zu he hd h1 ?_);rw [if_pos (show (Value.ref T0 != Value.none)=true by simp)];refine Za (Zu hT dT h3 ?_);rw [if_neg (show ¬ ((Value.none==rawInt L)=true) by simp [rawInt])];refine Za (ZM hT dT z3 ?_);have off:∀ {b:Addr} {o:Obj},b≠T0->s.heap.get? b=some o->(s.heap.update T0 (Obj.mapFields (·.setIfInBounds 3 Value.none))).get? b=some o:=fun n e=>(Zm _ _ (Ne.symm n)).trans e
 have nf:∀ b o,s.heap.get? b=some o->(∀ vs,o.data≠.fields vs)->b≠T0:=fun b o e no z=>by
  rw [z,hT] at e;cases e;exact no ts dT
 refine zaH (base:=base) (a:=a) (oe:=oe) (s:={ s with heap:=s.heap.update T0 (Obj.mapFields (·.setIfInBounds 3 Value.none)) }) hfr (hl.of_keeps fun b o e no=>⟨o,off (nf b o e no) e,rfl⟩) hf (off t.ne.symm he) hd (Z6.mp h1).1 fun h' T x=>q h' T ?_;refine ⟨fun b o e n1 n2 n3=>x.keep b o (off (fun z=>n2 (by rw [z])) e) n1 (by simp) n3,fun b o e n1 n2=>x.slot b o (off (fun z=>n2 (by rw [z])) e) n1 (by simp),fun o ws e ew=>?_,x.tb,?_,fun b o eb e=>?_⟩
 .exact x.it o ws (off t.ne.symm e) ew
 .have:=x.new
  rwa [Heap.size_after_update] at this
 .cases eb;obtain ⟨sl,es⟩:=x.slot T0 _ (sY hT dT _) t.ne (by simp);exact ⟨_,es⟩
theorem sG {fs:List Addr} {old:Option Addr} {T:Addr} {fl:Value} {h0:Heap} {Q:Unit->Shared->Prop} (x:Lf fs a old T fl h0 s.heap) (he:∃ o vs,h0.get? a=some o/\o.data=.fields vs) (q:∀ h',Lf fs a old T .none h0 h'->Q () { s with heap:=h' }):wpAny M A (setFlight (.ref a) none) Q E s:=by
 obtain ⟨o,vs,he,hd⟩:=he;obtain ⟨vs',e1,h1⟩:=x.it o vs he hd;obtain ⟨oT,ts,eT,dT,h3⟩:=x.tb;have z3:3<ts.size:=(Z6.mp h3).1;have off:∀ {b:Addr} {o:Obj},h0.get? b=some o->∀ {u:Obj},s.heap.get? b=some u->(s.heap.update T (Obj.mapFields (·.setIfInBounds 3 Value.none))).get? b=some u:=fun e u r=>(Zm _ _ (Ne.symm (Zl (Zi (Zf e) x.new)))).trans r;unfold setFlight;refine Za (Zu e1 rfl h1 ?_);rw [if_pos (show (Value.ref T != Value.none)=true by simp)];refine ZM eT dT z3 (q _ ⟨fun b o e n1 n2 n3=>off e (x.keep b o e n1 n2 n3),fun b o e n1 n2=>?_,fun o ws e ew=>?_,⟨_,_,sY eT dT _,rfl,by simp [z3]⟩,x.new,fun b o eb e=>?_⟩)
 .obtain ⟨sl,r⟩:=x.slot b o e n1 n2;exact ⟨sl,off e r⟩
 .obtain ⟨ws',r,r1⟩:=x.it o ws e ew;exact ⟨ws',off e r,r1⟩
 .obtain ⟨o',r⟩:=x.old' b o eb e;exact ⟨o',off e r⟩
theorem Lf.trc {fs:List Addr} {old:Option Addr} {T:Addr} {h h':Heap} (x:Lf fs a old T .none h h') (he:∃ o vs,h.get? a=some o/\o.data=.fields vs):Trc h' a T:=by
 obtain ⟨o,vs,he,hd⟩:=he;obtain ⟨vs',e1,h1⟩:=x.it o vs he hd;exact ⟨⟨_,vs',e1,rfl,h1⟩,Z1 (Zi (Zf he) x.new),x.tb⟩
theorem zcc {oe:Obj} {vs:Array Value} {Q:Unit->Shared->Prop} (hfr:A.frames=some (env::outer)) (hl:s.heap.FunFrames base (env::outer)) (hf:env.frame=some L) (he:s.heap.get? a=some oe) (hd:oe.data=.fields vs) (h1:vs[1]?=some .none)
  (q:∀ h' T,Lf (rH (env::outer)) a none T .none s.heap h'->Q () { s with heap:=h' }):wpAny M A (leaving env (.ref a)) Q E s:=by
 unfold leaving;exact Za (zb2 hfr hl hf he hd h1 fun h' T x=>sG x ⟨oe,vs,he,hd⟩ fun h2 x2=>q h2 T x2)
theorem zdT {T0:Addr} {Q:Unit->Shared->Prop} (hfr:A.frames=some (env::outer)) (hl:s.heap.FunFrames base (env::outer)) (hf:env.frame=some L) (t:Trc s.heap a T0)
  (q:∀ h' T,Lf (rH (env::outer)) a (some T0) T .none s.heap h'->Q () { s with heap:=h' }):wpAny M A (leaving env (.ref a)) Q E s:=by
 obtain ⟨oe,vs,he,hd,h1⟩:=t.it;unfold leaving;exact Za (zb1 hfr hl hf t fun h' T x=>sG x ⟨oe,vs,he,hd⟩ fun h2 x2=>q h2 T x2)
end
def CXr (P:Program) (w:World):CXT:=fun outer H s E e s'=>∃ (a C:Addr) (dx:Option Addr) (T:Addr) (H':Hp),e=.ref a/\s'.os=s.os/\AllBare s'.gens/\Un (rH outer) [] H H' s.heap s'.heap/\vS P w H' s'.heap /\
 H' a=some (.ext (bU a C dx))/\Trc s'.heap a T/\s.heap.objs.size<=T/\H' T=none/\E (.ref a) none H'
section
variable {P : Program} {w : World} {fs : List Addr} {a T : Addr} {old : Option Addr} {fl : Value} {h h' : Heap} {H : Hp} {φ ψ : Heap → Prop}
theorem zeY (ok:vS P w H h) (x:Lf fs a old T fl h h') (hf:∀ b∈fs,H b=none) (ho:∀ b,old=some b->H b=none) (ha:H a=some (.ext φ)) (new:xR P w (yH H a (.ext ψ)) h' a (.ext ψ)):vS P w (yH H a (.ext ψ)) h':=fun b o e=>by
 by_cases hb:b=a
 .subst hb;rw [yO] at e;cases e;exact new
 .rw [zR hb] at e
  have kp:∀ c u,(∃ v,H c=some v)->c≠a->h.get? c=some u->h'.get? c=some u:=fun c u hc ne q=>by
   obtain ⟨v,hv⟩:=hc;refine x.keep c u q ne (fun z=>?_) fun z=>?_
   .rw [ho c z] at hv;cases hv
   .rw [hf c z] at hv;cases hv
  refine (ok b o e).stay (fun c u hc q=>?_) (fun c q=>?_) fun c xs q=>?_
  .rcases hc with rfl|hc
   .exact kp c u ⟨_,e⟩ hb q
   .exact kp c u ⟨_,hc⟩ (fun z=>by rw [z,ha] at hc;cases hc) q
  .rw [zR fun z=>by rw [z,ha] at q;cases q];exact q
  .rw [zR fun z=>by rw [z,ha] at q;cases q];exact q
end
section
variable {X : Cx} {pins : List (Addr × Obj)} {σ : L2.St} {H : Hp} {s : Shared} {a T : Addr} {old : Option Addr} {fl : Value} {h' : Heap} {φ ψ : Heap → Prop}
theorem zfv (I:Inv X pins σ H s) (x:Lf (rH X.stack) a old T fl s.heap h') (ha:H a=some (.ext φ)) (hat:∃ o vs,s.heap.get? a=some o/\o.data=.fields vs) (hold:∀ b,old=some b->X.s₀.heap.objs.size<=b) (hex:X.ex=[]):Un X.fs [] X.H₀ (yH H a (.ext ψ)) X.s₀.heap h':=by
 have nx:∀ b:Addr,b∉X.ex:=fun b=>by rw [hex];simp
 have no:∀ b o,X.s₀.heap.get? b=some o->old≠some b:=fun b o e z=>absurd (Zi (Zf e) (hold b z)) (Zad _);have nL:∀ b o,X.s₀.heap.get? b=some o->b≠X.env.locals:=fun b o e=>Zl (Zi (Zf e) I.ok.above);have na:∀ b,H b=none->b≠a:=fun b n z=>by rw [z,ha] at n;cases n
 refine ⟨fun b o e n hb _=>?_,fun b o e n hb _=>?_,fun b o e n _=>?_,fun b o e _=>?_,fun b xs e=>?_,fun b o u e=>?_,fun b ps e=>?_⟩
 .refine x.keep b o (I.base.keep b o e n hb (nx b)) (na b (I.base.free b o e n (nx b))) (no b o e) fun z=>?_;rcases Zk.mp (I.stkSub b z) with z|z
  .exact nL b o e z
  .exact hb z
 .obtain ⟨sl,e1⟩:=I.base.slot b o e n hb (nx b);obtain ⟨sl',e2⟩:=x.slot b _ e1 (na b (I.base.free b o e n (nx b))) (no b o e);exact ⟨sl',e2⟩
 .rw [zR (na b (I.base.free b o e n (nx b)))];exact I.base.free b o e n (nx b)
 .obtain ⟨o',e1⟩:=I.base.there b o e (nx b)
  by_cases hb:b=a
  .subst hb;obtain ⟨oa,vs,e3,d3⟩:=hat;obtain ⟨vs',r,_⟩:=x.it oa vs e3 d3;exact ⟨_,r⟩
  .obtain ⟨sl,r⟩:=x.slot b o' e1 hb (no b o e);exact ⟨_,r⟩
 .have e1:=I.base.tups b xs e;rw [zR fun z=>by rw [z,ha] at e1;cases e1];exact e1
 .have e1:=I.base.frzs b o u e;rw [zR fun z=>by rw [z,ha] at e1;cases e1];exact e1
 .obtain ⟨m,e1⟩:=I.base.tbls b ps e;exact ⟨m,by rw [zR fun z=>by rw [z,ha] at e1;cases e1];exact e1⟩
theorem zcb {C:Addr} {dx:Option Addr} {E:L2.XK} (I:Inv X pins σ H s) (x:Lf (rH X.stack) a old T .none s.heap h') (ha:H a=some (.ext φ)) (hat:∃ fs,s.heap.get? a=some { cls:=.ref C,dict:=dx,data:=.fields fs }) (hold:∀ b,old=some b->X.s₀.heap.objs.size<=b/\H b=none) (hex:X.ex=[]) (hE:E (.ref a) none (yH H a (.ext (bU a C dx)))) :
  CXr X.prog X.w X.outer X.H₀ X.s₀ E (.ref a) { s with heap:=h' }:=by
 obtain ⟨fs,at_⟩:=hat;obtain ⟨vs',e1,_⟩:=x.it _ fs at_ rfl;have hT:H T=none:=I.hok.fresh x.new;have nT:T≠a:=fun z=>by rw [z,ha] at hT;cases hT
 refine ⟨a,C,dx,T,_,rfl,I.os,I.bare,zfv I x ha ⟨_,fs,at_,rfl⟩ (fun b z=>(hold b z).1) hex,zeY I.hok x I.stkFree (fun b z=>(hold b z).2) ha (ze4 e1),yO,x.trc ⟨_,fs,at_,rfl⟩,Zy I.sz x.new,by rw [zR nT];exact hT,hE⟩
theorem zcW {E:L2.XK} {e:Value} {s':Shared} (I:Inv X pins σ H s) (h:CXr X.prog X.w X.stack H s E e s'):∃ (a C:Addr) (dx:Option Addr) (T:Addr) (H':Hp),e=.ref a/\Inv X pins σ H' s'/\H' a=some (.ext (bU a C dx))/\Trc s'.heap a T/\s.heap.objs.size<=T/\H' T=none/\E (.ref a) none H':=by
 obtain ⟨a,C,dx,T,H',rfl,os,bare,un,hok,ha,tr,hT,nT,hE⟩:=h;obtain ⟨hh,g,d,t,os'⟩:=s';obtain rfl:os'=s.os:=os;exact ⟨a,C,dx,T,H',rfl,I.call (h':=hh) (g':=g) (d':=d) (t':=t) (ch:=[]) un hok bare (fun b z=>absurd z (by simp)),ha,tr,hT,nT,hE⟩
end
structure XeOk (X:Cx) (Ew:L2.St->L2.XK):Prop where
 raise:∀ pins σ H s a C dx,Inv X pins σ H s->H a=some (.ext (ExN a C dx))->Ew σ (.ref a) none (yH H a (.ext (bU a C dx)))->X.xe (.ref a) s
 pass:∀ pins σ H s e s',Inv X pins σ H s->CXr X.prog X.w X.stack H s (Ew σ) e s'->X.xe e s'
 own:PassesOwn (model X.prog X.w) X.A X.env X.xe
theorem zhq {P:Program} {w:World} {K:zA} {mg:Str->Option Value} {base:Heap} {N:List Str} {qual:Str} {scope:Scope} {f:Addr} {cd:Value} {A:Around} {outer:List Env} {s:Shared} {H:Hp} {E:L2.XK}:XeOk (hX (CXr P w) P w K mg base N qual scope f cd A outer s H E) (fun _=>E) where
 raise:=fun pins σ H1 s1 a C dx I ha hE=>by
  obtain ⟨⟨fs,at_,v0,v2,v3,v4,v5,rfl⟩,_⟩:=I.hok a _ ha;refine zcc (base:=base) (outer:=outer) I.ok.frames I.stack rfl at_ rfl rfl fun h' T x=>?_;exact zcb (X:=hX (CXr P w) P w K mg base N qual scope f cd A outer s H E) I x ha ⟨_,at_⟩ (fun b z=>by cases z) rfl hE
 pass:=fun pins σ H1 s1 e s2 I h=>by
  obtain ⟨a,C,dx,T,H2,rfl,I2,ha,tr,hT,nT,hE⟩:=zcW (X:=hX (CXr P w) P w K mg base N qual scope f cd A outer s H E) I h;obtain ⟨⟨fs,at_⟩,_⟩:=I2.hok a _ ha;refine zdT (base:=base) (outer:=outer) I2.ok.frames I2.stack rfl tr fun h' T' x=>?_;refine zcb (X:=hX (CXr P w) P w K mg base N qual scope f cd A outer s H E) I2 x ha ⟨_,at_⟩ (fun b z=>?_) rfl ?_
  .cases z;exact ⟨Zy I.sz hT,nT⟩
  .have same:yH H2 a (.ext (bU a C dx))=H2:=by
    funext b
    by_cases hb:b=a
    .rw [hb,yO,ha]
    .rw [zR hb]
   rw [same];exact hE
 own:=PassesOwn.leaving
section
variable {M : Model} {A : Around} {E : Value → Shared → Prop} {env : Env} {s : Shared}
structure Rsd (s:Shared) (a:Addr):Prop where
 ex:∃ (C:Addr) (dx:Option Addr) (fs:Array Value) (nm qn:Str) (N:Addr) (bs up:List Value) (hd:Bool) (sn:List Str) (sub:List Value) (ab:Bool) (col:Option Bool) (dd:Option Addr) (k0 k1 k2 k3 k5:Option Value),
  s.heap.get? C=some (excClassObj nm qn C N bs up hd sn sub ab col dd k0 k1 k2 k3 k5 "ValueError.__new__")/\(Value.ref C::up).contains (.type "BaseException")=true/\s.heap.get? a=some { cls:=.ref C,dict:=dx,data:=.fields fs }/\Nw fs
theorem zbM {x:Sem Value} {Q:Flow->Shared->Prop} (hh:A.handled=none) (h:wpAny M A x (fun v s1=>∃ a,v=.ref a/\Rsd s1 a/\E (.ref a) s1) E s):wpAny M A (raiseStmt env (some x) none) Q E s:=by
 unfold raiseStmt;refine Za (ZN h (fun v s1 h1=>?_) fun _ _ z=>z);obtain ⟨a,rfl,⟨C,dx,fs,nm,qn,N,bs,up,hd,sn,sub,ab,col,dd,k0,k1,k2,k3,k5,hC,isX,he,v0,v2,v3,v4,v5,rfl⟩,hE⟩:=h1;obtain ⟨hp,g,d,tk,os⟩:=s1
 repeat (first|with_reducible refine Zag he ?_|with_reducible refine Zag hC ?_|(with_reducible refine ZaA hC ?_;rw [isX])|wp_step)
 exact wpAny_raiseNew_none hh hE
end
theorem zdB {X:Cx} {Ew:L2.St->L2.XK} {e:Expr} {pos:Pos} {te:TE} (xo:XeOk X Ew) (hc:X.calm=true) (he:PE X e te) :
  PS X (.Raise (some e) none pos) (fun _ σ H=>te σ H fun v H2=>∃ (a C:Addr) (dx:Option Addr) (ini:Value),v=.ref a/\H2 a=some (.ext (ExN a C dx))/\XM X.K C ini/\Ew σ (.ref a) none (yH H2 a (.ext (bU a C dx)))):=by
 intro pins s σ H D I h
 have key:wpAny (model X.prog X.w) X.A (eval e X.env) (fun v s1=>∃ a,v=.ref a/\Rsd s1 a/\X.xe (.ref a) s1) X.xe s:=yG (he pins s σ H _ I h) fun u s1 z=>by
  obtain ⟨v,H1,I1,rv,a,C,dx,ini,rfl,ha,T,hE⟩:=z;obtain ⟨nm,qn,N,bs,up,hd,sn,sub,abb,col,dd,k0,k1,k2,k3,k5,lC,isB,noA,noN,isX⟩:=T.cls;obtain ⟨⟨fs,at_,nw⟩,_⟩:=I1.hok a _ ha;exact ⟨a,rv,⟨C,dx,fs,nm,qn,N,bs,up,hd,sn,sub,abb,col,dd,k0,k1,k2,k3,k5,I1.kIn _ _ lC,isX,at_,nw⟩,xo.raise pins σ H1 s1 a C dx I1 ha hE⟩
 have hh:=I.ok.hd hc;rw [arm_exec_Raise];refine Za (Zce (zbM hh ?_));exact Za (ZN key (fun v s1 h1=>Za (Zce (Zc h1))) fun _ _ z=>z)
def fA (K:zA) (C Ct:Addr):Prop:=∃ (nm qn:Str) (N:Addr) (bs up:List Value) (hd:Bool) (sn:List Str) (sub:List Value) (ab:Bool) (col:Option Bool) (dd:Option Addr) (k0 k1 k2 k3 k5:Option Value),
 K.lookup C=some (excClassObj nm qn C N bs up hd sn sub ab col dd k0 k1 k2 k3 k5 "ValueError.__new__")/\(Value.ref C::up).contains (.ref Ct)=true
section
variable {X : Cx} {pins : List (Addr × Obj)} {σ : L2.St} {H : Hp} {s : Shared}
theorem zgD {M:Model} {A:Around} {E:Value->Shared->Prop} {i:Nat} {n:Str} {pos:Pos} {Q:Unit->Shared->Prop} (I:Inv X pins σ H s) (hN:X.N.Nodup) (hi:X.N[i]?=some n) (hk:X.env.scope.names.lookup n=some .local) (q:∀ s',Inv X pins (σ.set i none) H s'->Q () s') :
  wpAny M A (do bindName X.env n .none;unbindBehindTheSuite X.env n pos) Q E s:=by
 obtain ⟨m,hn,hl⟩:=id I.loc;have hc:(X.env.scope.kind==.class || (X.env.scope.kind==.module&&X.env.locals != X.env.globals))=false:=by rw [I.ok.kind];rfl
 refine wpAny_nameGoes_keeps hk hn hc fun h' v hn' hs=>q _ ?_;have low:∀ {b:Addr} {o:Obj},X.s₀.heap.get? b=some o->h'.get? b=s.heap.get? b:=fun e=>hs.2 _ (Zl (Zi (Zf e) I.ok.above));have li:i<σ.length:=by rw [I.len];exact (Zg.mp hi).1
 have cl:∀ y c,X.env.cells.lookup y=some c->∀ w,s.heap.IsCell c w->h'.IsCell c w:=fun y c e w z=>z.sameBut hs (I.cne y c e);refine ⟨I.ok,I.os,I.bare,?_,⟨_,hn',?_⟩,?_,I.free,I.freeC,?_,?_,by simpa using I.len⟩
 .refine ⟨?_,?_,I.base.free,?_,I.base.tups,I.base.frzs,I.base.tbls⟩
  .intro b o e f n1 n2;rw [low e];exact I.base.keep b o e f n1 n2
  .intro b o e f n1 n2;rw [low e];exact I.base.slot b o e f n1 n2
  .intro b o e n2;rw [low e];exact I.base.there b o e n2
 .intro j y w e1 e2 e3
  have ne:j≠i:=fun z=>by
   rw [z,ZaC li] at e2;cases e2
  rw [Zaw (Ne.symm ne)] at e2;obtain ⟨u,r,k⟩:=hl j y w e1 e2 e3;refine ⟨u,r,?_⟩;rcases k with ⟨k1,k2⟩|⟨k1,c,k2,k3⟩
  .have yn:y≠n:=fun z=>ne (pI hN e1 (z▸hi));exact .inl ⟨k1,by simp [yn,k2]⟩
  .exact .inr ⟨k1,c,k2,cl y c k2 _ k3⟩
 .intro y c e;obtain ⟨w,z⟩:=I.cell y c e;exact ⟨w,cl y c e w z⟩
 .intro p hp;obtain ⟨p1,p2,p3,p4,p5⟩:=I.pin p hp;exact ⟨by rw [hs.2 p.1 p3];exact p1,p2,p3,p4,p5⟩
 .intro b ob e;refine (I.hok b ob e).stay (fun c u hc r=>?_) (fun _ z=>z) fun _ _ z=>z;rw [hs.2 c fun z=>?_]
  .exact r
  .rcases hc with hc|hc
   .rw [← hc,z,I.free] at e;cases e
   .rw [z,I.free] at hc;cases hc
structure Nwr (X:Cx) (pins:List (Addr×Obj)) (T:Addr):Prop where
 loc:T≠X.env.locals
 s0:X.s₀.heap.objs.size<=T
 cell:∀ x c,X.env.cells.lookup x=some c->c≠T
 pin:∀ p∈X.pn++pins,p.1≠T
theorem Inv.newer {T:Addr} (I:Inv X pins σ H s) (h:s.heap.objs.size<=T):Nwr X pins T:=by
 have lt:∀ {b:Addr} {o:Obj},s.heap.get? b=some o->b≠T:=fun e=>Zl (Zi (Zf e) h);obtain ⟨m,⟨o,_,_,ho,_⟩,_⟩:=I.loc;refine ⟨(lt ho).symm,Zy I.sz h,fun x c e=>?_,fun p hp=>lt (I.pin p hp).1⟩;obtain ⟨v,oc,hoc,_⟩:=I.cell x c e;exact lt hoc
theorem zgI {M:Model} {A:Around} {E:Value->Shared->Prop} {a T:Addr} {Q:Unit->Shared->Prop} (I:Inv X pins σ H s) (t:Trc s.heap a T) (nT:H T=none) (nw:Nwr X pins T) (q:∀ s',Inv X pins σ H s'->Q () s'):wpAny M A (setFlight (.ref a) none) Q E s:=by
 obtain ⟨o,vs,he,hd,h1⟩:=t.it;obtain ⟨oT,ts,eT,dT,h3⟩:=t.tb;unfold setFlight;refine Za (Zu he hd h1 ?_);rw [if_pos (show (Value.ref T != Value.none)=true by simp)];refine ZM eT dT (Z6.mp h3).1 (q _ ?_);exact I.turned (it:=T) (t':=s.toks) (fun b o n e=>(Zm _ _ (Ne.symm n)).trans e) nT nw.loc (.inr nw.s0) nw.cell nw.pin
end
section
variable {M : Model} {A : Around} {E : Value → Shared → Prop} {s : Shared}
theorem zb8 {K:zA} {a C Ct:Addr} {ini:Value} {oe:Obj} {Q:Bool->Shared->Prop} (hK:K.In s.heap) (sb:fA K C Ct) (T:XM K Ct ini) (he:s.heap.get? a=some oe) (hc:oe.cls=.ref C) (q:Q true s):wpAny M A (excMatches (.ref a) (.ref Ct)) Q E s:=by
 obtain ⟨nm,qn,N,bs,up,hd,sn,sub,ab,col,dd,k0,k1,k2,k3,k5,lC,hin⟩:=sb;obtain ⟨nm',qn',N',bs',up',hd',sn',sub',ab',col',dd',k0',k1',k2',k3',k5',lT,_,_,_,isX⟩:=T.cls;have hC:=hK _ _ lC;have hT:=hK _ _ lT;have f:=tc_notTuple;obtain ⟨hp,g,d,tk,os⟩:=s;unfold excMatches
 repeat (first|(with_reducible refine Zag he ?_;rw [hc])|with_reducible refine Zag hT ?_|(with_reducible refine ZaA hT ?_;rw [isX])|(with_reducible refine ZaA hC ?_;rw [hin])|wp_step)
 exact q
end
def wTry (K:zA) (Ct:Addr) (i j:Nat) (D:Ends):L2.St->L2.XK:=fun σ e _ H=>∃ (a C:Addr) (dx:Option Addr),e=.ref a/\H a=some (.ext (bU a C dx))/\fA K C Ct/\D.nx (((σ.set i (some (.ref a))).set j (some (.ref a))).set i none) H
section
variable {X : Cx} {Ct : Addr} {ini : Value} {n y tn : Str} {i j : Nat} {tp np yp ap hp pos : Pos}
theorem Inv.held {X':Cx} {pins pins':List (Addr×Obj)} {σ:L2.St} {H:Hp} {s:Shared} (I:Inv X pins σ H s) (ok:X'.Ok) (e:X'={ X with A:=X'.A,calm:=X'.calm,pn:=X'.pn,xe:=X'.xe }) (hp:∀ p∈X'.pn++pins',p∈X.pn++pins):Inv X' pins' σ H s:=by
 obtain ⟨a1,a2,a3,a4,a5,a6,a7,a8,a9,a10,a11,a12,a13,a14,a15,a16,a17⟩:=X'
 injection e
 subst_vars
 exact ⟨ok,I.os,I.bare,I.base,I.loc,I.cell,I.free,I.freeC,fun p h=>I.pin p (hp p h),I.hok,I.len⟩
theorem zcu {pins:List (Addr×Obj)} {σ:L2.St} {H:Hp} {s:Shared} {D:Ends} {a C T:Addr} {dx:Option Addr} (hN:X.N.Nodup) (hi:X.N[i]?=some n) (hj:X.N[j]?=some y) (ln:X.env.scope.names.lookup n=some .local) (ly:X.env.scope.names.lookup y=some .local) (nd:(n==("__debug__" : Str))=false) (nc:(n==("__classdict__" : Str))=false)
  (gT:Gl X tn) (mT:X.mg tn=some (.ref Ct)) (dT:(tn==("__debug__" : Str))=false) (TT:XM X.K Ct ini) (I:Inv X pins σ H s) (ha:H a=some (.ext (bU a C dx))) (sb:fA X.K C Ct) (t:Trc s.heap a T) (nT:H T=none) (nw:Nwr X pins T)
  (q:D.nx (((σ.set i (some (.ref a))).set j (some (.ref a))).set i none) H) :
  wpAny (model X.prog X.w) X.A (handleBy (.ref a) X.env [.ExceptHandler (some (.Name tn tp)) (some n) [.Assign [.Name y yp] (.Name n np) ap] hp]) (SP X pins D) X.xe s:=by
 refine wpAny_handleBy_cons (codeAny_handlers_test ?_) (by intro z;cases z)
 let XM':Cx:={ X with A:=X.A.mark (some (.ref a)),calm:=false,xe:=fun _ _=>False }
 have okM:XM'.Ok:={ I.ok with hd:=fun z=>by cases z };have IM:Inv XM' pins σ H s:=Inv.held I okM rfl fun p h=>h;refine qN (X:=XM') IM gT mT ?_ dT;obtain ⟨⟨fs,at_⟩,_⟩:=I.hok a _ ha;refine zb8 I.kIn sb TT at_ rfl ?_;refine codeAny_handlers_suite_as ?_;refine zgI (X:=XM') IM t nT ⟨nw.loc,nw.s0,nw.cell,nw.pin⟩ fun s1 I1=>?_;refine pR (X:=XM') I1 hN hi (.inl ln) (v:=.ref a) rfl (fun s2 I2=>?_) (.inr ln);have hiσ:i<σ.length:=by rw [I.len];exact (Zg.mp hi).1
 have ps:mR XM' [.Assign [.Name y yp] (.Name n np) ap] _:=zbP (dL (X:=XM') (i:=j) hN hj (.inl ly) (dI (i:=i) hi (.inl ln) nd nc) (wM rfl) (.inr ly));refine ZN (ps pins s2 _ H { nx:=fun σ' H'=>σ'=((σ.set i (some (.ref a))).set j (some (.ref a)))/\H'=H,rt:=fun _ _=>False } I2 ?_) (fun f s3 h3=>?_) fun _ _ z=>z.elim
 .exact ⟨.ref a,by rw [ZaC hiσ],rfl,rfl⟩
 .cases f with
  |next =>
   obtain ⟨σ',H',I3,rfl,rfl⟩:=h3;have I4:Inv X pins _ _ s3:=Inv.held (X:=XM') I3 I.ok rfl fun p h=>h;exact zgD I4 hN hi ln fun s4 I5=>⟨_,_,I5,q⟩
  |ret u=>obtain ⟨_,_,_,_,_,z⟩:=h3;exact z.elim
  |brk=>obtain ⟨_,_,_,z⟩:=h3;exact z.elim
  |cont=>obtain ⟨_,_,_,z⟩:=h3;exact z.elim
abbrev tryX (X:Cx) (pins:List (Addr×Obj)) (D:Ends) (hs:List ExceptHandler):Value->Shared->Prop:=fun e s1=>wpAny (model X.prog X.w) X.A (noteFrame e X.env) (fun _ s2=>wpAny (model X.prog X.w) X.A (setFlight e none) (fun _ s3=>wpAny (model X.prog X.w) X.A (handleBy e X.env hs) (SP X pins D) X.xe s3) X.xe s2) X.xe s1
abbrev tryC (X:Cx) (pins:List (Addr×Obj)) (D:Ends) (hs:List ExceptHandler):Cx:={ X with pn:=X.pn++pins,xe:=tryX X pins D hs }
theorem zhp {pins:List (Addr×Obj)} {D:Ends} (hk:X.stack=X.env::X.outer/\X.env.frame=some X.env.locals) (hN:X.N.Nodup) (hi:X.N[i]?=some n) (hj:X.N[j]?=some y) (ln:X.env.scope.names.lookup n=some .local) (ly:X.env.scope.names.lookup y=some .local) (nd:(n==("__debug__" : Str))=false) (nc:(n==("__classdict__" : Str))=false)
  (gT:Gl X tn) (mT:X.mg tn=some (.ref Ct)) (dT:(tn==("__debug__" : Str))=false) (TT:XM X.K Ct ini) :
  XeOk (tryC X pins D [.ExceptHandler (some (.Name tn tp)) (some n) [.Assign [.Name y yp] (.Name n np) ap] hp]) (wTry X.K Ct i j D):=by
 have go:∀ {pins':List (Addr×Obj)} {σ:L2.St} {H:Hp} {s:Shared} {a C T:Addr} {dx:Option Addr} {old:Option Addr} {h':Heap} {φ:Heap->Prop},Inv X pins σ H s->H a=some (.ext φ)->(∃ fs,s.heap.get? a=some { cls:=.ref C,dict:=dx,data:=.fields fs })->(∀ b,old=some b->Nwr X pins b/\H b=none)->Lf (rH X.stack) a old T (rawInt X.env.locals) s.heap h'->wTry X.K Ct i j D σ (.ref a) none (yH H a (.ext (bU a C dx))) ->
   wpAny (model X.prog X.w) X.A (setFlight (.ref a) none) (fun _ s3=>wpAny (model X.prog X.w) X.A (handleBy (.ref a) X.env [.ExceptHandler (some (.Name tn tp)) (some n) [.Assign [.Name y yp] (.Name n np) ap] hp]) (SP X pins D) X.xe s3) X.xe { s with heap:=h' }:=by
  intro pins' σ H s a C T dx old h' φ I ha hat hold x hE;obtain ⟨fs,at_⟩:=hat;refine sG (s:={ s with heap:=h' }) x ⟨_,fs,at_,rfl⟩ fun h2 x2=>?_;obtain ⟨vs',e1,_⟩:=x2.it _ fs at_ rfl;have hT:H T=none:=I.hok.fresh x2.new;have nT:T≠a:=fun z=>by rw [z,ha] at hT;cases hT
  have un:Un (rH X.stack) old.toList H (yH H a (.ext (bU a C dx))) s.heap h2:=by
   have na:∀ b,H b=none->b≠a:=fun b n z=>by rw [z,ha] at n;cases n
   have no:∀ b,b∉old.toList->old≠some b:=fun b z e=>z (by rw [e];simp);refine ⟨fun b o e n hb hx=>x2.keep b o e (na b n) (no b hx) hb,fun b o e n hb hx=>x2.slot b o e (na b n) (no b hx),fun b o e n _=>by rw [zR (na b n)];exact n,fun b o e hx=>?_,fun b xs e=>?_,fun b o u e=>?_,fun b ps e=>⟨#[],?_⟩⟩
   .by_cases hb:b=a
    .subst hb;exact ⟨_,e1⟩
    .obtain ⟨sl,r⟩:=x2.slot b o e hb (no b hx);exact ⟨_,r⟩
   .rw [zR fun z=>by rw [z,ha] at e;cases e];exact e
   .rw [zR fun z=>by rw [z,ha] at e;cases e];exact e
   .have nb:b≠a:=fun z=>by rw [z,ha] at e;cases e
    rw [zR nb,e];simp
  have I2:=I.call (h':=h2) (g':=s.gens) (d':=s.drawn) (t':=s.toks) (ch:=old.toList) un (zeY I.hok x2 I.stkFree (fun b z=>(hold b z).2) ha (ze4 e1)) I.bare (fun b z=>by
   have z:old=some b:=by simpa using z
   have w:=(hold b z).1;exact ⟨.inr w.s0,w.loc,w.cell,w.pin⟩)
  obtain ⟨a',C',dx',ea,ha',sb,q⟩:=hE;cases ea;rw [yO] at ha'
  have cc:C'=C/\dx'=dx:=by
   have z:bU a C dx=bU a C' dx':=by injection ha' with ha';injection ha'
   have w:bU a C' dx' h2:=by rw [← z];exact ⟨vs',e1⟩
   obtain ⟨fs',w⟩:=w;rw [e1] at w
   injection w with w
   injection w with w1 w2
   injection w1 with w1
   exact ⟨w1.symm,w2.symm⟩
  obtain ⟨rfl,rfl⟩:=cc;exact zcu hN hi hj ln ly nd nc gT mT dT TT I2 yO sb (x2.trc ⟨_,fs,at_,rfl⟩) (by rw [zR nT];exact hT) (Inv.newer I x2.new) q
 refine ⟨fun pins' σ H s a C dx I ha hE=>?_,fun pins' σ H s e s' I h=>?_,PassesOwn.looking⟩
 .have I0:Inv X pins σ H s:=Inv.held (X:=tryC X pins D _) I { I.ok with } rfl fun p hp=>Z7 _ hp;obtain ⟨⟨fs,at_,v0,v2,v3,v4,v5,rfl⟩,_⟩:=I.hok a _ ha;have fr:=I0.ok.frames;have st:=I0.stack;rw [hk.1] at fr st;refine zb2 (base:=X.base) (outer:=X.outer) fr st hk.2 at_ rfl rfl fun h' T x=>?_;rw [← hk.1] at x;exact go (pins':=pins') I0 ha ⟨_,at_⟩ (fun b z=>by cases z) x hE
 .obtain ⟨a,C,dx,T,H2,rfl,I2,ha,tr,hT,nT,hE⟩:=zcW (X:=tryC X pins D _) I h;have I0:Inv X pins σ H s:=Inv.held (X:=tryC X pins D _) I { I.ok with } rfl fun p hp=>Z7 _ hp;have I3:Inv X pins σ H2 s':=Inv.held (X:=tryC X pins D _) I2 { I.ok with } rfl fun p hp=>Z7 _ hp;obtain ⟨⟨fs,at_⟩,_⟩:=I2.hok a _ ha;have fr:=I3.ok.frames;have st:=I3.stack;rw [hk.1] at fr st;refine zb1 (base:=X.base) (outer:=X.outer) fr st hk.2 tr fun h' T' x=>?_;rw [← hk.1] at x
  have same:yH H2 a (.ext (bU a C dx))=H2:=by
   funext b
   by_cases hb:b=a
   .rw [hb,yO,ha]
   .rw [zR hb]
  refine go (pins':=pins') I3 ha ⟨_,at_⟩ (fun b z=>?_) x (by rw [same];exact hE);cases z;exact ⟨Inv.newer I0 hT,nT⟩
theorem zie {bs:List Stmt} {tb:(L2.St->L2.XK)->TS} (hk:X.stack=X.env::X.outer/\X.env.frame=some X.env.locals) (hN:X.N.Nodup) (hi:X.N[i]?=some n) (hj:X.N[j]?=some y) (ln:X.env.scope.names.lookup n=some .local) (ly:X.env.scope.names.lookup y=some .local) (nd:(n==("__debug__" : Str))=false) (nc:(n==("__classdict__" : Str))=false)
  (gT:Gl X tn) (mT:X.mg tn=some (.ref Ct)) (dT:(tn==("__debug__" : Str))=false) (TT:XM X.K Ct ini) (hb:∀ (pn:List (Addr×Obj)) (E':Value->Shared->Prop) (Ew:L2.St->L2.XK),XeOk { X with pn:=pn,xe:=E' } Ew->mR { X with pn:=pn,xe:=E' } bs (tb Ew)) :
  PS X (.Try bs [.ExceptHandler (some (.Name tn tp)) (some n) [.Assign [.Name y yp] (.Name n np) ap] hp] [] [] pos) (fun D σ H=>tb (wTry X.K Ct i j D) D σ H):=by
 intro pins s σ H D I h;have xo:=zhp (tp:=tp) (np:=np) (yp:=yp) (ap:=ap) (hp:=hp) (pins:=pins) (D:=D) hk hN hi hj ln ly nd nc gT mT dT TT;have I0:Inv (tryC X pins D [.ExceptHandler (some (.Name tn tp)) (some n) [.Assign [.Name y yp] (.Name n np) ap] hp]) [] σ H s:=Inv.held I { I.ok with } rfl fun p hp=>by simpa using hp
 refine wpAny_Try_except (ZN (hb _ _ _ xo [] s σ H D I0 h) (fun f s1 h1=>?_) fun e s1 h1=>h1);have back:∀ {σ':L2.St} {H':Hp},Inv (tryC X pins D [.ExceptHandler (some (.Name tn tp)) (some n) [.Assign [.Name y yp] (.Name n np) ap] hp]) [] σ' H' s1->Inv X pins σ' H' s1:=fun J=>Inv.held J { J.ok with } rfl fun p hp=>by simpa using hp
 cases f with
 |next =>
  obtain ⟨σ',H',J,z⟩:=h1;exact Zc ⟨σ',H',back J,z⟩
 |ret u =>
  obtain ⟨v,σ',H',J,z⟩:=h1;exact ⟨v,σ',H',back J,z⟩
 |brk =>
  obtain ⟨σ',H',J,z⟩:=h1;exact ⟨σ',H',back J,z⟩
 |cont =>
  obtain ⟨σ',H',J,z⟩:=h1;exact ⟨σ',H',back J,z⟩
end
abbrev X3:=W->Hw->Prop
abbrev SpX:=List W->Hw->Q3->X3->Prop
structure Fx3 where
 nm:Str
 sp:SpX
structure Cl3 where
 nm:Str
 C:Addr
 f:Option Str
structure Tr3 where
 nm:Str
 C:Addr
 sub:List Addr
structure CtxX where
 fx:List Fx3
 cl:List Cl3
 tr:List Tr3
set_option genInjectivity false
mutual
inductive RT where
 |pl (s:IS)|rse (c:Nat) (es:IEs)|ite (c:IE) (a b:RTs)|whl (c:IE) (b:RTs)|for (tg:ITg) (it:II) (b:RTs)
 |asx (i f:Nat) (es:IEs)|exx (f:Nat) (es:IEs)|rtx (f:Nat) (es:IEs)|try (i j t:Nat) (b:RTs)
inductive RTs where
 |nil|cons (s:RT) (ss:RTs)
end
def clR (k:Cl3) (ws:List W) (Q:W->Prop):Prop:=match k.f with
 |none=>ws=[]/\Q (.exc k.C [] [])
 |some f=>∃ w,ws=[w]/\Q (.exc k.C [f] [w])
def trR (k:Tr3) (i j:Nat) (D:End3) (σ:wK) (w:W) (G:Hw):Prop:=∃ (C:Addr) (ns:List Str) (ws:List W),w=.exc C ns ws/\C∈k.sub/\D.nx (((σ.set i (some w)).set j (some w)).set i none) G
section
variable (Γ : Ctx3) (Δ : CtxX)
mutual
def qE:RT->(wK->X3)->S3
 | .pl s=>fun _=>zO Γ XN s
 | .rse c es=>fun E _ σ G=>zU Γ XN es σ G fun ws G1=>match Δ.cl[c]? with|some k=>clR k ws fun w=>E σ w G1|none=>False
 | .ite c a b=>fun E D σ G=>zL Γ XN c σ G fun k G1=>if k=true then wW a E D σ G1 else wW b E D σ G1
 | .whl c b=>fun E D σ G=>∃ Pv:Nat->wK->Hw->Prop,(∃ m,Pv m σ G)/\∀ m σ G,Pv m σ G->zL Γ XN c σ G fun k G1 =>
   if k=true then wW b E { D with nx:=fun σ' G'=>∃ m',m' < m/\Pv m' σ' G',ct:=fun σ' G'=>∃ m',m' < m/\Pv m' σ' G',bk:=D.nx } σ G1 else D.nx σ G1
 | .for tg it b=>fun E D σ G=>zP Γ XN it σ G fun items stab G1=>forR items stab D σ G1 fun w D' σ' G'=>zT tg w σ' G' fun σ2 G2=>wW b E D' σ2 G2
 | .asx i f es=>fun E D σ G=>zU Γ XN es σ G fun ws G1=>match Δ.fx[f]? with|some h=>h.sp ws G1 (fun w G2=>D.nx (σ.set i (some w)) G2) (E σ)|none=>False
 | .exx f es=>fun E D σ G=>zU Γ XN es σ G fun ws G1=>match Δ.fx[f]? with|some h=>h.sp ws G1 (fun _ G2=>D.nx σ G2) (E σ)|none=>False
 | .rtx f es=>fun E D σ G=>zU Γ XN es σ G fun ws G1=>match Δ.fx[f]? with|some h=>h.sp ws G1 D.rt (E σ)|none=>False
 | .try i j t b=>fun _ D σ G=>match Δ.tr[t]? with|some k=>wW b (trR k i j D) D σ G|none=>False
def wW:RTs->(wK->X3)->S3
 | .nil=>fun _ D σ G=>D.nx σ G
 | .cons s ss=>fun E D σ G=>qE s E { D with nx:=wW ss E D } σ G
end
end
structure MX where
 fx:List Str
 cl:List Str
 tr:List Str
def nB (M:MC) (ns:List Str) (i:Nat) (es:IEs):Expr->Bool
 | .Call (.Name x _) xs [] _=>ns[i]?==some x&&jQ M.sc x&&mA es M xs
 |_=>false
def zg9 (M:MC) (ns:List Str) (i j t:Nat):List ExceptHandler->Bool
 | [.ExceptHandler (some (.Name tn _)) (some n) [.Assign [.Name y _] (.Name n' _) _] _] =>
  n==n'&&M.N[i]?==some n&&M.N[j]?==some y&&M.sc.names.lookup n==some .local&&M.sc.names.lookup y==some .local&&!(n==("__debug__" : Str))&&!(n==("__classdict__" : Str))&&ns[t]?==some tn&&jQ M.sc tn
 |_=>false
mutual
def mX (M:MC) (Z:MX):RT->Stmt->Bool
 | .pl s=>fun x=>mS s M x
 | .rse c es=>fun x=>match x with
  | .Raise (some e) none _=>nB M Z.cl c es e
  |_=>false
 | .ite c a b=>fun x=>match x with
  | .If t y z _=>mE c M t&&mXs M Z a y&&mXs M Z b z
  |_=>false
 | .whl c b=>fun x=>match x with
  | .While t y [] _=>mE c M t&&mXs M Z b y
  |_=>false
 | .for tg it b=>fun x=>match x with
  | .For t y z [] _=>uM y&&mG M tg t&&mI it M y&&mXs M Z b z
  |_=>false
 | .asx i f es=>fun x=>match x with
  | .Assign [.Name y _] e _=>M.N[i]?==some y&&mD M y&&nB M Z.fx f es e
  |_=>false
 | .exx f es=>fun x=>match x with
  | .Expr e _=>nB M Z.fx f es e
  |_=>false
 | .rtx f es=>fun x=>match x with
  | .Return (some e) _=>nB M Z.fx f es e
  |_=>false
 | .try i j t b=>fun x=>match x with
  | .Try bs hs [] [] _=>zg9 M Z.tr i j t hs&&mXs M Z b bs
  |_=>false
def mXs (M:MC) (Z:MX):RTs->List Stmt->Bool
 | .nil=>fun x=>match x with | []=>true|_=>false
 | .cons s ss=>fun x=>match x with|y::ys=>mX M Z s y&&mXs M Z ss ys|_=>false
end
theorem fJ {M:MC} {ns:List Str} {i:Nat} {es:IEs} {e:Expr} (h:nB M ns i es e=true):∃ x q xs pos,e=.Call (.Name x q) xs [] pos/\ns[i]?=some x/\jQ M.sc x=true/\mA es M xs=true:=by
 unfold nB at h
 split at h
 .rename_i x q xs pos;obtain ⟨⟨h1,h2⟩,h3⟩:=bd3 h;exact ⟨x,q,xs,pos,rfl,yB h1,h2,h3⟩
 .cases h
theorem zcN {M:MC} {ns:List Str} {i j t:Nat} {hs:List ExceptHandler} (h:zg9 M ns i j t hs=true):∃ tn tp n y yp np ap hp,hs=[.ExceptHandler (some (.Name tn tp)) (some n) [.Assign [.Name y yp] (.Name n np) ap] hp]/\M.N[i]?=some n/\M.N[j]?=some y/\M.sc.names.lookup n=some .local/\M.sc.names.lookup y=some .local/\(n==("__debug__" : Str))=false/\(n==("__classdict__" : Str))=false/\ns[t]?=some tn/\jQ M.sc tn=true:=by
 unfold zg9 at h
 split at h
 .rename_i tn tp n y yp n' np ap hp;obtain ⟨⟨⟨⟨⟨⟨⟨⟨h1,h2⟩,h3⟩,h4⟩,h5⟩,h6⟩,h7⟩,h8⟩,h9⟩:=bd9 h;cases eq_of_beq h1;exact ⟨tn,tp,n,y,yp,np,ap,hp,rfl,yB h2,yB h3,yB h4,yB h5,by simpa using h6,by simpa using h7,yB h8,h9⟩
 .cases h
def Fex (K:zA) (H:Hp) (E3:wK->X3) (Ew:L2.St->L2.XK):Prop:=∀ σ w G τ a H',yK K H H'->yY K H' σ τ->wX K H' w (.ref a)->xP K H' G->E3 σ w G->Ew τ (.ref a) none H'
theorem Fex.grow {K:zA} {H H':Hp} {E3:wK->X3} {Ew:L2.St->L2.XK} (f:Fex K H E3 Ew) (g:yK K H H'):Fex K H' E3 Ew:=fun σ w G τ a H2 g2=>f σ w G τ a H2 (g.trans g2)
def lowX (K:zA) (Ew:L2.St->L2.XK) (t:(wK->X3)->S3):TS:=fun D τ H=>∃ σ G D3 E3,yY K H σ τ/\xP K H G/\Fine K H D3 D/\Fex K H E3 Ew/\t E3 D3 σ G
section
variable {X : Cx}
theorem ziG {es:List Expr} {t:TA} (h:PA X.nox es t):PA X es t:=fun pos pins s σ H Q I hw =>
 ZN (h pos pins s σ H Q (I.wish _) hw) (fun _ _ z=>by obtain ⟨vs,H',I',z⟩:=z;exact ⟨vs,H',I'.unwish,z⟩) fun _ _ z=>False.elim z
theorem nox_S {st:Stmt} {t:TS} (h:PS X.nox st t):PS X st t:=fun pins s σ H D I hw =>
 ZN (h pins s σ H D (I.wish _) hw) (fun _ _ q=>q.unwish) fun _ _ z=>False.elim z
theorem nox_G {tg:Expr} {t:TG} (h:PG X.nox tg t):PG X tg t:=fun pins s σ H v u Q I r hw =>
 ZN (h pins s σ H v u Q (I.wish _) r hw) (fun _ _ z=>by obtain ⟨σ',H',I',z⟩:=z;exact ⟨σ',H',I'.unwish,z⟩) fun _ _ z=>False.elim z
theorem nox_I {tg x:Expr} {t:TI} (h:PI X.nox tg x t):PI X tg x t:=fun pins s σ H R I hw =>
 ZN (h pins s σ H R (I.wish _) hw) (fun _ _ z=>ZN z (fun _ _ z=>by obtain ⟨it,fp,tn,J,H',e,I',z⟩:=z;exact ⟨it,fp,tn,J,H',e,I'.unwish,z⟩) fun _ _ z=>False.elim z) fun _ _ z=>False.elim z
end
def ziT (K:zA) (Ew:L2.St->L2.XK) (t:(wK->X3)->E3):TE:=fun τ H Q=>∃ σ G E3,yY K H σ τ/\xP K H G/\Fex K H E3 Ew/\t E3 σ G (jK K H Q)
def FxE (p:Par) (f:Fx3):Prop:=∀ X Ew,Fits p X.nox->XeOk X Ew->Gl X f.nm->∀ (args:List Expr) (t:A3) (q pos:Pos),qK t->args.all noStar=true->PA X args (vY X.K t)->(args=[]->∀ σ G Q,t σ G Q->Q [] G)->(f.nm==("__debug__" : Str))=false ->
 PE X (.Call (.Name f.nm q) args [] pos) (ziT X.K Ew fun E σ G Q=>t σ G fun ws G1=>f.sp ws G1 Q (E σ))
def mV (f:Fx3):Prop:=∀ ws G (Q Q':Q3) (E E':X3),(∀ w G',Q w G'->Q' w G')->(∀ w G',E w G'->E' w G')->f.sp ws G Q E->f.sp ws G Q' E'
def ClE (p:Par) (k:Cl3):Prop:=∀ X Ew,Fits p X.nox->XeOk X Ew->Gl X k.nm->∀ (args:List Expr) (t:A3) (q pos cpos:Pos),qK t->args.all noStar=true->PA X args (vY X.K t)->(args=[]->∀ σ G Q,t σ G Q->Q [] G)->(k.nm==("__debug__" : Str))=false ->
 PS X (.Raise (some (.Call (.Name k.nm q) args [] cpos)) none pos) (lowX X.K Ew fun E _ σ G=>t σ G fun ws G1=>clR k ws fun w=>E σ w G1)
structure TrE (p:Par) (k:Tr3):Prop where
 mg:p.mg k.nm=some (.ref k.C)
 cls:∃ ini,XM p.K k.C ini
 sub:∀ C∈k.sub,fA p.K C k.C
structure GoodX (Δ:CtxX) (p:Par):Prop where
 fx:∀ f∈Δ.fx,FxE p f/\mV f
 cl:∀ k∈Δ.cl,ClE p k
 tr:∀ k∈Δ.tr,TrE p k
structure Lxx (Γ:Ctx3) (Δ:CtxX) (M:MC) (Z:MX) (p:Par) (X:Cx):Prop where
 lk:Lk Γ M p X.nox
 fx:Δ.fx.map (·.nm)=Z.fx
 cl:Δ.cl.map (·.nm)=Z.cl
 tr:Δ.tr.map (·.nm)=Z.tr
 hk:X.stack=X.env::X.outer/\X.env.frame=some X.env.locals
theorem Lxx.held {Γ:Ctx3} {Δ:CtxX} {M:MC} {Z:MX} {p:Par} {X:Cx} (L:Lxx Γ Δ M Z p X) (pn:List (Addr×Obj)) (E:Value->Shared->Prop):Lxx Γ Δ M Z p { X with pn:=pn,xe:=E } :=
 ⟨⟨⟨L.lk.fits.prog,L.lk.fits.w,L.lk.fits.K,L.lk.fits.mg,L.lk.fits.base,L.lk.fits.A,L.lk.fits.calm,rfl⟩,L.lk.N,L.lk.sc,L.lk.nd,L.lk.own,L.lk.kind,L.lk.fns,L.lk.gls,L.lk.mts,L.lk.its,L.lk.sxs,L.lk.ixs⟩,L.fx,L.cl,L.tr,L.hk⟩
theorem yY.unset {K:zA} {H:Hp} {σ:wK} {τ:L2.St} (h:yY K H σ τ) (i:Nat):yY K H (σ.set i none) (τ.set i none):=by
 refine ⟨by simp only [ZbN];exact h.1,fun j w e=>?_⟩
 by_cases hj:i=j
 .subst hj
  by_cases hi:i<σ.length
  .rw [ZaC hi] at e;cases e
  .rw [Zas (by rw [ZbN];omega)] at e;cases e
 .rw [Zaw hj] at e;rw [Zaw hj];exact h.2 j w e
theorem ex_at {K:zA} {H:Hp} {C a:Addr} {ns:List Str} {ws:List W} (h:wX K H (.exc C ns ws) (.ref a)):∃ dx,H a=some (.ext (bU a C dx)):=by
 obtain ⟨b,vs,e,x,_⟩:=h;cases e;rcases x with ⟨x,_⟩|⟨dx,x,_⟩
 .exact ⟨none,x⟩
 .exact ⟨some dx,x⟩
section
variable {Γ : Ctx3} {Δ : CtxX} {p : Par} (g : Good Γ p) (gx : GoodX Δ p)
include g
theorem sndS (s:IS):OkS Γ p s:=match s with
 | .asg i e=>zhB g i e
 | .asgT ts e=>zeF g ts e
 | .asgI o i e=>zeH g o i e
 | .asgA o f e=>zeI g o f e
 | .ex e=>t_ex g e
 | .ret e=>zhy g e
 | .retN=>(wN g).1
 | .pass=>(wN g).2.1
 | .brk=>(wN g).2.2.1
 | .cnt=>(wN g).2.2.2.1
 | .ite c a b=>zhz g c a b (zbB g a) (zbB g b)
 | .whl c b=>zhx g c b (zbB g b)
 | .for tg it b=>zhA g tg it b (zbB g b)
 | .dead=>(wN g).2.2.2.2
 | .asgS i j e=>zeG g i j e
theorem ziI {M:MC} {es:IEs} {xs:List Expr} (h:mA es M xs=true):xs=[]->∀ σ G Q,zU Γ XN es σ G Q->Q [] G:=fun e=>by
 subst e
 cases es with
 |nil=>exact fun σ G Q h=>h
 |cons a r=>cases h
def OkX (Γ:Ctx3) (Δ:CtxX) (p:Par) (s:RT):Prop:=∀ M Z X Ew x,Lxx Γ Δ M Z p X->XeOk X Ew->mX M Z s x=true->PS X x (lowX X.K Ew (qE Γ Δ s))
def OkXs (Γ:Ctx3) (Δ:CtxX) (p:Par) (s:RTs):Prop:=∀ M Z X Ew x,Lxx Γ Δ M Z p X->XeOk X Ew->mXs M Z s x=true->mR X x (lowX X.K Ew (wW Γ Δ s))
theorem x_pl (s:IS):OkX Γ Δ p (.pl s):=fun M Z X Ew x L xo h =>
 (nox_S (sndS g s M X.nox x L.lk h)).imp fun D τ H hq=>by
  obtain ⟨σ,G,D3,E3,hs,ab,f,_,hq⟩:=hq;exact ⟨σ,G,D3,hs,ab,f,hq⟩
theorem x_ite (c:IE) (a b:RTs) (ha:OkXs Γ Δ p a) (hb:OkXs Γ Δ p b):OkX Γ Δ p (.ite c a b):=fun M Z X Ew x L xo h=>by
 cases x with
 |If t y z pos =>
  obtain ⟨⟨h1,h2⟩,h3⟩:=bd3 h;refine (zif (PT.nox (kU g c M X.nox t L.lk h1).2.1) (ha M Z X Ew y L xo h2) (hb M Z X Ew z L xo h3)).imp fun D τ H hq=>?_;obtain ⟨σ,G,D3,E3,hs,ab,f,fe,hq⟩:=hq;refine tF (vK g.mono XN c) hs ab hq fun k G1 H1 g1 hs1 a1 hq=>?_
  split
  .rename_i hk;rw [if_pos hk] at hq;exact ⟨σ,G1,D3,E3,hs1,a1,f.grow g1,fe.grow g1,hq⟩
  .rename_i hk;rw [if_neg hk] at hq;exact ⟨σ,G1,D3,E3,hs1,a1,f.grow g1,fe.grow g1,hq⟩
 |_=>exact absurd h zzN
theorem x_whl (c:IE) (b:RTs) (hb:OkXs Γ Δ p b):OkX Γ Δ p (.whl c b):=fun M Z X Ew x L xo h=>by
 cases x with
 |While t y e pos =>
  cases e with
  |cons _ _=>exact absurd h zzN
  |nil =>
   obtain ⟨h1,h2⟩:=vD h;refine (zar xo.own (PT.nox (kU g c M X.nox t L.lk h1).2.1) (hb M Z X Ew y L xo h2)).imp fun D τ H hq=>?_;obtain ⟨σ,G,D3,E3,hs,ab,f,fe,Pv,⟨m0,p0⟩,step⟩:=hq;refine ⟨fun m τ H'=>yK X.K H H'/\∃ σ G,yY X.K H' σ τ/\xP X.K H' G/\Pv m σ G,⟨m0,.refl,σ,G,hs,ab,p0⟩,?_⟩;rintro m τ1 H1 ⟨g1,σ1,G1,hs1,a1,p1⟩;refine tF (vK g.mono XN c) hs1 a1 (step m σ1 G1 p1) fun k G2 H2 g2 hs2 a2 hq=>?_
   split
   .rename_i hk;rw [if_pos hk] at hq;have g12:=g1.trans g2;refine ⟨fun τ' H'=>∃ m',m' < m/\yK X.K H H'/\∃ σ G,yY X.K H' σ τ'/\xP X.K H' G/\Pv m' σ G,fun τ' H' z=>z,?_⟩;refine ⟨σ1,G2,_,E3,hs2,a2,⟨?_,?_,?_,?_⟩,fe.grow g12,hq⟩
    .rintro σ3 G3 τ3 H3 g3 hs3 a3 ⟨m',hm,p'⟩;exact ⟨m',hm,g12.trans g3,σ3,G3,hs3,a3,p'⟩
    .exact fun σ3 G3 τ3 H3 g3 hs3 a3 z=>f.nx σ3 G3 τ3 H3 (g12.trans g3) hs3 a3 z
    .rintro σ3 G3 τ3 H3 g3 hs3 a3 ⟨m',hm,p'⟩;exact ⟨m',hm,g12.trans g3,σ3,G3,hs3,a3,p'⟩
    .exact fun w G3 v3 H3 g3 r3 a3 z=>f.rt w G3 v3 H3 (g12.trans g3) r3 a3 z
   .rename_i hk;rw [if_neg hk] at hq;exact f.nx σ1 G2 τ1 H2 (g1.trans g2) hs2 a2 hq
 |_=>exact absurd h zzN
theorem x_for (tg:ITg) (it:II) (b:RTs) (hb:OkXs Γ Δ p b):OkX Γ Δ p (.for tg it b):=fun M Z X Ew x L xo h=>by
 cases x with
 |For t y z e pos =>
  cases e with
  |cons _ _=>exact absurd h zzN
  |nil =>
   obtain ⟨⟨⟨h1,h2⟩,h3⟩,h4⟩:=bd4 h;refine (zeR xo.own L.lk.fits.calm (nox_I (sndI g it M X.nox y L.lk h3 t)) (nox_G (sndG L.lk tg t h2)) (hb M Z X Ew z L xo h4) (sI h1)).imp fun D τ H hq=>?_;obtain ⟨σ,G,D3,E3,hs,ab,f,fe,hq⟩:=hq;refine ⟨σ,G,hs,ab,zge g.mono XN it σ G _ _ (fun items stab G1 hq J H1 g1 a1 ii=>?_) hq⟩;obtain ⟨Pv,p0,pst,step,fin⟩:=hq;refine ⟨fun i m τ H'=>m+i=items.length/\yK X.K H1 H'/\∃ σ G,yY X.K H' σ τ/\xP X.K H' G/\Pv i σ G,⟨items.length,rfl,.refl,σ,G1,hs.mono g1,a1,p0⟩,?_⟩;rintro i m τ2 H2 ⟨hm,g2,σ2,G2,hs2,a2,p2⟩;have st:=pst i σ2 G2 p2 (by omega)
   by_cases hi:i<items.length
   .refine .inr ⟨ii.go i H2 G2 g2 a2 st hi,fun τ' H'=>∃ m',m' < m/\(m'+(i+1)=items.length/\yK X.K H1 H'/\∃ σ G,yY X.K H' σ τ'/\xP X.K H' G/\Pv (i+1) σ G),fun τ' H' z=>z,fun x H' yl=>?_⟩;obtain ⟨w,ew,g3,rp,a3⟩:=ii.yld i H2 G2 x H' g2 a2 st hi yl;refine ⟨w,σ2,G2,rp,hs2.mono g3,a3,tQ tg w σ2 G2 _ _ (fun σ4 G4 hq τ4 H4 g4 hs4 a4=>?_) (step i w σ2 G2 ew p2)⟩;have gg:=g2.trans (g3.trans g4);refine ⟨σ4,G4,_,E3,hs4,a4,⟨?_,?_,?_,?_⟩,fe.grow (g1.trans gg),hq⟩
    .exact fun σ5 G5 τ5 H5 g5 hs5 a5 z=>⟨m-1,by omega,by omega,gg.trans g5,σ5,G5,hs5,a5,z⟩
    .exact fun σ5 G5 τ5 H5 g5 hs5 a5 z=>f.nx σ5 G5 τ5 H5 (g1.trans (gg.trans g5)) hs5 a5 z
    .exact fun σ5 G5 τ5 H5 g5 hs5 a5 z=>⟨m-1,by omega,by omega,gg.trans g5,σ5,G5,hs5,a5,z⟩
    .exact fun w5 G5 v5 H5 g5 r5 a5 z=>f.rt w5 G5 v5 H5 (g1.trans (gg.trans g5)) r5 a5 z
   .have ei:i=items.length:=by omega
    subst ei;exact .inl ⟨ii.stop _ H2 G2 g2 a2 st (zzR _),f.nx σ2 G2 τ2 H2 (g1.trans g2) hs2 a2 (fin σ2 G2 p2)⟩
 |_=>exact absurd h zzN
include gx
theorem zf3 {M:MC} {Z:MX} {X:Cx} {Ew:L2.St->L2.XK} {e:Expr} {f:Nat} {es:IEs} (L:Lxx Γ Δ M Z p X) (xo:XeOk X Ew) (h:nB M Z.fx f es e=true):tR e=true/\∃ k∈Δ.fx,Δ.fx[f]?=some k/\PE X e (ziT X.K Ew fun E σ G Q=>zU Γ XN es σ G fun ws G1=>k.sp ws G1 Q (E σ)):=by
 obtain ⟨x,q,xs,pos,rfl,h1,h2,h3⟩:=fJ h;rw [← L.fx] at h1;obtain ⟨k,hk,rfl⟩:=jL h1;have hm:=Zv hk;obtain ⟨gl,d1,_⟩:=kD (X:=X) L.lk.sc h2;obtain ⟨a1,a2,_⟩:=sndA g es M X.nox xs L.lk h3;exact ⟨rfl,k,hm,hk,(gx.fx k hm).1 X Ew L.lk.fits xo gl xs _ q pos (wL g.mono XN es) a2 (ziG a1) (ziI g h3) d1⟩
theorem x_asx (i f:Nat) (es:IEs):OkX Γ Δ p (.asx i f es):=fun M Z X Ew x L xo h=>by
 cases x with
 |Assign ts v pos =>
  match ts,h with
  | [.Name y py],h =>
   obtain ⟨⟨h1,h2⟩,h3⟩:=bd3 h;obtain ⟨nl,k,hm,hk,pe⟩:=zf3 g gx L xo h3;have lo:=nS L.lk h2;have hN:=yB h1;rw [← L.lk.N] at hN;refine (dL (X:=X) (i:=i) (show X.N.Nodup from L.lk.N▸L.lk.nd) hN lo.1 pe (wM nl) lo.2).imp fun D τ H hq=>?_;obtain ⟨σ,G,D3,E3,hs,ab,f3,fe,hq⟩:=hq;refine ⟨σ,G,E3,hs,ab,fe,wL g.mono XN es σ G _ _ (fun ws G1 hq=>?_) hq⟩;simp only [hk] at hq;exact (gx.fx k hm).2 _ _ _ _ _ _ (fun w G2 z v H' g' rp ab'=>f3.nx _ G2 _ H' g' ((hs.mono g').set rp i) ab' z) (fun _ _ z=>z) hq
 |_=>exact absurd h zzN
theorem x_exx (f:Nat) (es:IEs):OkX Γ Δ p (.exx f es):=fun M Z X Ew x L xo h=>by
 cases x with
 |Expr v pos =>
  obtain ⟨nl,k,hm,hk,pe⟩:=zf3 g gx L xo h;refine (zbR pe (wM nl)).imp fun D τ H hq=>?_;obtain ⟨σ,G,D3,E3,hs,ab,f3,fe,hq⟩:=hq;refine ⟨σ,G,E3,hs,ab,fe,wL g.mono XN es σ G _ _ (fun ws G1 hq=>?_) hq⟩;simp only [hk] at hq;exact (gx.fx k hm).2 _ _ _ _ _ _ (fun w G2 z v H' g' rp ab'=>f3.nx _ G2 _ H' g' (hs.mono g') ab' z) (fun _ _ z=>z) hq
 |_=>exact absurd h zzN
theorem x_rtx (f:Nat) (es:IEs):OkX Γ Δ p (.rtx f es):=fun M Z X Ew x L xo h=>by
 cases x with
 |Return v pos =>
  cases v with
  |none=>exact absurd h zzN
  |some v =>
   obtain ⟨nl,k,hm,hk,pe⟩:=zf3 g gx L xo h;refine (zeQ pe).imp fun D τ H hq=>?_;obtain ⟨σ,G,D3,E3,hs,ab,f3,fe,hq⟩:=hq;refine ⟨σ,G,E3,hs,ab,fe,wL g.mono XN es σ G _ _ (fun ws G1 hq=>?_) hq⟩;simp only [hk] at hq;exact (gx.fx k hm).2 _ _ _ _ _ _ (fun w G2 z v H' g' rp ab'=>f3.rt w G2 v H' g' rp ab' z) (fun _ _ z=>z) hq
 |_=>exact absurd h zzN
theorem x_rse (c:Nat) (es:IEs):OkX Γ Δ p (.rse c es):=fun M Z X Ew x L xo h=>by
 cases x with
 |Raise e from_ pos =>
  match e,from_,h with
  |some e,none,h =>
   obtain ⟨x,q,xs,cpos,rfl,h1,h2,h3⟩:=fJ h;rw [← L.cl] at h1;obtain ⟨k,hk,rfl⟩:=jL h1;have hm:=Zv hk;obtain ⟨gl,d1,_⟩:=kD (X:=X) L.lk.sc h2;obtain ⟨a1,a2,_⟩:=sndA g es M X.nox xs L.lk h3;refine (gx.cl k hm X Ew L.lk.fits xo gl xs _ q pos cpos (wL g.mono XN es) a2 (ziG a1) (ziI g h3) d1).imp fun D τ H hq=>?_;obtain ⟨σ,G,D3,E3,hs,ab,f3,fe,hq⟩:=hq;refine ⟨σ,G,D3,E3,hs,ab,f3,fe,wL g.mono XN es σ G _ _ (fun ws G1 hq=>?_) hq⟩;simp only [hk] at hq;exact hq
  |some _,some _,h=>exact absurd h zzN
  |none,_,h=>exact absurd h zzN
 |_=>exact absurd h zzN
theorem x_try (i j t:Nat) (b:RTs) (hb:OkXs Γ Δ p b):OkX Γ Δ p (.try i j t b):=fun M Z X Ew x L xo h=>by
 cases x with
 |Try bs hs o fin pos =>
  match o,fin,h with
  | [],[],h =>
   obtain ⟨h1,h2⟩:=vD h;obtain ⟨tn,tp,n,y,yp,np,ap,hp,rfl,e1,e2,e3,e4,e5,e6,e7,e8⟩:=zcN h1;rw [← L.tr] at e7;obtain ⟨k,hk,rfl⟩:=jL e7;have hm:=Zv hk;have T:=gx.tr k hm;obtain ⟨ini,TT⟩:=T.cls;obtain ⟨gl,d1,_⟩:=kD (X:=X) L.lk.sc e8;have hN:X.N.Nodup:=L.lk.N▸L.lk.nd;have sc:X.env.scope=M.sc:=L.lk.sc;have eK:X.K=p.K:=L.lk.fits.K;have eN:X.N=M.N:=L.lk.N;refine (zie (tb:=fun Ew=>lowX X.K Ew (wW Γ Δ b)) L.hk hN (by rw [eN];exact e1) (by rw [eN];exact e2) (by rw [sc];exact e3) (by rw [sc];exact e4) e5 e6 gl (by rw [show X.mg=p.mg from L.lk.fits.mg];exact T.mg) d1 (by rw [eK];exact TT) (fun pn E' Ew' xo'=>hb M Z _ Ew' bs (L.held pn E') xo' h2)).imp fun D τ H hq=>?_;obtain ⟨σ,G,D3,E3,hs,ab,f,fe,hq⟩:=hq;simp only [qE,hk] at hq;refine ⟨σ,G,D3,trR k i j D3,hs,ab,f,fun σ' w G' τ' a H' g' hs' rp ab' z=>?_,hq⟩;obtain ⟨C,ns,ws,rfl,hc,z⟩:=z;obtain ⟨dx,ha⟩:=ex_at rp;exact ⟨a,C,dx,rfl,ha,by rw [eK];exact T.sub C hc,f.nx _ G' _ H' g' (yY.unset ((hs'.set rp i).set rp j) i) ab' z⟩
  |_::_,_,h=>exact absurd h zzN
  | [],_::_,h=>exact absurd h zzN
 |_=>exact absurd h zzN
theorem zhO (s:RTs):OkXs Γ Δ p s :=
 RTs.rec (motive_1:=OkX Γ Δ p) (motive_2:=OkXs Γ Δ p) (x_pl g) (x_rse g gx) (fun c a b ha hb=>x_ite g c a b ha hb) (fun c b hb=>x_whl g c b hb) (fun tg it b hb=>x_for g tg it b hb) (x_asx g gx) (x_exx g gx) (x_rtx g gx) (fun i j t b hb=>x_try g gx i j t b hb)
  (fun M Z X Ew x L xo h=>by
   cases x with
   |nil=>exact zbQ.imp fun D τ H hq=>by obtain ⟨σ,G,D3,E3,hs,ab,f,_,hq⟩:=hq;exact f.nx σ G τ H .refl hs ab hq
   |cons _ _=>exact absurd h zzN)
  (fun s ss h1 h2 M Z X Ew x L xo h=>by
   cases x with
   |nil=>exact absurd h zzN
   |cons y ys =>
    obtain ⟨m1,m2⟩:=vD h;refine (zaq (h1 M Z X Ew y L xo m1) (h2 M Z X Ew ys L xo m2)).imp fun D τ H hq=>?_;obtain ⟨σ,G,D3,E3,hs,ab,f,fe,hq⟩:=hq;refine ⟨σ,G,{ D3 with nx:=wW Γ Δ ss E3 D3 },E3,hs,ab,⟨?_,f.bk,f.ct,f.rt⟩,fe,hq⟩;exact fun σ2 G2 τ2 H2 g2 hs2 a2 z=>⟨σ2,G2,D3,E3,hs2,a2,f.grow g2,fe.grow g2,z⟩) s
end
def dE (K:zA) (sp:SpX):Sp:=fun vs H Q E=>∃ ws G,zF K H ws vs/\xP K H G/\sp ws G (jK K H Q) (fun w G'=>∀ a H',yK K H H'->wX K H' w (.ref a)->xP K H' G'->E (.ref a) none H')
section
variable {X : Cx} {Ew : L2.St → L2.XK}
theorem zeM {pins:List (Addr×Obj)} {τ:L2.St} {H:Hp} {s:Shared} {Q:VK} {us:List Value} {vs:List V} {k:Nat} {f:Addr} {fd:FuncData} {ps:List Str} {sp:Sp} (F:FnOk X.prog X.w X.K X.mg X.base (CXr X.prog X.w) k f fd ps sp) (hr:Room k X.A) (hb:kY X.K fd ps []) (xo:XeOk X Ew) (I:Inv X pins τ H s) (r:zE vs us) (h:sp vs H Q (Ew τ)) :
  wpAny (model X.prog X.w) X.A (call (.ref f) us) (EP X pins τ Q) X.xe s:=by
 have hl:(us++[]).length=ps.length:=by rw [ZO,← r.length];exact F.len _ _ _ _ h
 have bs:=hb s us I.kIn hl;rw [ZO] at bs;refine Zb7 (ZaV (F.run X.A X.stack s H ⟨us,[]⟩ us vs Q (Ew τ) hr I.env0 bs r h) fun rr s' z=>?_)
 cases rr with
 |error e=>exact xo.pass pins τ H s e s' I z
 |ok fl =>
  cases fl with
  |ret u=>exact I.after z
  |next=>exact False.elim z
  |brk=>exact False.elim z
  |cont=>exact False.elim z
theorem zbg (hx:X.xe=fun _ _=>False):XeOk X (fun _=>E0) :=
 ⟨fun _ _ _ _ _ _ _ _ _ z=>z.elim,fun _ _ _ _ _ _ _ h=>by obtain ⟨_,_,_,_,_,_,_,_,_,_,_,_,_,_,z⟩:=h;exact z.elim,by rw [hx];exact Zcq⟩
theorem zit {nm:Str} {C:Addr} {args:List Expr} {t:A3} {q pos:Pos} {r:List V->Hp->VK->Prop} (hc:xD X (.ref C) r) (gl:Gl X nm) (hm:X.mg nm=some (.ref C)) (kp:PySem.W.keepIn X.K (.ref C)=true) (hn:args.all noStar=true) (pa:PA X args (vY X.K t)) (hnil:args=[]->∀ σ G Q,t σ G Q->Q [] G) (hdb:(nm==("__debug__" : Str))=false) :
  PE X (.Call (.Name nm q) args [] pos) (fun τ H Q=>vY X.K t τ H fun vs H1=>r vs H1 Q):=by
 cases args with
 |nil =>
  intro pins s σ H Q I h;obtain ⟨σ3,G,hs,ab,h⟩:=h;refine ZH (qN I gl hm ?_ hdb);exact ZbO I.kIn kp (hc pins s σ H [] [] Q I .nil (hnil rfl _ _ _ h [] H .refl rfl ab))
 |cons a l =>
  intro pins s σ H Q I h;obtain ⟨s1,s2⟩:=xV (env:=X.env) (pos:=pos) hn;refine ZH (qN I gl hm ?_ hdb);refine ZbX (h₀:=X.base) I.ok.mod.kin kp (yG (pa pos pins s σ H _ I h) fun us s1 z=>?_) s1 s2;obtain ⟨vs,H1,I1,r1,q1⟩:=z;exact ⟨I1.kIn,hc pins s1 σ H1 vs us Q I1 r1 q1⟩
end
section
variable {q : Pr} {A : Around} {nm : Str} {C : Addr}
theorem zju {k:Nat} {f:Addr} {fd:FuncData} {ps:List Str} {sp:SpX} (FO:FnOk q.prog q.w q.K q.mg q.base (CXr q.prog q.w) k f fd ps (dE q.K sp)) (hm:q.mg nm=some (.ref f)) (hk:PySem.W.keepIn q.K (.ref f)=true) (hb:kY q.K fd ps []) (mono:mV ⟨nm,sp⟩) (hr:Room k A):FxE (q.at A) ⟨nm,sp⟩:=by
 intro X Ew fits xo gl args t qp pos mt hn pa hnil hdb;have e:=fits.eq
 injection e with e1 e2 e3 e4 e5 e6
 have e1:q.prog=X.prog:=e1;have e2:q.w=X.w:=e2;have e3:q.K=X.K:=e3;have e4:q.mg=X.mg:=e4;have e5:q.base=X.base:=e5;have e6:A=X.A:=e6;subst e6;rw [e1,e2,e3,e4,e5] at FO;rw [e4] at hm;rw [e3] at hk hb
 cases args with
 |nil =>
  intro pins s τ H Q I h;obtain ⟨σ,G,E3,hs,ab,fe,h⟩:=h;have h:=hnil rfl _ _ _ h;refine ZH (qN I gl hm ?_ hdb);refine ZbO I.kIn hk (zeM (us:=[]) (vs:=[]) FO hr hb xo I .nil ?_);exact ⟨[],G,rfl,ab,mono _ _ _ _ _ _ (fun _ _ z=>z) (fun w G' z a H' g' rp ab'=>fe σ w G' τ a H' g' (hs.mono g') rp ab' z) h⟩
 |cons a l =>
  intro pins s τ H Q I h;obtain ⟨σ,G,E3,hs,ab,fe,h⟩:=h;obtain ⟨s1,s2⟩:=xV (env:=X.env) (pos:=pos) hn;refine ZH (qN I gl hm ?_ hdb)
  have ha:vY X.K t τ H fun vs H1=>dE X.K sp vs H1 Q (Ew τ):=uI mt hs ab h fun ws G1 vs H1 g1 hs1 rs a1 h =>
   ⟨ws,G1,rs,a1,mono _ _ _ _ _ _ (fun w G' z=>jK.mono g1 z) (fun w G' z a H' g' rp ab'=>fe σ w G' τ a H' (g1.trans g') (hs1.mono g') rp ab' z) h⟩
  refine ZbX (h₀:=X.base) I.ok.mod.kin hk (yG (pa pos pins s τ H _ I ha) fun us s1 z=>?_) s1 s2;obtain ⟨vs,H1,I1,r1,q1⟩:=z;exact ⟨I1.kIn,zeM FO hr hb xo I1 r1 q1⟩
theorem fn_fx {p:Par} {sp:SpX} (h:FxE p ⟨nm,sp⟩):FnE p ⟨nm,fun ws G Q _=>sp ws G Q fun _ _=>False⟩:=by
 intro X fits gl args t qp pos mt hn pa hnil hdb hnm;refine (h X (fun _=>E0) ⟨fits.prog,fits.w,fits.K,fits.mg,fits.base,fits.A,fits.calm,rfl⟩ (zbg fits.xe) gl args t qp pos mt hn pa hnil hdb).imp fun τ H Q z=>?_;obtain ⟨σ,G,hs,ab,z⟩:=z;exact ⟨σ,G,fun _ _ _=>False,hs,ab,fun _ _ _ _ _ _ _ _ _ _ z=>z.elim,z⟩
theorem zjz {p:Par} {sp:SpX} (h:FxE p ⟨nm,sp⟩) (m:mV ⟨nm,sp⟩):qS p ⟨nm,fun ws G Q _=>sp ws G Q fun _ _=>False⟩:=⟨fn_fx h,fun ws G Q Q' E k z=>m ws G Q Q' _ _ k (fun _ _ z=>z) z⟩
theorem cl_1 {fI:Addr} {f pr:Str} {k:Nat} {fd:FuncData} (T:XM q.K C (.ref fI)) (TI:XI q.K C f) (F:FnOk q.prog q.w q.K q.mg q.base CX0 k fI fd ["self", pr] (spXI q.K f)) (hr:Room (k+1) A) (hb:kY q.K fd ["self", pr] []) (hf:PySem.W.typeIn q.K (.ref fI)=some (.type "function")) (hm:q.mg nm=some (.ref C)):ClE (q.at A) ⟨nm,C,some f⟩:=by
 intro X Ew fits xo gl args t qp pos cpos mt hn pa hnil hdb;have e:=fits.eq
 injection e with e1 e2 e3 e4 e5 e6
 have e1:q.prog=X.prog:=e1;have e2:q.w=X.w:=e2;have e3:q.K=X.K:=e3;have e4:q.mg=X.mg:=e4;have e5:q.base=X.base:=e5;have e6:A=X.A:=e6;subst e6;rw [e1,e2,e3,e4,e5] at F;rw [e4] at hm;rw [e3] at T TI hb hf;refine (zdB xo fits.calm (zit (q:=qp) (pos:=cpos) (ziN T TI F hr hb hf) gl hm T.kp hn pa hnil hdb)).imp fun D τ H hq=>?_;obtain ⟨σ,G,D3,E3,hs,ab,f3,fe,hq⟩:=hq;refine uI mt hs ab hq fun ws G1 vs H1 g1 hs1 rs a1 h=>?_;obtain ⟨w,rfl,h⟩:=h;obtain ⟨v,rfl,rv⟩:=jN rs;refine ⟨v,rfl,fun a dx fr fx ne=>⟨a,C,some dx,_,rfl,yO,T,?_⟩⟩;rw [zfu];have fe':(yH H1 dx (.xd [(f,v)])) a=none:=by rw [zR ne.symm];exact fr
 have gr:=(xJ (K:=X.K) (u:=.xd [(f,v)]) fx).trans (xJ (K:=X.K) (u:=.ext (bU a C (some dx))) fe');refine fe σ (.exc C [f] [w]) G1 τ a _ (g1.trans gr) (hs1.mono gr) ⟨a,[v],rfl,.inr ⟨dx,yO,?_⟩,v,[],rfl,rv.mono gr,rfl⟩ ((a1.tup fx).tup fe') h;rw [zR ne];exact yO
end
structure ZOk (Δ:CtxX) (Z:MX):Prop where
 fx:Δ.fx.map (·.nm)=Z.fx
 cl:Δ.cl.map (·.nm)=Z.cl
 tr:Δ.tr.map (·.nm)=Z.tr
theorem zg3 {Γ:Ctx3} {Δ:CtxX} {q:Pr} {k:Nat} {M:MC} {Z:MX} {x qual:Str} {st:Stmt} {dV:Value} {f:Addr} {fd:FuncData} {ps:List Str} {sp:SpX} {body:RTs} (F:FunD q.K x qual st dV f fd) (S:FnScope M.N ps (zZ st)) (g:∀ A,Room k A->Good Γ (q.at A)) (gx:∀ A,Room k A->GoodX Δ (q.at A))
  (eM:MOk Γ M (zZ st)) (eZ:ZOk Δ Z) (hm:mXs M Z body (zG st)=true) (len:∀ ws G Q E,sp ws G Q E->ws.length=ps.length)
  (hb:∀ ws G Q E,sp ws G Q E->wW Γ Δ body (fun _=>E) { nx:=fun _ G'=>Q .non G',rt:=Q } (xX M.N ws) G):FnOk q.prog q.w q.K q.mg q.base (CXr q.prog q.w) (k+1) f fd ps (dE q.K sp):=by
 obtain ⟨oc,od,kV,doc,pm,an,cdv,ct,osl,rfl,lk,hcd⟩:=F.ex;refine zeg lk hcd S (fun vs H Q E h=>?_) fun A outer s H vs Q E hr h=>?_
 .obtain ⟨ws,G,rs,ab,h⟩:=h;rw [rs.length];exact len ws G _ _ h
 .obtain ⟨ws,G,rs,ab,h⟩:=h;refine ⟨lowX q.K (fun _=>E) (wW Γ Δ body),zhO (g _ hr) (gx _ hr) body M Z _ _ (zG st) ⟨⟨⟨rfl,rfl,rfl,rfl,rfl,rfl,rfl,rfl⟩,rfl,eM.sc.symm,S.nd,fun _ _=>rfl,by rw [eM.sc];exact S.kind,eM.fns,eM.gls,eM.mts,eM.its,eM.sxs,eM.ixs⟩,eZ.fx,eZ.cl,eZ.tr,rfl,rfl⟩ zhq hm,?_⟩;refine ⟨xX M.N ws,G,_,_,sX rs,ab,⟨?_,?_,?_,?_⟩,fun σ w G' τ a H' g' _ rp ab' z=>z a H' g' rp ab',hb ws G _ _ h⟩
  .exact fun σ G' τ H' g' _ a' z=>z .non H' g' (show wX q.K H' .non .non from rfl) a'
  .exact fun σ G' τ H' g' _ a' z=>z.elim
  .exact fun σ G' τ H' g' _ a' z=>z.elim
  .exact fun w G' v H' g' r' a' z=>z v H' g' r' a'
theorem zg4 {Γ:Ctx3} {Δ:CtxX} {q:Pr} {k:Nat} {M:MC} {Z:MX} {x qual:Str} {st:Stmt} {dV:Value} {f:Addr} {fd:FuncData} {ps:List Str} {sp:mU} {body:RTs} (F:FunD q.K x qual st dV f fd) (S:FnScope M.N ps (zZ st)) (g:∀ A,Room k A->Good Γ (q.at A)) (gx:∀ A,Room k A->GoodX Δ (q.at A))
  (eM:MOk Γ M (zZ st)) (eZ:ZOk Δ Z) (hm:mXs M Z body (zG st)=true) (len:∀ ws G Q,sp ws G Q XN->ws.length=ps.length)
  (hb:∀ ws G Q,sp ws G Q XN->wW Γ Δ body (fun _ _ _=>False) { nx:=fun _ G'=>Q .non G',rt:=Q } (xX M.N ws) G):FnOk q.prog q.w q.K q.mg q.base CX0 (k+1) f fd ps (uK q.K sp):=by
 obtain ⟨oc,od,kV,doc,pm,an,cdv,ct,osl,rfl,lk,hcd⟩:=F.ex;refine zeg lk hcd S (fun vs H Q E h=>?_) fun A outer s H vs Q E hr h=>?_
 .obtain ⟨ws,G,rs,ab,h⟩:=h;rw [rs.length];exact len ws G _ h
 .obtain ⟨ws,G,rs,ab,h⟩:=h;refine ⟨lowX q.K (fun _=>E0) (wW Γ Δ body),mR.nox (zhO (g _ hr) (gx _ hr) body M Z _ _ (zG st) ⟨⟨⟨rfl,rfl,rfl,rfl,rfl,rfl,rfl,rfl⟩,rfl,eM.sc.symm,S.nd,fun _ _=>rfl,by rw [eM.sc];exact S.kind,eM.fns,eM.gls,eM.mts,eM.its,eM.sxs,eM.ixs⟩,eZ.fx,eZ.cl,eZ.tr,rfl,rfl⟩ (zbg rfl) hm),?_⟩;refine ⟨xX M.N ws,G,_,_,sX rs,ab,⟨?_,?_,?_,?_⟩,fun σ w G' τ a H' g' _ rp ab' z=>z.elim,hb ws G _ h⟩
  .exact fun σ G' τ H' g' _ a' z=>z .non H' g' (show wX q.K H' .non .non from rfl) a'
  .exact fun σ G' τ H' g' _ a' z=>z.elim
  .exact fun σ G' τ H' g' _ a' z=>z.elim
  .exact fun w G' v H' g' r' a' z=>z v H' g' r' a'
end L3
namespace L3
open PySem PySem.Spec PyProof.Rows L2 PySem.SeqAt AutoSeq1
end L3
namespace L3
open PySem PySem.Spec PyProof.Rows L2 PySem.SeqAt
def Tid (t:SetTable):Prop:=t.dummies=#[]/\t.place.toList.Pairwise (· < ·)
theorem zc9 {xs:Array Nat} (hs:xs.toList.Pairwise (· < ·)) {i j:Nat} (hj:j<xs.size) (h:i<j):xs[i]<xs[j]:=by
 have:=List.pairwise_iff_getElem.mp hs i j (by simp;omega) (by simpa using hj) h;simpa using this
structure Bel (xs:Array Nat) (j k:Nat):Prop where
 le:k<=xs.size
 lt:∀ i (h:i<xs.size),i<k->xs[i]<j
 ge:∀ i (h:i<xs.size),k<=i->j<=xs[i]
theorem zgE {xs:Array Nat} {j:Nat} (hs:xs.toList.Pairwise (· < ·)):∀ (fuel lo hi:Nat),hi-lo<=fuel->lo<=hi->hi<=xs.size->(∀ i (h:i<xs.size),i<lo->xs[i]<j)->(∀ i (h:i<xs.size),hi<=i->j<=xs[i])->Bel xs j (SetTable.below.go xs j fuel lo hi):=by
 intro fuel
 induction fuel with
 |zero =>
  intro lo hi a b c d e;obtain rfl:lo=hi:=by omega
  exact ⟨c,d,e⟩
 |succ fuel ih =>
  intro lo hi a b c d e;unfold SetTable.below.go
  by_cases h:lo<hi
  .rw [if_pos h];dsimp only;have hm:(lo+hi) / 2<xs.size:=by omega
   have eg:xs.getD ((lo+hi) / 2) j=xs[(lo+hi) / 2]:=by simp [Array.getD,hm]
   rw [eg]
   by_cases h2:xs[(lo+hi) / 2]<j
   .rw [if_pos h2];refine ih _ _ (by omega) (by omega) c (fun i hi' hl=>?_) e
    by_cases h3:i=(lo+hi) / 2
    .subst h3;exact h2
    .exact ZbW (zc9 hs hm (show i<(lo+hi) / 2 by omega)) h2
   .rw [if_neg h2];refine ih _ _ (by omega) (by omega) (by omega) d fun i hi' hl=>?_
    by_cases h3:i=(lo+hi) / 2
    .subst h3;omega
    .have:=zc9 hs hi' (show (lo+hi) / 2<i by omega);omega
  .rw [if_neg h];obtain rfl:lo=hi:=by omega
   exact ⟨c,d,e⟩
theorem uB {xs:Array Nat} {j:Nat} (hs:xs.toList.Pairwise (· < ·)):Bel xs j (SetTable.below xs j) :=
 zgE hs _ _ _ (by omega) (ZX _) (zzR _) (fun i h z=>absurd z (Za6 _)) fun i h z=>absurd h (by omega)
def tV (t:SetTable) (i:Nat):Nat:=if i=0 then 0 else t.place.getD (i-1) 0+1
theorem mY {t:SetTable} (h:Tid t) {i:Nat} (hi:i<=t.place.size):SetTable.below t.place (tV t i)=i:=by
 have b:=uB (j:=tV t i) h.2;generalize SetTable.below t.place (tV t i)=k at b;have hk:=b.le;unfold tV at b
 by_cases h0:i=0
 .subst h0;rw [if_pos rfl] at b
  by_cases hk0:k=0
  .exact hk0
  .exact absurd (b.lt 0 (by omega) (by omega)) (by omega)
 .rw [if_neg h0] at b;have eg:t.place.getD (i-1) 0=t.place[i-1]'(by omega):=by simp [Array.getD,show i-1<t.place.size by omega]
  rw [eg] at b;rcases Nat.lt_trichotomy k i with hl|he|hg
  .have:=b.ge (i-1) (by omega) (by omega);omega
  .exact he
  .have h1:=b.lt i (by omega) hg;have h2:=zc9 h.2 (show i<t.place.size by omega) (show i-1<i by omega);omega
theorem mL {xs:Array Nat} {j:Nat} (hs:xs.toList.Pairwise (· < ·)) (h:xs[SetTable.below xs j]?≠some j):∀ i (hi:i<xs.size),xs[i]≠j:=by
 intro i hi e;have b:=uB (j:=j) hs;rcases Nat.lt_trichotomy (SetTable.below xs j) i with hl|he|hg
 .have h1:=b.ge _ (ZbW hl hi) (zzR _);have h2:=zc9 hs hi hl;omega
 .apply h;rw [he,Z9 hi,e]
 .have:=b.lt i hi hg;omega
theorem zea {α:Type} (xs:Array α) (p:Nat) (x:α):(SetTable.insertAt xs p x).toList=xs.toList.take p++x::xs.toList.drop p:=by
 unfold SetTable.insertAt;simp;exact Zbw (by simp)
theorem zjt {xs:Array Nat} {j:Nat} (hs:xs.toList.Pairwise (· < ·)) (h:∀ i (hi:i<xs.size),xs[i]≠j):(SetTable.insertAt xs (SetTable.below xs j) j).toList.Pairwise (· < ·):=by
 have b:=uB (j:=j) hs;generalize SetTable.below xs j=k at b;rw [zea]
 have h1:∀ a∈xs.toList.take k,a<j:=fun a ha=>by
  obtain ⟨i,hi,rfl⟩:=ZaO.mp ha;rw [Zac,Zn] at hi;rw [List.getElem_take];exact b.lt i (by omega) (by omega)
 have h2:∀ a∈xs.toList.drop k,j<a:=fun a ha=>by
  obtain ⟨i,hi,rfl⟩:=ZaO.mp ha;rw [Zav,Zn] at hi;rw [List.getElem_drop];have e1:=b.ge (k+i) (by omega) (by omega);have e2:=h (k+i) (by omega);show j<xs[k+i];omega
 have hs':(xs.toList.take k++xs.toList.drop k).Pairwise (· < ·):=by rw [List.take_append_drop];exact hs
 obtain ⟨p1,p2,p3⟩:=List.pairwise_append.mp hs';refine List.pairwise_append.mpr ⟨p1,ZaI.mpr ⟨h2,p2⟩,fun a ha c hc=>?_⟩;rcases Zk.mp hc with rfl|hc
 .exact h1 a ha
 .exact p3 a ha c hc
theorem zct (j:Nat):SetTable.has #[] j=false:=by simp [SetTable.has]
theorem zfG {t:SetTable} (h:t.dummies=#[]) (j:Nat):t.slot j≠.dummy:=by
 unfold SetTable.slot;dsimp only;rw [h,zct]
 split
 .exact fun z=>nomatch z
 .exact fun z=>nomatch z
theorem zjO (t:SetTable) (p:SetTable.Probe):(t.advance p).dummy=p.dummy:=by
 unfold SetTable.advance
 split<;>rfl
theorem zaU {t:SetTable} {f:Nat->Int} {x:Int} (h:t.dummies=#[]):∀ (fuel:Nat) (p:SetTable.Probe) {j:Nat} {d:Option Nat},p.dummy=none->SetTable.probe.go t f x fuel p=some (.empty j d)->t.slot j=.empty/\d=none:=by
 intro fuel
 induction fuel with
 |zero=>intro p j d _ e;cases e
 |succ fuel ih =>
  intro p j d hp e;unfold SetTable.probe.go at e
  split at e
  .rename_i hs;cases e;exact ⟨hs,hp⟩
  .rename_i hs;exact absurd hs (zfG h _)
  .split at e
   .cases e
   .exact ih _ ((zjO t p).trans hp) e
theorem zcx {t:SetTable} {x:Int} {j:Nat} {b:Bool} (h:t.dummies=#[]) (e:t.freeSlot x=some (j,b)):t.slot j=.empty:=by
 unfold SetTable.freeSlot at e
 split at e
 .rename_i j' d he;obtain ⟨h1,h2⟩:=zaU h _ _ rfl he;subst h2;cases e;exact h1
 .cases e
theorem vA (t:SetTable) (n:Nat):Tid (t.standIn n):=⟨rfl,by
 show (Array.range n).toList.Pairwise (· < ·);rw [Array.toList_range];exact List.pairwise_lt_range⟩
theorem zhw {t:SetTable} (h:Tid t) (n:Nat):Tid (t.orStandIn n):=by
 unfold SetTable.orStandIn
 split
 .exact h
 .exact vA t n
theorem zfz {t:SetTable} (h:Tid t) {j:Nat} (e:t.slot j=.empty):Tid (t.put j).1:=by
 refine ⟨?_,zjt h.2 (mL h.2 fun z=>?_)⟩
 .show (if SetTable.has t.dummies j then _ else t.dummies)=#[];rw [h.1,zct];rfl
 .unfold SetTable.slot at e;dsimp only at e;rw [z] at e;simp at e
theorem zgk {t:SetTable} (h:Tid t) (es:Array (Int×Value)) (x:Int) (v:Value):Tid (layNew t es x v).2.1:=by
 unfold layNew
 split
 .rename_i j b e;exact zhw (zfz h (zcx h.1 e)) _
 .exact vA _ _
theorem zbK (t:SetTable) (es:Array (Int×Value)) (n:Nat):Tid (relayAll t es n).2.1:=by
 unfold relayAll
 split
 .rename_i t' order e;dsimp only
  split
  .show Tid t';unfold SetTable.relaid SetTable.laid at e;revert e
   cases SetTable.layClean (SetTable.sizeAbove n-1) (es.map (·.1)) with
   |none=>intro e;cases e
   |some ow =>
    intro e;rw [← (Prod.mk.inj (Zz e)).1];refine ⟨rfl,?_⟩;show (List.map _ _).Pairwise (· < ·);rw [List.pairwise_map];refine List.Pairwise.filterMap _ (fun a b hab x hx y hy=>?_) List.pairwise_lt_range;have hx:((ow.getD a none).map fun z=>(a,z))=some x:=hx;have hy:((ow.getD b none).map fun z=>(b,z))=some y:=hy;obtain ⟨_,_,rfl⟩:=Zq.mp hx;obtain ⟨_,_,rfl⟩:=Zq.mp hy;exact hab
  .exact vA _ _
 .exact vA _ _
structure KdS (prog:Program) (w:World) (α:Type) [DecidableEq α] where
 k:_root_.PySem.KeyKind prog w α
 vl:α->Tok->Value
 of:Value->α
 d:α
 is:∀ x t,k.is x (vl x t)=true
 sh:∀ {x v},k.is x v=true->∃ t,v=vl x t
 ofm:∀ x t,of (vl x t)=x
 sc:∀ x t,(vl x t).scannable=true
def kStr (prog:Program) (w:World):KdS prog w Str:=⟨PySem.strKind prog w,.str,strOf, "", strKind_is prog w,Value.isStrOf_shape,fun _ _=>rfl,fun _ _=>rfl⟩
def intOf:Value->Int
 | .int i _=>i
 |_=>0
def kInt (prog:Program) (w:World):KdS prog w Int:=⟨PySem.intKind prog w,.int,intOf,0,intKind_is prog w,Value.isInt_shape,fun _ _=>rfl,fun _ _=>rfl⟩
section
variable {α : Type} [DecidableEq α] {prog : Program} {w : World}
def tx (K:KdS prog w α) (e:Int×Value):α:=K.of e.2
structure SetO (K:KdS prog w α) (o:Obj) (led:Bool) (es:Array (Int×Value)) (ep:Nat) (t:SetTable):Prop where
 obj:o={ cls:=.type "set", dict:=none,data:=.set es ep t,slots:=#[] }
 el:ElemsOf K.k es.toList
 fit:t.fits es.size=true
 led:t.led=led
 td:Tid t
 nd:(es.toList.map (tx K)).Nodup
def hU (K:KdS prog w α) (h:Heap) (S:Addr) (led:Bool) (xs:List α):Prop :=
 ∃ o es ep t,h.get? S=some o/\SetO K o led es ep t/\es.size<=xs.length/\∀ x,x∈es.toList.map (tx K)↔x∈xs
end
theorem zix (t:SetTable) (n:Nat):(t.orStandIn n).led=t.led:=by
 unfold SetTable.orStandIn
 split<;>rfl
theorem zgl (t:SetTable) (es:Array (Int×Value)) (h:Int) (x:Value):(layNew t es h x).2.1.led=t.led:=by
 unfold layNew
 split
 .dsimp only;rw [zix];rfl
 .rfl
theorem zbL (t:SetTable) (es:Array (Int×Value)) (n:Nat):(relayAll t es n).2.1.led=t.led:=by
 unfold relayAll
 split
 .rename_i t' order e
  have e:t'.led=t.led:=by
   unfold SetTable.relaid SetTable.laid at e;revert e
   cases SetTable.layClean (SetTable.sizeAbove n-1) (es.map (·.1)) with
   |none=>intro e;cases e
   |some ow =>
    intro e;rw [← (Prod.mk.inj (Zz e)).1]
  dsimp only
  split
  .exact e
  .rfl
 .rfl
section
variable {α : Type} [DecidableEq α] {prog : Program} {w : World} {K : KdS prog w α} {A : Around} {E : Value → Shared → Prop} {s : Shared} {S : Addr} {led : Bool}
theorem zjn {x:α} {v:Value} (h:K.k.is x v=true):K.of v=x:=by
 obtain ⟨t,rfl⟩:=K.sh h;exact K.ofm x t
theorem zg1 {es:List (Int×Value)} (h:ElemsOf K.k es) {e:Int×Value} (he:e∈es):K.k.is (tx K e) e.2=true:=by
 obtain ⟨⟨k,hk,_⟩,_⟩:=h e he;unfold tx;rw [zjn hk];exact hk
theorem zdr {xs:List α} {x:α} {tk:Tok} {Q:Bool->Shared->Prop} (h:hU K s.heap S led xs) (hb:xs.length+1<scanBound)
  (q:∀ h' b,Heap.SameBut S s.heap h'->hU K h' S led (xs++[x])->Q b { s with heap:=h',toks:=s.toks+1 }):wpAny (model prog w) A (setAdd S (K.vl x tk)) Q E s:=by
 obtain ⟨o,es,ep,t,ho,so,hl,hm⟩:=h;have hd:o.data=.set es ep t:=by rw [so.obj]
 have hkey:K.k.is x (K.vl x tk)=true:=K.is x tk;have hsc:(K.vl x tk).scannable=true:=K.sc x tk;have hsz:es.size+1<scanBound:=by omega
 unfold setAdd;refine ZK (Za (K.k.pyHash hkey ?_));unfold setAddHashed setAddHashedIn;refine ZK (Za (Zah (s:={ s with toks:=s.toks+1 }) ho hd so.fit ?_));dsimp only;rw [byScan_of hsc (by omega) so.el];simp only [↓reduceIte];unfold setAddByScan;refine Za (Za (ZaU (Za (wpAny_setScan_of (s:={ s with toks:=s.toks+1 }) hkey ho hd so.fit so.el ?_))))
 cases hr:List.findIdx? (fun e=>K.k.is x e.2) es.toList with
 |some j =>
  dsimp only;obtain ⟨hj,hpj,_⟩:=List.findIdx?_eq_some_iff_getElem.mp hr;have hx:x∈xs:=(hm x).mp (List.mem_map.mpr ⟨_,Zau hj,zjn hpj⟩);refine Zc (Zc (q s.heap false (Zb4 S s.heap) ⟨o,es,ep,t,ho,so,by rw [zzW];omega,fun y=>?_⟩));rw [hm y,Z3,Zx];exact ⟨.inl,fun z=>z.elim id fun e=>by rw [e];exact hx⟩
 |none =>
  dsimp only
  have hx:x∉es.toList.map (tx K):=fun hx=>by
   obtain ⟨e,he,hxe⟩:=zzP hx;have:=List.findIdx?_eq_none_iff.mp hr e he;rw [← hxe,zg1 so.el he] at this;cases this
  have gave:∀ (b:Bool) {s₁:Shared} {Q':Unit->Shared->Prop},Q' () s₁->wpAny (model prog w) A (match b with|true=>rule "set.scan.the-table-gave-way" | false=>pure ()) Q' E s₁:=fun b s₁ Q' hq=>by
   cases b
   .exact Zc hq
   .exact ZaU hq
  have hperm:=layNew_perm t es (K.k.hash x) (K.vl x tk);have hfits:=layNew_fits t es (K.k.hash x) (K.vl x tk);have htd:=zgk so.td es (K.k.hash x) (K.vl x tk);have hled:=zgl t es (K.k.hash x) (K.vl x tk);generalize layNew t es (K.k.hash x) (K.vl x tk)=L at hperm hfits hled htd ⊢;obtain ⟨es1,t1,wasD,gv⟩:=L;dsimp only at hperm hfits hled htd ⊢;rw [Array.toList_push] at hperm;have hel1:ElemsOf K.k es1.toList:=(so.el.push hkey hsc).perm hperm;have sz1:es1.size=es.size+1:=by rw [← Zn,hperm.length_eq,zzW,Zn];rfl
  have hp1:(es1.toList.map (tx K)).Perm (es.toList.map (tx K)++[x]):=by have:=hperm.map (tx K);rwa [Zai,show [(K.k.hash x,K.vl x tk)].map (tx K)=[x] from congrArg (fun z=>[z]) (K.ofm x tk)] at this
  have nd1:(es1.toList.map (tx K)).Nodup:=hp1.nodup_iff.mpr (List.nodup_append.mpr ⟨so.nd,by simp,fun a ha b hb e=>by rw [zzO hb] at e;exact hx (e▸ha)⟩)
  have mem1:∀ y,y∈es1.toList.map (tx K)↔y∈xs++[x]:=fun y=>by
   rw [hp1.mem_iff,Z3,Z3,hm y]
  have end':∀ (es2:Array (Int×Value)) (t2:SetTable) (ep2:Nat) (h':Heap),es2.toList.Perm es1.toList->t2.fits es2.size=true->t2.led=led->Tid t2->Heap.SameBut S s.heap h'->h'.get? S=some { cls:=.type "set", dict:=none,data:=.set es2 ep2 t2,slots:=#[] }->Q true { s with heap:=h',toks:=s.toks+1 }:=by
   intro es2 t2 ep2 h' hp2 hf2 hl2 hpl2 hsb hg;have hpm:=hp2.map (tx K);have sz2:es2.size=es1.size:=by rw [← Zn,hp2.length_eq,Zn]
   refine q h' true hsb ⟨_,es2,ep2,t2,hg,⟨rfl,hel1.perm hp2,hf2,hl2,hpl2,hpm.nodup_iff.mpr nd1⟩,?_,fun y=>by rw [hpm.mem_iff,mem1 y]⟩;rw [zzW,sz2,sz1];show es.size+1<=xs.length+1;omega
  have ob:∀ (es':Array (Int×Value)) (t':SetTable) (e:Nat) (es0:Array (Int×Value)) (t0:SetTable),Obj.putSet es' t' { cls:=.type "set", dict:=none,data:=.set es0 e t0,slots:=#[] }={ cls:=.type "set", dict:=none,data:=.set es' (e+1) t',slots:=#[] }:=fun _ _ _ _ _=>rfl
  have tail:∀ t2:SetTable,t2.fits es1.size=true->t2.led=led->Tid t2->wpAny (model prog w) A (do
    storeSet S es1 t2
    if (!wasD&&t2.tooFull)=true then do
      (match (relayAll t2 es1 (SetTable.grown es1.size)).2.2 with|true=>rule "set.scan.the-table-gave-way" | false=>pure ())
      storeSet S (relayAll t2 es1 (SetTable.grown es1.size)).1 (relayAll t2 es1 (SetTable.grown es1.size)).2.1
      pure (some true)
     else pure (some true)) (fun r s'=>wpAny (model prog w) A (match r with|some added=>pure added|none=>setAddHashedIn S (K.vl x tk) (K.k.hash x) 99999) Q E s') E { s with toks:=s.toks+1 }:=by
   intro t2 hf2 hl2 hp2;refine Za (wpAny_storeSet_of (s:={ s with toks:=s.toks+1 }) ho hd ?_ (fits_of_scanBound (by omega)))
   have g1:(s.heap.update S (Obj.putSet es1 t2)).get? S=some { cls:=.type "set", dict:=none,data:=.set es1 (ep+1) t2,slots:=#[] }:=by
    have:=Zr (Obj.putSet es1 t2) ho (by rw [so.obj];rfl);rw [so.obj,ob] at this;exact this
   have sb1:=ZaX s.heap S (Obj.putSet es1 t2)
   split
   .have hp:=relayAll_perm t2 es1 (SetTable.grown es1.size);have hfr:=relayAll_fits t2 es1 (SetTable.grown es1.size);have hlr:=zbL t2 es1 (SetTable.grown es1.size);have htr:=zbK t2 es1 (SetTable.grown es1.size);generalize relayAll t2 es1 (SetTable.grown es1.size)=Rl at hp hfr hlr htr ⊢;obtain ⟨es2,t3,gv2⟩:=Rl;dsimp only at hp hfr hlr htr ⊢;have sz2:es2.size=es1.size:=by rw [← Zn,hp.length_eq,Zn]
    refine Za (gave gv2 ?_);refine Za (wpAny_storeSet_of (s:={ s with heap:=s.heap.update S (Obj.putSet es1 t2),toks:=s.toks+1 }) g1 rfl ?_ (fits_of_scanBound (by omega)));refine Zc (Zc (end' es2 t3 (ep+2) _ hp hfr (hlr.trans hl2) htr (sb1.trans (ZaX _ S _)) ?_));have:=Zr (Obj.putSet es2 t3) g1 rfl;rw [ob] at this;exact this
   .exact Zc (Zc (end' es1 t2 (ep+1) _ (.refl _) hf2 hl2 hp2 sb1 g1))
  refine Za (gave gv ?_)
  split
  .refine Za ?_;rw [hashByValue_scannable 8 hsc];refine Zc ?_;cases plainKind (K.vl x tk)
   .exact tail { t1 with plain:=false } (SetTable.fits_plain_off hfits) (hled.trans so.led) htd
   .exact tail t1 hfits (hled.trans so.led) htd
  .refine Za (Zc ?_);exact tail t1 hfits (hled.trans so.led) htd
end
section
variable {α : Type} [DecidableEq α] {prog : Program} {w : World} {K : KdS prog w α} {A : Around} {R : Result → Shared → Prop} {I : Addr} {fp wr : List Addr} {G : Array GenState → Array GenState → Prop} {n : Nat} {P : Nat → Value → Prop} {St : Nat → Shared → Prop} {S : Addr} {led : Bool}
theorem hU.other {h h':Heap} {xs:List α} (t:hU K h S led xs) (k:∀ o,h.get? S=some o->h'.get? S=some o):hU K h' S led xs:=by
 obtain ⟨o,es,ep,tb,ho,r⟩:=t;exact ⟨o,es,ep,tb,k o ho,r⟩
theorem bK (W:WalksS prog w A.in1 I fp wr G n P St) (hSf:S∉fp) (val:Nat->α) (hv:∀ i v,P i v->∃ t,v=K.vl (val i) t) (hb:n+1<scanBound) :
  ∀ (k i:Nat) (s:Shared),i+k=n->St i s->hU K s.heap S led ((List.range i).map val) ->
   (∀ s',Moved (S::wr) G s s'->hU K s'.heap S led ((List.range n).map val)->R (.ok (.ret .none)) s') ->
   codeAny (model prog w) A (.builtin "set.update.loop" ⟨[.ref S,.ref I],[]⟩) R s:=by
 have nw:S∉wr:=fun h=>hSf (W.sub _ h);have up:∀ b∈wr,b∈S::wr:=fun b hb=>Zo _ hb;intro k
 induction k with
 |zero =>
  intro i s e st hS hR;obtain rfl:i=n:=by omega
  refine Zaa PyProof.Rows.F.entry_set_update_loop ?_;rw [ZS Zay _];refine Za (m:=pyNext (.ref I)) (W.done s _ _ st fun s' hm=>?_);exact Zc (hR s' (hm.mono up) (hS.other fun o ho=>hm.heap S o nw ho))
 |succ k ih =>
  intro i s e st hS hR;have hi:i<n:=by omega
  refine Zaa PyProof.Rows.F.entry_set_update_loop ?_;rw [ZS Zay _];refine Za (m:=pyNext (.ref I)) (W.item i s _ _ hi st fun v s' hP st' hm=>?_);obtain ⟨tk,rfl⟩:=hv i v hP;have hS':=hS.other fun o ho=>hm.heap S o nw ho;refine Za (m:=holding _ _) (ZK (zdr (x:=val i) (tk:=tk) hS' (by rw [zzM,Zae];omega) fun h' b sb h2=>?_));have h3:hU K h' S led ((List.range (i+1)).map val):=by rw [List.range_succ,Zai];exact h2
  refine Zc ⟨Zal Zay _,ih (i+1) _ (by omega) (W.frame _ s' _ _ st' (Zbj _) fun b hb o e=>?_) h3 fun s'' hm' hS''=>?_⟩
  .rw [sb.2 b fun z=>hSf (z▸hb)];exact e
  .refine hR s'' (Zca W.gtrans ((hm.mono up).then_heap (Zbj _) fun b o hb e=>?_) hm') hS'';rw [sb.2 b fun z=>hb (z▸zzT)];exact e
end
section
variable {prog : Program} {w : World} {A : Around} {E : Value → Shared → Prop} {s : Shared}
def wQ (w:World):Bool:=!w.params.followText "set-order"
abbrev sQ (led:Bool):Obj:={ cls:=.type "set", dict:=none,data:=.set #[] 0 (.fresh 0 0 led) }
theorem zfH (a:Value) {Q:Value->Shared->Prop} (h:Q (.ref s.heap.objs.size) { s with heap:=s.heap.push (sQ (wQ w)) }) :
  codeAny (model prog w) A (.call (.builtin "set.__new__") ⟨[.type "set", a],[]⟩) (wants Q E) s:=by
 apply codeAny_of_tree
 apply wpAny_bind (m:=checkBuiltinCall "set.__new__" _)
 apply wpAny_of_eq (PySem.F.newCall_set_1 a)
 refine wpAny_pure ⟨plainId_quiet PySem.F.plain_set_new _,codeAny_builtin PySem.F.entry_set_new ?_⟩
 rw [Around.under_plainId PySem.F.plain_set_new _]
 have u:=PySem.sub_set_self
 cases s
 wp_walk using wpAny_askSetting
 exact h
theorem zbv:∀ {vs:List Value} {ss:List Str},StrsAre vs ss->∀ (i:Nat) (v:Value),vs[i]?=some v->∃ t,v=.str (ss.getD i "") t
 |_,_,.nil,i,v,h=>by simp at h
 |_,_,.cons x t hr,0,v,h=>by simp at h;exact ⟨t,h.symm⟩
 |_,_,.cons x t hr,i+1,v,h=>by
  simp only [ZR] at h;obtain ⟨t',e⟩:=zbv hr i v h;exact ⟨t',by rw [e];rfl⟩
theorem vR:∀ {vs:List Value} {ss:List Str},StrsAre vs ss->vs.length=ss.length
 |_,_,.nil=>rfl
 |_,_,.cons x t h=>by rw [Zh,Zh,vR h]
theorem zcp:∀ {vs:List Value} {ss:List Int},IntsAre vs ss->∀ (i:Nat) (v:Value),vs[i]?=some v->∃ t,v=.int (ss.getD i 0) t
 |_,_,.nil,i,v,h=>by simp at h
 |_,_,.cons x t hr,0,v,h=>by simp at h;exact ⟨t,h.symm⟩
 |_,_,.cons x t hr,i+1,v,h=>by
  simp only [ZR] at h;obtain ⟨t',e⟩:=zcp hr i v h;exact ⟨t',by rw [e];rfl⟩
theorem vG:∀ {vs:List Value} {ns:List Int},IntsAre vs ns->vs.length=ns.length
 |_,_,.nil=>rfl
 |_,_,.cons _ _ h=>by rw [Zh,Zh,vG h]
def Are {α:Type} [DecidableEq α] (K:KdS prog w α) (vs:List Value) (xs:List α):Prop:=vs.length=xs.length/\∀ (i:Nat) (v:Value),vs[i]?=some v->∃ t,v=K.vl (xs.getD i K.d) t
theorem zdg {vs:List Value} {ss:List Str} (h:StrsAre vs ss):Are (kStr prog w) vs ss:=⟨vR h,zbv h⟩
theorem zd9 {vs:List Value} {ss:List Int} (h:IntsAre vs ss):Are (kInt prog w) vs ss:=⟨vG h,zcp h⟩
theorem wm0 {P Q:Value->Shared->Prop} {c:Code} (h:codeAny (model prog w) A c (wants P E) s) (f:∀ v s',P v s'->Q v s'):codeAny (model prog w) A c (wants Q E) s:=by
 refine codeAny_mono h fun r s' hr=>?_
 rcases r with e|(_|_|_|v) <;> first|exact hr|exact f _ _ hr
theorem tc0 {T nw ini:String} {as:List Value} {N Q:Value->Shared->Prop} (ft:TypeCalled T nw ini) (ck:checkTypeCall T ⟨as,[]⟩=pure ())
  (hn:codeAny (model prog w) A.in1 (.call (.builtin nw) ⟨.type T::as,[]⟩) (wants N E) s)
  (hi:∀ o t,N o t->t.TypeIs o T/\codeAny (model prog w) A.in1 (.call (.builtin ini) ⟨o::as,[]⟩) (wants (fun r t'=>r=.none/\Q o t') E) t) :
  wpAny (model prog w) A (call (.type T) as) Q E s:=by
 obtain ⟨c,tl,t5⟩:=ft.mro
 have t1:=ft.notType
 have t2:=ft.canCreate
 have t3:=ft.made
 have t4:=ft.sub
 apply wpAny_call
 apply codeAny_of_tree
 apply wpAny_pure
 refine ⟨Code.quiet_builtin _ (by decide +kernel),codeAny_builtin PySem.F.entry_type_call ?_⟩
 rw [Around.under_plain (weight_type_call_type T as []) rfl]
 wp_walk
 refine wm0 hn fun o t ho=>?_
 obtain ⟨t6,t7⟩:=hi o t ho
 have t8:=ft.init.lookup
 have t9:=ft.init.bind o
 wp_walk
 refine wm0 t7 fun r t' hr=>?_
 obtain ⟨rfl,q⟩:=hr
 wp_walk
 exact q
theorem sw0 {b:Bool} (hh:A.handled=none) (I l:Addr) (ne:l≠I) (xs:Array Value) :
  Walks prog w A I [I,l] [I] xs.size (fun i v=>xs[i]?=some v) (fun i h=>sE b h I l i/\rF b h l xs):=by
 cases b
 .exact Walks.list hh I l ne xs
 .exact Walks.tuple hh I l ne xs
theorem sc0 {b:Bool} {h:Heap} {l:Addr} {xs:Array Value} (x:rF b h l xs):∃ c o,h.get? l=some o/\o.cls=.type c/\(Value.type c==Value.type "dict")=false/\isSubtype (.type c) (.type "set")=pure false/\isSubtype (.type c) (.type "frozenset")=pure false:=by
 cases b
 .obtain ⟨o,ho,hc,_⟩:=x
  exact ⟨_,o,ho,hc,by decide,PySem.F.sub_list_set,PySem.F.sub_list_frozenset⟩
 .obtain ⟨o,ho,hc,_⟩:=x
  exact ⟨_,o,ho,hc,by decide,PySem.F.sub_tuple_set,PySem.F.sub_tuple_frozenset⟩
theorem zal {α:Type} [DecidableEq α] {K:KdS prog w α} {b:Bool} {l:Addr} {items:Array Value} {ss:List α} {Q:Value->Shared->Prop} (hh:A.handled=none) (hl:rF b s.heap l items) (hi:Are K items.toList ss) (hb:items.size+1<scanBound)
  (h:∀ (h':Heap) (tk:Nat),hU K h' s.heap.objs.size (wQ w) ss->(∀ b o,b<s.heap.objs.size->s.heap.get? b=some o->h'.get? b=some o)->Q (.ref s.heap.objs.size) { s with heap:=h',toks:=tk }) :
  wpAny (model prog w) A (call (.type "set") [.ref l]) Q E s:=by
 refine tc0 (N:=fun o t=>o=.ref s.heap.objs.size/\t={ s with heap:=s.heap.push (sQ (wQ w)) }) PySem.F.called_set (PySem.F.typeCall_set_1 _) (zfH _ ⟨rfl,rfl⟩) ?_
 rintro _ _ ⟨rfl,rfl⟩
 have hS:(s.heap.push (sQ (wQ w))).get? s.heap.objs.size=some (sQ (wQ w)):=Heap.get?_push_size _ rfl
 have ty:Shared.TypeIs { s with heap:=s.heap.push (sQ (wQ w)) } (.ref s.heap.objs.size) "set" := ⟨_,hS,rfl⟩
 refine ⟨ty,codeAny_call_builtin PySem.F.called_set.init.plain PySem.F.entry_set_init (check_set_init_1 ty ?_)⟩
 have sq:rF b (s.heap.push (sQ (wQ w))) l items:=hl.at fun o e=>Heap.get?_push_of_some _ e
 obtain ⟨c,⟨oc,od,oda,osl⟩,g,e,u3,u1,u2⟩:=sc0 sq
 cases e
 have lt:l<s.heap.objs.size:=by
  obtain ⟨c',o',g',_⟩:=sc0 hl
  exact Heap.lt_size g'
 wp_walk using pN sq
 have nl:l≠(s.heap.push (sQ (wQ w))).objs.size:=by rw [Heap.size_push];exact Nat.ne_of_lt (Nat.lt_succ_of_lt lt)
 have nf:s.heap.objs.size∉[(s.heap.push (sQ (wQ w))).objs.size,l]:=by
  intro m
  rw [Heap.size_push,List.mem_cons,List.mem_singleton] at m
  exact m.elim (Nat.ne_of_lt (Nat.lt_succ_self _)) (Nat.ne_of_gt lt)
 refine bK (led:=wQ w) (sw0 (b:=b) (by simp [hh]) _ l nl items).toS nf (fun i=>ss.getD i K.d) (fun i v hv=>hi.2 i v (by rw [ZQ];exact hv)) hb items.size 0 _ (Nat.zero_add _) ⟨⟨_,Heap.get?_push_size _ rfl,rfl,rfl⟩,sq.at fun o e=>Heap.get?_push_of_some _ e⟩ (⟨_,#[],0,_,Zb _ hS,⟨rfl,fun e he=>by simp at he,by rfl,rfl,⟨rfl,.nil⟩,by simp⟩,ZX _,fun x=>by simp⟩) ?_
 intro t mv hT
 have e:t={ s with heap:=t.heap,toks:=t.toks }:=by
  have e1:=mv.gens
  have e2:=mv.drawn
  have e3:=mv.os
  cases t
  simp only at e1 e2 e3
  rw [e1,e2,e3]
 have ln:=hi.1
 rw [Array.length_toList] at ln
 rw [ln,jB (α:=α) K.d ss] at hT
 wp_walk
 refine ⟨rfl,e▸h t.heap t.toks hT fun c o hc g=>mv.heap c o (fun m=>?_) (Heap.get?_push_of_some _ (Heap.get?_push_of_some _ g))⟩
 rw [Heap.size_push,List.mem_cons,List.mem_singleton] at m
 exact m.elim (Nat.ne_of_lt hc) (Nat.ne_of_lt (Nat.lt_succ_of_lt hc))
end
namespace SI
theorem slot_next:Slot "set_iterator" "__next__" "set_iterator.__next__" :=
 .of (owner := "set_iterator") (n := "__next__") (by rw [Zab,ZL];kernel_rfl) (by decide +kernel) (by decide +kernel) (by decide +kernel) (by first|exact .inl (by decide +kernel)|exact .inr (by decide +kernel)) (by rw [ZaN];kernel_rfl)
theorem slot_iter:Slot "set_iterator" "__iter__" "set_iterator.__iter__" :=
 .of (owner := "set_iterator") (n := "__iter__") (by rw [Zab,ZL];kernel_rfl) (by decide +kernel) (by decide +kernel) (by decide +kernel) (by first|exact .inl (by decide +kernel)|exact .inr (by decide +kernel)) (by rw [ZaN];kernel_rfl)
theorem entry_next:entryFor table "set_iterator.__next__" = some Builtin.«set_iterator.__next__»:=Zck (by kernel_rfl)
theorem entry_iter:entryFor table "set_iterator.__iter__" = some Builtin.«dict_keyiterator.__iter__» :=
 Zcv (id' := "dict_keyiterator.__iter__") (by kernel_rfl) rfl (by decide +kernel) (by kernel_rfl)
theorem entry_siter:entryFor table "set.__iter__" = some Builtin.«frozenset.__iter__» :=
 Zcv (id' := "frozenset.__iter__") (by kernel_rfl) rfl (by decide +kernel) (by kernel_rfl)
theorem args_next (a:Value):argsOk "set_iterator.__next__" ⟨[a],[]⟩:=by unfold argsOk;kernel_rfl
theorem args_iter (a:Value):argsOk "set_iterator.__iter__" ⟨[a],[]⟩:=by unfold argsOk;kernel_rfl
end SI
abbrev itO (first:Value) (i:Nat) (S:Addr) (n ep:Nat):Obj:={ cls:=.type "set_iterator", data:=.fields #[first,.int i 0,.ref S,.int n 0,.int ep 0] }
section
variable {α : Type} [DecidableEq α] {prog : Program} {w : World} {K : KdS prog w α} {A : Around} {E : Value → Shared → Prop} {s : Shared} {I S : Addr} {first : Value} {i n ep : Nat} {led : Bool} {o : Obj} {es : Array (Int × Value)} {t : SetTable}
theorem sR {Q:Value->Shared->Prop} (hI:s.heap.get? I=some (itO first i S n ep)) (h:Q (.ref I) s):wpAny (model prog w) A (pyIter (.ref I)) Q E s:=by
 have hT:s.TypeIs (.ref I) "set_iterator" := ⟨_,hI,rfl⟩;refine ZbB hT SI.slot_iter (ZC SI.slot_iter hT SI.entry_iter ?_ (SI.args_iter _));show wpAny (model prog w) _ (ret (.ref I)) _ _ s;exact Zc ⟨_,rfl, "set_iterator", _,hT,SI.slot_next.lookup,h⟩
theorem rE {β:Type} {B:Around} {Q:β->Shared->Prop} {Er:Value->Shared->Prop} (hh:B.handled=none) (h:∀ (h':Heap) (e:Addr),(∀ b o,s.heap.get? b=some o->h'.get? b=some o)->Shared.TypeIs { s with heap:=h' } (.ref e) "StopIteration" -> Er (.ref e) { s with heap:=h' }) :
  wpAny (model prog w) B (do raiseNew (← newExc (.type "StopIteration") []):Sem β) Q Er s:=by
 refine Za ?_;simp only [newExc,newTuple];refine Za (ZA ?_ (by size_fits));refine Za (m:=firstArgMember _ _) (Za7 (a:=Value.none) (by first|rfl|(simp only [firstArgMember];rfl)) ?_);refine ZA ?_ (by size_fits);simp only [raiseNew];refine Za (wpAny_handled ?_);rw [hh];refine Za (Zc (wpAny_throw ?_));exact h _ _ (fun b o e=>Zb _ (Zb _ e)) ⟨_,Zd _ rfl,rfl⟩
theorem uY {Q:Option Value->Shared->Prop} (hI:s.heap.get? I=some (itO first i S es.size ep)) (ho:s.heap.get? S=some o) (so:SetO K o led es ep t)
  (h:wpAny (model prog w) A.in1 (if let .int slot _:=first then do
    match ← setNext S slot.toNat i ep with
    |some (x,next) =>
     setField (.ref I) 0 (rawInt next)
     setField (.ref I) 1 (rawInt ((i:Int)+1))
     ret x
    |none=>do setField (.ref I) 2 .none;raiseNew (← newExc (.type "StopIteration") [])
   else do
    let some places ← seqItems? first|unsupported "internal:set_iterator"
    match places[i]? with
    |some (.int place _) =>
     let x ← setNextDrawn S place.toNat ep
     setField (.ref I) 1 (rawInt ((i:Int)+1))
     ret x
    |some _=>unsupported "internal:set_iterator"
    |none=>do setField (.ref I) 0 (rawInt 0);setField (.ref I) 2 .none;raiseNew (← newExc (.type "StopIteration") []))
   (fun fin s'=>∃ r,fin=.done (.ret r)/\Q (some r) s') (fun e s'=>s'.TypeIs e "StopIteration" /\ Q none s') s):wpAny (model prog w) A (pyNext (.ref I)) Q E s:=by
 have hT:s.TypeIs (.ref I) "set_iterator" := ⟨_,hI,rfl⟩;have hd:o.data=.set es ep t:=by rw [so.obj]
 unfold pyNext;refine Za (ZaK (ZJ (name:=Str.ofString "__next__") hT SI.slot_next (ZC SI.slot_next hT SI.entry_next ?_ (SI.args_next _))));unfold Builtin.«set_iterator.__next__»;refine Za (m:=slotArgs "__next__" 0 _) (Zc ?_);refine Za (wpAny_fieldsOf hI rfl ?_);dsimp only;refine Za (wpAny_setEntries_of ho hd so.fit ?_);rw [if_neg (by simp)];simp only [ZU];refine ZN h (fun fin s' z=>?_) fun e s' z=>?_
 .obtain ⟨r,e,q⟩:=z;exact ⟨r,e,Zc q⟩
 .exact Za (ZaF (T := "StopIteration") (b:=true) z.1 Zcw (Zc z.2))
end
section
variable {α : Type} [DecidableEq α] {prog : Program} {w : World} {K : KdS prog w α} {A : Around} {I S T : Addr} {ep : Nat} {led : Bool} {o : Obj} {es : Array (Int × Value)} {t : SetTable}
abbrev Gs:Array GenState->Array GenState->Prop:=fun a b=>b=a
theorem xM {s:Shared} {f:Obj->Obj}:Moved [I] Gs s { s with heap:=s.heap.update I f } :=
 ⟨fun b o hb e=>(Zm _ _ fun z:I=b=>hb (by simp [z])).trans e,rfl,rfl,rfl,zzR _⟩
theorem Moved.more {s s':Shared} {h':Heap} (m:Moved [I] Gs s s') (k:∀ b o,s'.heap.get? b=some o->h'.get? b=some o):Moved [I] Gs s { s' with heap:=h' }:=m.then_heap (zzR _) fun b o _ e=>k b o e
theorem kJ {s:Shared} {E:Value->Shared->Prop} {Q:Bool->Shared->Prop} (h:Q (w.params.followText "set-order") s):wpAny (model prog w) A setsByText Q E s:=by
 unfold setsByText;exact Za (ZbH (Zc h))
def tupO (ord:List Nat):Obj:={ cls:=.type "tuple", data:=.seq (ord.map fun i=>rawInt (i:Nat)).toArray }
def gX (es:Array (Int×Value)) (j:Nat):Value:=(es[j]?.map (·.2)).getD .none
theorem uW {h:Heap} {first x:Value} {i n k:Nat} (hI:h.get? I=some (itO first i S n ep)):(h.update I (Obj.mapFields (·.setIfInBounds k x))).get? I=some { cls:=.type "set_iterator", data:=.fields (#[first,.int i 0,.ref S,.int n 0,.int ep 0].setIfInBounds k x) }:=by
 have:=Zr (Obj.mapFields (·.setIfInBounds k x)) hI rfl;exact this
theorem zaK {ord:List Nat} (hh:A.handled=none) (hIS:I≠S) (hIT:I≠T) (so:SetO K o led es ep t) (hord:∀ j∈ord,j<es.size) (hn:ord.length=es.size) :
  WalksS prog w A I [I,T,S] [I] Gs es.size (fun i v=>∃ j,ord[i]?=some j/\v=gX es j) (fun i s=>s.heap.get? I=some (itO (.ref T) i S es.size ep)/\s.heap.get? T=some (tupO ord)/\s.heap.get? S=some o) where
 sub:=fun b hb=>by simp only [Zx] at hb;simp [hb]
 grefl:=fun _=>rfl
 gtrans:=fun _ _ _ h1 h2=>h2.trans h1
 frame:=fun i s h' tk st _ k=>⟨k I (by simp) _ st.1,k T (by simp) _ st.2.1,k S (by simp) _ st.2.2⟩
 item:=fun i s Q E hi st q=>by
  obtain ⟨h1,h2,h3⟩:=st;have hd:o.data=.set es ep t:=by rw [so.obj]
  refine uY h1 h3 so ?_;dsimp only;refine Za (Z5 h2 rfl ?_);have hi':i<ord.length:=by omega
  have e:((ord.map fun i=>rawInt (i:Nat)).toArray)[i]?=some (rawInt (ord[i]:Nat)):=by
   rw [List.getElem?_toArray,Zj,Ze hi'];rfl
  dsimp only;rw [e];have hj:=hord _ (Zau hi');show wpAny _ _ (setNextDrawn S ((ord[i]:Nat):Int).toNat ep >>= _) _ _ s;unfold setNextDrawn;refine Za (Za (Zah h3 hd so.fit ?_));dsimp only;rw [if_neg (by simp),ZU,Z9 hj];refine Zc (Za (ZM h1 rfl (by simp) (Zc ⟨_,rfl,q _ _ ⟨_,Ze hi',?_⟩ ⟨?_,?_,?_⟩ xM⟩)))
  .unfold gX;rw [Z9 hj];rfl
  .rw [uW h1];rfl
  .exact (Zm _ _ hIT).trans h2
  .exact (Zm _ _ hIS).trans h3
 done:=fun s Q E st q=>by
  obtain ⟨h1,h2,h3⟩:=st;refine uY h1 h3 so ?_;dsimp only;refine Za (Z5 h2 rfl ?_)
  have e:((ord.map fun i=>rawInt (i:Nat)).toArray)[es.size]?=none:=by
   rw [List.getElem?_toArray,ZaL,zzM];omega
  dsimp only;rw [e];refine Za (ZM h1 rfl (by simp) ?_);refine Za (ZM (uW h1) rfl (by simp) ?_);refine rE (show A.in1.handled=none from hh) fun h' e k hT=>⟨hT,q _ ?_⟩;exact Moved.more (Zca (fun _ _ _ h1 h2=>h2.trans h1) xM xM) k
 self:=fun i s Q E st q=>sR st.1 q
theorem zbj {ord:List (Int×Value)} (hh:A.handled=none) (hIS:I≠S) (so:SetO K o led es ep t) (hb:w.params.followText "set-order" = true) (ho:(pickOrder (w.params.setOrder S ep) es).toList=ord) (hn:ord.length=es.size) :
  WalksS prog w A I [I,S] [I] Gs es.size (fun i v=>∃ e,ord[i]?=some e/\v=e.2) (fun i s=>s.heap.get? I=some (itO (.int 0 0) i S es.size ep)/\s.heap.get? S=some o) where
 sub:=fun b hb=>by simp only [Zx] at hb;simp [hb]
 grefl:=fun _=>rfl
 gtrans:=fun _ _ _ h1 h2=>h2.trans h1
 frame:=fun i s h' tk st _ k=>⟨k I (by simp) _ st.1,k S (by simp) _ st.2⟩
 item:=fun i s Q E hi st q=>by
  obtain ⟨h1,h3⟩:=st;have hd:o.data=.set es ep t:=by rw [so.obj]
  refine uY h1 h3 so ?_;dsimp only;have hi':i<ord.length:=by omega
  unfold setNext setWalk;refine Za (Za (Zah h3 hd so.fit (Za (kJ ?_))));rw [hb];dsimp only;rw [if_pos rfl,if_neg (by simp)];refine Za (Za (Zah h3 hd so.fit (Za (kJ ?_))));rw [hb];dsimp only;rw [if_pos rfl];refine Za (ZbH (Zc (Zc ?_)))
  have e:(pickOrder ((model prog w).w.params.setOrder S ep) es)[i]?=some ord[i]:=by
   rw [← ZQ];show (pickOrder (w.params.setOrder S ep) es).toList[i]?=_;rw [ho];exact Ze hi'
  rw [e];refine Za (ZM h1 rfl (by simp) ?_);refine Za (ZM (uW h1) rfl (by simp) (Zc ⟨_,rfl,q _ _ ⟨_,Ze hi',rfl⟩ ⟨?_,?_⟩ (Zca (fun _ _ _ h1 h2=>h2.trans h1) xM xM)⟩))
  .have:=Zr (Obj.mapFields (·.setIfInBounds 1 (rawInt ((i:Int)+1)))) (uW (k:=0) (x:=rawInt ((0:Int).toNat:Nat)) h1) rfl;exact this
  .exact (Zm _ _ hIS).trans ((Zm _ _ hIS).trans h3)
 done:=fun s Q E st q=>by
  obtain ⟨h1,h3⟩:=st;have hd:o.data=.set es ep t:=by rw [so.obj]
  refine uY h1 h3 so ?_;dsimp only;unfold setNext setWalk;refine Za (Za (Zah h3 hd so.fit (Za (kJ ?_))));rw [hb];dsimp only;rw [if_pos rfl,if_neg (by simp)];refine Za (Za (Zah h3 hd so.fit (Za (kJ ?_))));rw [hb];dsimp only;rw [if_pos rfl];refine Za (ZbH (Zc (Zc ?_)))
  have e:(pickOrder ((model prog w).w.params.setOrder S ep) es)[es.size]?=none:=by
   rw [← ZQ];show (pickOrder (w.params.setOrder S ep) es).toList[es.size]?=_;rw [ho,ZaL];omega
  rw [e];refine Za (ZM h1 rfl (by simp) ?_);refine rE (show A.in1.handled=none from hh) fun h' e k hT=>⟨hT,q _ ?_⟩;exact Moved.more xM k
 self:=fun i s Q E st q=>sR st.1 q
theorem zc8 (hh:A.handled=none) (hIS:I≠S) (so:SetO K o led es ep t) (hb:w.params.followText "set-order" = false) (hl:led=true) (h1:(!t.plain&&decide (es.size > 1))=false) :
  WalksS prog w A I [I,S] [I] Gs es.size (fun i v=>v=gX es i) (fun i s=>s.heap.get? I=some (itO (.int (tV t i:Nat) 0) i S es.size ep)/\s.heap.get? S=some o) where
 sub:=fun b hb=>by simp only [Zx] at hb;simp [hb]
 grefl:=fun _=>rfl
 gtrans:=fun _ _ _ h1 h2=>h2.trans h1
 frame:=fun i s h' tk st _ k=>⟨k I (by simp) _ st.1,k S (by simp) _ st.2⟩
 item:=fun i s Q E hi st q=>by
  obtain ⟨g1,g3⟩:=st;have hd:o.data=.set es ep t:=by rw [so.obj]
  have hps:t.place.size=es.size:=by
   have:=so.fit;simp only [SetTable.fits,Zp,beq_iff_eq] at this;exact this.1
  refine uY g1 g3 so ?_;dsimp only;unfold setNext;refine Za (Za (Zah g3 hd so.fit (Za (kJ ?_))));rw [hb];dsimp only;rw [if_neg zzN]
  split
  .rename_i hdr;have hdr:(!t.plain&&decide (es.size > 1))=true:=hdr;rw [h1] at hdr;cases hdr
  refine Za ?_;show wpAny (model prog w) _ (if (!t.led&&!es.isEmpty)=true then _ else pure ()) _ _ _;rw [so.led,hl,if_neg (by simp)];refine Zc (Zc ?_)
  have e0:SetTable.below t.place ((tV t i:Nat):Int).toNat=i:=by
   rw [ZU];exact mY so.td (by omega)
  rw [e0];have e1:es[i]?=some es[i]:=by simp
  have hi2:i<t.place.size:=by omega
  have e2:t.place[i]?=some t.place[i]:=by simp
  rw [e1,e2];refine Za (ZM g1 rfl (by simp) ?_);refine Za (ZM (uW g1) rfl (by simp) (Zc ⟨_,rfl,q _ _ ?_ ⟨?_,?_⟩ (Zca (fun _ _ _ h1 h2=>h2.trans h1) xM xM)⟩))
  .unfold gX;rw [e1];rfl
  .have:=Zr (Obj.mapFields (·.setIfInBounds 1 (rawInt ((i:Int)+1)))) (uW (k:=0) (x:=rawInt ((t.place[i]+1:Nat):Int)) g1) rfl;have e:tV t (i+1)=t.place[i]+1:=by simp [tV,hi2]
   rw [e];exact this
  .exact (Zm _ _ hIS).trans ((Zm _ _ hIS).trans g3)
 done:=fun s Q E st q=>by
  obtain ⟨g1,g3⟩:=st;have hd:o.data=.set es ep t:=by rw [so.obj]
  have hps:t.place.size=es.size:=by
   have:=so.fit;simp only [SetTable.fits,Zp,beq_iff_eq] at this;exact this.1
  refine uY g1 g3 so ?_;dsimp only;unfold setNext;refine Za (Za (Zah g3 hd so.fit (Za (kJ ?_))));rw [hb];dsimp only;rw [if_neg zzN]
  split
  .rename_i hdr;have hdr:(!t.plain&&decide (es.size > 1))=true:=hdr;rw [h1] at hdr;cases hdr
  refine Za ?_;show wpAny (model prog w) _ (if (!t.led&&!es.isEmpty)=true then _ else pure ()) _ _ _;rw [so.led,hl,if_neg (by simp)];refine Zc (Zc ?_)
  have e0:es[SetTable.below t.place ((tV t es.size:Nat):Int).toNat]?=none:=by
   rw [ZU,mY so.td (by omega)];simp
  rw [e0];refine Za (ZM g1 rfl (by simp) ?_);refine rE (show A.in1.handled=none from hh) fun h' e k hT=>⟨hT,q _ ?_⟩;exact Moved.more xM k
 self:=fun i s Q E st q=>sR st.1 q
end
section
variable {α : Type} [DecidableEq α] {prog : Program} {w : World} {K : KdS prog w α} {A : Around} {E : Value → Shared → Prop} {s : Shared} {S : Addr} {ep : Nat} {o : Obj} {es : Array (Int × Value)} {t : SetTable}
theorem zcO {src:Source} {n:Nat} {Q:Nat->Shared->Prop} (hn:n≠0) (h:∀ i d,i<n->Q i { s with drawn:=d }):wpAny (model prog w) A (choose src n) Q E s:=fun Γ p hΓ=>by
 unfold choose;rw [Sem.wp_choose];exact ⟨hn,h _ _ (Nat.mod_lt _ (Nat.pos_of_ne_zero hn))⟩
theorem uC {β:Type}:∀ {l:List β} {i:Nat} (h:i<l.length),(l[i]::l.eraseIdx i).Perm l
 |x::l,0,_=>.refl _
 |x::l,i+1,h=>by
  have h':i<l.length:=by simpa using h
  show (l[i]::x::l.eraseIdx i).Perm (x::l);exact (List.Perm.swap _ _ _).trans ((uC h').cons x)
theorem za8 {β:Type}:∀ (n:Nat) (xs:List β) (s:Shared) {Q:List β->Shared->Prop},n=xs.length->(∀ ys d,ys.Perm xs->Q ys { s with drawn:=d })->wpAny (model prog w) A (drawOrder n xs) Q E s:=by
 intro n
 induction n with
 |zero =>
  intro xs s Q e h
  cases xs with
  |nil=>exact Zc (h [] s.drawn (.refl _))
  |cons x xs=>cases e
 |succ n ih =>
  intro xs s Q e h
  cases xs with
  |nil=>cases e
  |cons x xs =>
   show wpAny _ _ (choose .order (x::xs).length >>= _) _ _ _;refine Za (zcO (by simp) fun i d hi=>?_);rw [Ze hi];refine Za (ih _ _ (by rw [List.length_eraseIdx_of_lt hi];simp at e ⊢;omega) fun ys d' hp=>?_);refine Zc (h _ d' ((hp.cons _).trans ?_));exact uC hi
theorem WalksS.imp {I:Addr} {fp wr:List Addr} {G:Array GenState->Array GenState->Prop} {n:Nat} {P P':Nat->Value->Prop} {St:Nat->Shared->Prop} (W:WalksS prog w A I fp wr G n P St) (k:∀ i v,i<n->P i v->P' i v):WalksS prog w A I fp wr G n P' St where
 sub:=W.sub
 grefl:=W.grefl
 gtrans:=W.gtrans
 frame:=W.frame
 item:=fun i s Q E hi st q=>W.item i s Q E hi st fun v s' hP=>q v s' (k i v hi hP)
 done:=W.done
 self:=W.self
theorem zbT {β:Type} (f:Nat->Nat) (xs:Array β):(pickOrder f xs).toList.Perm xs.toList:=by
 unfold pickOrder
 have key:∀ (n k:Nat) (l:List β) (out:Array β),n=l.length->(pickOrder.go f n k l out).toList.Perm (out.toList++l):=by
  intro n
  induction n with
  |zero =>
   intro k l out e
   cases l with
   |nil=>simp [pickOrder.go]
   |cons _ _=>cases e
  |succ n ih =>
   intro k l out e;have hl:f k % l.length<l.length:=Nat.mod_lt _ (by omega);unfold pickOrder.go;rw [Ze hl];refine (ih (k+1) _ _ (by rw [List.length_eraseIdx_of_lt hl];omega)).trans ?_;rw [Array.toList_push,List.append_assoc];exact List.Perm.append_left _ (uC hl)
 simpa using key xs.size 0 xs.toList #[] (by simp)
structure WalkOf {α:Type} [DecidableEq α] {prog:Program} {w:World} (K:KdS prog w α) (s s':Shared) (S I:Addr) (n:Nat) (ys:List α) (fp:List Addr) (St:Nat->Shared->Prop):Prop where
 wk:∀ A,A.handled=none->WalksS prog w A I fp [I] Gs n (fun i v=>∃ tk,v=K.vl (ys.getD i K.d) tk) St
 st:St 0 s'
 kp:∀ b o,s.heap.get? b=some o->s'.heap.get? b=some o
 old:∀ b∈fp,b=S\/s.heap.objs.size<=b
 new:s.heap.objs.size<=I
 rest:s'.gens=s.gens/\s'.os=s.os/\s'.toks=s.toks
theorem zez (so:SetO K o (wQ w) es ep t) {j:Nat} (hj:j<es.size):∃ tk,gX es j=K.vl ((es.toList.map (tx K)).getD j K.d) tk:=by
 have hm:es[j]∈es.toList:=by simp
 have hk:=zg1 so.el hm;obtain ⟨tk,e⟩:=K.sh hk;refine ⟨tk,?_⟩;unfold gX;rw [Z9 hj]
 have e2:(es.toList.map (tx K)).getD j K.d=tx K es[j]:=by
  rw [ZaE,Zj,ZQ,Z9 hj];rfl
 rw [e2];exact e
theorem zd1 {Q:Value->Shared->Prop} (ho:s.heap.get? S=some o) (so:SetO K o (wQ w) es ep t) (hsz:es.size<=1000)
  (h:∀ I s' ys fp St,ys.Perm (es.toList.map (tx K))->WalkOf K s s' S I es.size ys fp St->Q (.ref I) s'):wpAny (model prog w) A (pyIter (.ref S)) Q E s:=by
 have hd:o.data=.set es ep t:=by rw [so.obj]
 have hT:s.TypeIs (.ref S) "set" := ⟨o,ho,by rw [so.obj]⟩;have hlt:S<s.heap.objs.size:=Zf ho;refine ZbB hT PySem.F.slot_set_iter (ZC PySem.F.slot_set_iter hT SI.entry_siter ?_ (PySem.F.args_set_iter_1 _));unfold Builtin.«frozenset.__iter__»;refine Za (m:=Builtin.Frozenset.slot0 "__iter__" _) (Zc ?_);unfold Builtin.Frozenset.sizeOf;refine Za (Za (wpAny_setEntries_of ho hd so.fit (Zc ?_)));unfold setDrawn;refine Za (Za (Zah ho hd so.fit (Za (kJ (Zc ?_)))))
 cases hb:w.params.followText "set-order" with
 |true =>
  dsimp only;rw [if_neg (by simp)];refine Za (Zc ?_);refine Za (Zb9 ho hd so.fit (Za (ZA (Zc ⟨_,rfl, "set_iterator", _,⟨_,Zd _ rfl,rfl⟩,SI.slot_next.lookup,?_⟩))));have hp:=zbT (w.params.setOrder S ep) es;have hpl:((pickOrder (w.params.setOrder S ep) es).toList.map (tx K)).Perm (es.toList.map (tx K)):=hp.map (tx K);refine h _ _ ((pickOrder (w.params.setOrder S ep) es).toList.map (tx K)) [s.heap.objs.size,S] _ hpl ⟨fun B hB=>WalksS.imp (zbj hB (Z1 hlt) so hb rfl (by rw [hp.length_eq,Zn])) fun i v hi z=>?_,⟨Zd _ rfl,Zb _ ho⟩,fun b o e=>Zb _ e,fun b hb=>?_,zzR _,rfl,rfl,rfl⟩
  .obtain ⟨e,he,rfl⟩:=z;have hm:e∈es.toList:=hp.mem_iff.mp (Zv he);obtain ⟨tk,ev⟩:=K.sh (zg1 so.el hm);refine ⟨tk,?_⟩;rw [ZaE,Zj,he];exact ev
  .simp only [Zk,Zt,or_false] at hb;rcases hb with rfl|rfl
   .exact .inr (zzR _)
   .exact .inl rfl
 |false =>
  have hled:wQ w=true:=by unfold wQ;rw [hb];rfl
  dsimp only
  cases h1:(!t.plain&&decide (es.size > 1)) with
  |false =>
   rw [if_neg (by
    intro z;have z:(!false&&(!t.plain&&decide (es.size > 1)))=true:=z;rw [h1] at z;cases z)]
   refine Za (Zc ?_);refine Za (Zb9 ho hd so.fit (Za (ZA (Zc ⟨_,rfl, "set_iterator", _,⟨_,Zd _ rfl,rfl⟩,SI.slot_next.lookup,?_⟩))));refine h _ _ (es.toList.map (tx K)) [s.heap.objs.size,S] _ (.refl _) ⟨fun B hB=>WalksS.imp (zc8 hB (Z1 hlt) so hb hled h1) fun i v hi z=>?_,⟨Zd _ rfl,Zb _ ho⟩,fun b o e=>Zb _ e,fun b hb=>?_,zzR _,rfl,rfl,rfl⟩
   .rw [z];exact zez so hi
   .simp only [Zk,Zt,or_false] at hb;rcases hb with rfl|rfl
    .exact .inr (zzR _)
    .exact .inl rfl
  |true =>
   rw [if_pos (by
    show (!false&&(!t.plain&&decide (es.size > 1)))=true;rw [h1];rfl)]
   refine Za (za8 es.size (List.range es.size) s Zae.symm fun ord d hp=>?_);refine Za (Zcy ?_ (by rw [zzM,hp.length_eq,Zae];rw [ZD];omega));refine Za (Zb9 (Zb _ ho) hd so.fit (Za (ZA (Zc ⟨_,rfl, "set_iterator", _,⟨_,Zd _ rfl,rfl⟩,SI.slot_next.lookup,?_⟩))));have hlen:ord.length=es.size:=by rw [hp.length_eq,Zae]
   have hlt2:s.heap.objs.size<(s.heap.push (tupO ord)).objs.size:=by rw [ZF];exact Zbf _
   have hpm:(ord.map fun j=>(es.toList.map (tx K)).getD j K.d).Perm (es.toList.map (tx K)):=by
    have:=hp.map fun j=>(es.toList.map (tx K)).getD j K.d;have e:es.size=(es.toList.map (tx K)).length:=by simp
    rw [e,jB (α:=α) K.d (es.toList.map (tx K))] at this;exact this
   refine h _ _ (ord.map fun j=>(es.toList.map (tx K)).getD j K.d) [(s.heap.push (tupO ord)).objs.size,s.heap.objs.size,S] _ hpm ⟨fun B hB=>WalksS.imp (zaK (T:=s.heap.objs.size) hB (Z1 (ZbW hlt hlt2)) (Z1 hlt2) so (fun j hj=>Zax.mp (hp.mem_iff.mp hj)) hlen) fun i v hi z=>?_,⟨Zd _ rfl,Zb _ (Zd _ rfl),Zb _ (Zb _ ho)⟩,fun b o e=>Zb _ (Zb _ e),fun b hb=>?_,Za5 hlt2,rfl,rfl,rfl⟩
   .obtain ⟨j,hj,rfl⟩:=z;obtain ⟨tk,e⟩:=zez so (j:=j) (Zax.mp (hp.mem_iff.mp (Zv hj)))
    have e3:(ord.map fun j=>(es.toList.map (tx K)).getD j K.d).getD i K.d=(es.toList.map (tx K)).getD j K.d:=by
     rw [ZaE (l:=ord.map _),Zj,hj];rfl
    exact ⟨tk,by rw [e3];exact e⟩
   .simp only [Zk,Zt,or_false] at hb;rcases hb with rfl|rfl|rfl
    .exact .inr (Za5 hlt2)
    .exact .inr (zzR _)
    .exact .inl rfl
end
section
variable {α : Type} [DecidableEq α] {prog : Program} {w : World} {K : KdS prog w α} {A : Around} {E : Value → Shared → Prop} {s : Shared} {S : Addr} {ep : Nat} {o : Obj} {es : Array (Int × Value)} {t : SetTable}
theorem zbu:∀ {vs:List Value} {ys:List Str},Are (kStr prog w) vs ys->StrsAre vs ys
 | [],[],_=>.nil
 |v::vs,y::ys,h=>by
  obtain ⟨tk,ev⟩:=h.2 0 v rfl;have ev:v=Value.str y tk:=ev;rw [ev];exact .cons y tk (zbu ⟨by simpa using h.1,fun j u hu=>h.2 (j+1) u (by simpa using hu)⟩)
 | [],_::_,h=>by cases h.1
 |_::_,[],h=>by cases h.1
theorem zaB:∀ {vs:List Value} {ys:List Int},Are (kInt prog w) vs ys->IntsAre vs ys
 | [],[],_=>.nil
 |v::vs,y::ys,h=>by
  obtain ⟨tk,ev⟩:=h.2 0 v rfl;have ev:v=Value.int y tk:=ev;rw [ev];exact .cons y tk (zaB ⟨by simpa using h.1,fun j u hu=>h.2 (j+1) u (by simpa using hu)⟩)
 | [],_::_,h=>by cases h.1
 |_::_,[],h=>by cases h.1
structure Went (s s':Shared):Prop where
 kp:∀ b o,s.heap.get? b=some o->s'.heap.get? b=some o
 gens:s'.gens=s.gens
 os:s'.os=s.os
theorem zjh {β:Type} {M:Model} {B:Around} {c:Bool} {x y:Sem β} {Q:β->Shared->Prop} (hc:c=true) (h:wpAny M B x Q E s):wpAny M B (if c=true then x else y) Q E s:=by rw [if_pos hc];exact h
theorem zeb {B:Around} {Q:Bool->Shared->Prop} (hT:s.TypeIs (.ref S) "set") (h:Q false s):wpAny (model prog w) B (Builtin.List.listLengthHint (.ref S)) Q E s:=by
 unfold Builtin.List.listLengthHint;refine Za (Zat hT PySem.F.slot_set_len.lookup ?_);dsimp only;rw [show splitId "set.__len__" = some ("set", "__len__") by decide +kernel];dsimp only;refine Za (ZaF (T := "set") (b:=true) hT PySem.sub_set_self ?_);rw [if_neg (by simp)];refine zjh (by decide +kernel) ?_;exact Za (Za8 hT (Zc h))
theorem rS {Q:List Value->Shared->Prop} (hh:A.handled=none) (ho:s.heap.get? S=some o) (so:SetO K o (wQ w) es ep t) (hsz:es.size<=1000)
  (h:∀ s' vs ys,Are K vs ys->ys.Perm (es.toList.map (tx K))->Went s s'->Q vs s'):wpAny (model prog w) A (collect (.ref S)) Q E s:=by
 have hT:s.TypeIs (.ref S) "set" := ⟨o,ho,by rw [so.obj]⟩;have hlt:S<s.heap.objs.size:=Zf ho;unfold collect;refine Za (Zb1 (Zaa PySem.F.entry_proto_collect ?_));rw [ZS PySem.F.plain_proto_collect _];refine Za (m:=newList []) (ZA ?_);refine Zc ⟨Zal ZaZ _,Zaa PySem.F.entry_list_iadd ?_⟩;rw [ZS ZaZ _];show wpAny (model prog w) A.in1 (Builtin.List.listExtendWith (.ref s.heap.objs.size) (.ref S) (.ref s.heap.objs.size)) _ _ { s with heap:=s.heap.push { cls:=.type "list", data:=.seq ([]:List Value).toArray } };have hD:(s.heap.push { cls:=.type "list", data:=.seq ([]:List Value).toArray }).get? s.heap.objs.size=some { cls:=.type "list", data:=.seq ([]:List Value).toArray }:=Zd _ rfl;have ho1:(s.heap.push { cls:=.type "list", data:=.seq ([]:List Value).toArray }).get? S=some o:=Zb _ ho;have k0:∀ b u,s.heap.get? b=some u->(s.heap.push { cls:=.type "list", data:=.seq ([]:List Value).toArray }).get? b=some u:=fun b u e=>Zb _ e;have sz1:(s.heap.push { cls:=.type "list", data:=.seq ([]:List Value).toArray }).objs.size=s.heap.objs.size+1:=ZF ..;generalize s.heap.push { cls:=.type "list", data:=.seq ([]:List Value).toArray }=h1 at hD ho1 k0 sz1 ⊢;have hT1:Shared.TypeIs { s with heap:=h1 } (.ref S) "set" := ⟨o,ho1,by rw [so.obj]⟩;unfold Builtin.List.listExtendWith;refine Za (Za8 hT1 ?_)
 have ne:(Builtin.List.listSameRef (.ref s.heap.objs.size) (.ref S) || Value.type "set" == Value.type "list" || Value.type "set" == Value.type "tuple")=false:=by
  have:Builtin.List.listSameRef (.ref s.heap.objs.size) (.ref S)=false:=by simp [Builtin.List.listSameRef];exact Z1 hlt
  rw [this];decide
 rw [ne,if_neg zzN];refine Za (zd1 ho1 so hsz fun I s2 ys fp St hp W=>?_);have ho2:=W.kp _ _ ho1;have hD2:=W.kp _ _ hD;refine Za (ZK (zeb ⟨o,ho2,by rw [so.obj]⟩ ?_))
 split
 .refine Za (ZaU ?_);refine Za (m:=Builtin.List.listTouch (.ref s.heap.objs.size)) ?_;show wpAny (model prog w) A.in1 (updateSeq s.heap.objs.size (·.push .none) >>= fun _=>updateSeq s.heap.objs.size (·.pop)) _ _ _;refine Za (ZaB hD2 rfl ?_);have hD3:=Zr (Obj.mapSeq (·.push Value.none)) hD2 rfl;refine ZaB hD3 rfl ?_;have hD4:=Zr (Obj.mapSeq (·.pop)) hD3 rfl
  have nofp:s.heap.objs.size∉fp:=fun z=>by
   rcases W.old _ z with e|e
   .exact absurd e (Z1 hlt)
   .rw [sz1] at e;exact absurd e (Nat.not_succ_le_self _)
  have oth:∀ b u,b≠s.heap.objs.size->s2.heap.get? b=some u->((s2.heap.update s.heap.objs.size (Obj.mapSeq (·.push Value.none))).update s.heap.objs.size (Obj.mapSeq (·.pop))).get? b=some u :=
   fun b u hb e=>(Zm _ _ (Ne.symm hb)).trans ((Zm _ _ (Ne.symm hb)).trans e)
  have Wk:=W.wk A.in1 hh;refine Zc ⟨Zal Zbc _,ZbK Wk (by rw [ZD];omega) s.heap.objs.size nofp _ es.size 0 _ _ _ rfl (ZX _) (Wk.frame 0 s2 _ s2.toks W.st (zzR _) fun b hb u e=>oth b u (fun z=>nofp (z▸hb)) e) hD4 (ItemsOf.nil _) fun s' acc c hm hS' hacc=>?_⟩;show wpAny (model prog w) A (load s.heap.objs.size >>= _) _ _ s';refine Za (Zct hS' (Zc ?_));refine h s' acc.toList ys ⟨?_,fun j v hj=>hacc.2 j v (by rw [← ZQ];exact hj)⟩ hp ⟨fun b u e=>?_,hm.gens.trans W.rest.1,hm.os.trans W.rest.2.1⟩
  .rw [Zn,hacc.1,hp.length_eq,zzM,Zn]
  .have hb:b<s.heap.objs.size:=Zf e;refine hm.heap b u ?_ (oth b u (Zl hb) (W.kp _ _ (k0 b u e)));simp only [Zk,Zt,or_false,not_or];refine ⟨Zl hb,Zl (Zi hb (Zy (Zbj _) (Zy (Zcp sz1.symm) W.new)))⟩
 .rename_i hn;exact (hn (by decide +kernel)).elim
end
section
variable {prog : Program} {w : World} {A : Around} {E : Value → Shared → Prop} {s : Shared}
theorem Went.trans {s1 s2:Shared} (a:Went s s1) (b:Went s1 s2):Went s s2:=⟨fun x o e=>b.kp x o (a.kp x o e),b.gens.trans a.gens,b.os.trans a.os⟩
theorem zbz {D:Addr} {vs:List Value} {ss:List Str} {n:Nat} {P:PySem.Fin->Shared->Prop} (ho:s.heap.get? D=some (seqObj "list" vs.toArray n)) (hS:StrsAre vs ss) (h64:vs.length<64)
  (h:∀ h' vs' ss' m,But D s.heap h'->h'.get? D=some (seqObj "list" vs'.toArray m)->StrsAre vs' ss'->ss'.Perm ss->sortedS ss'=true->P (.done (.ret .none)) { s with heap:=h' }):wpAny (model prog w) A (Builtin.«list.sort» ⟨[.ref D],[]⟩) P E s:=by
 refine list_sort_treeK strKind_oneLt ho hS.keysOf (fun v₁ v₂ rest e=>keyKind_strs (by rw [← e];exact hS)) h64 fun st' hp hs=>?_;obtain ⟨ss',h1,h2,h3⟩:=sorted_out_str hS hp hs;obtain ⟨m,hm⟩:=sortedHeap_at (out:=(arrOf st').map (·.2)) ho;exact h _ _ ss' m (fun b o hb e=>(sortedHeap_old hb (Zf e)).trans e) hm h1 h2 h3
theorem pQ {v:Value} {ss:List Str} {Q:Value->Shared->Prop} (h64:ss.length<64)
  (hc:∀ (Q':List Value->Shared->Prop) (E':Value->Shared->Prop),(∀ s' vs ys,StrsAre vs ys->ys.Perm ss->Went s s'->Q' vs s')->wpAny (model prog w) A.in1 (collect v) Q' E' s)
  (h:∀ s1 s' vs' ss' m,Went s s1->Went s1 s'->s'.heap.get? s1.heap.objs.size=some (seqObj "list" vs'.toArray m)->StrsAre vs' ss'->ss'.Perm ss->sortedS ss'=true->Q (.ref s1.heap.objs.size) s'):wpAny (model prog w) A (call (.builtin "sorted") [v]) Q E s:=by
 refine Calls.call_function_entry kind_sorted plain_sorted entry_sorted (args_sorted1 _) ?_;unfold Builtin.«sorted»;refine Za (m:=checkCount "sorted" 1 1 _) (Zc (Za (hc _ _ fun s1 vs ys hv hp wt=>?_)));have hl:vs.length<64:=by rw [vR hv,hp.length_eq];exact h64
 refine Za (wpAny_newList ?_ (by rw [ZD];omega));have hL:(s1.heap.push (seqObj "list" vs.toArray 0)).get? s1.heap.objs.size=some (seqObj "list" vs.toArray 0):=Zd _ rfl;show wpAny (model prog w) _ _ _ _ { s1 with heap:=s1.heap.push (seqObj "list" vs.toArray 0) };refine Za (ZK (ZC slot_list_sort ⟨_,hL,rfl⟩ entry_list_sort (zbz hL hv hl fun h' vs' ss' m kb hm hv' hp' hs'=>⟨_,rfl,?_⟩) (args_list_sort _)));refine Zc ⟨_,rfl,h s1 { s1 with heap:=h' } vs' ss' m wt ⟨fun b o e=>kb b o (Zl (Zf e)) (Zb _ e),rfl,rfl⟩ hm hv' (hp'.trans hp) hs'⟩
end
section
variable {X : Cx}
theorem Went.inv {pins:List (Addr×Obj)} {σ:L2.St} {H:Hp} {s s':Shared} (I:Inv X pins σ H s) (wt:Went s s'):Inv X pins σ H s':=by
 have J:=I.call (g':=s.gens) (d':=s'.drawn) (t':=s'.toks) (ch:=[]) (Un.kept wt.kp) (I.hok.kept wt.kp) I.bare fun _ z=>nomatch z;obtain ⟨h',g',d',t',o'⟩:=s';obtain rfl:g'=s.gens:=wt.gens;obtain rfl:o'=s.os:=wt.os;exact J
theorem gP {K:zA} {H:Hp}:∀ (ss:List Str),zF K H (ss.map .str) (ss.map .str)
 | []=>rfl
 |x::ss=>⟨.str x,_,rfl,rfl,gP ss⟩
theorem pS:∀ {vs:List Value} {ss:List Str},StrsAre vs ss->zE (ss.map V.str) vs
 |_,_,.nil=>.nil
 |_,_,.cons x t h=>.cons ⟨t,rfl⟩ (pS h)
theorem sZ {K:zA} {H:Hp}:∀ {ss:List Str} {vs:List V} {us:List Value},zF K H (ss.map .str) vs->zE vs us->StrsAre us ss
 | [],vs,us,r,v=>by cases (show vs=[] from r);cases v;exact .nil
 |x::ss,vs,us,r,v=>by
  obtain ⟨y,tl,rfl,ry,rt⟩:=r;cases (show y=.str x from ry)
  cases v with
  |cons a c =>
   obtain ⟨tk,rfl⟩:=a;exact .cons x tk (sZ rt c)
theorem zat {pins:List (Addr×Obj)} {σ:L2.St} {H:Hp} {s s1 s':Shared} {G:Hw} {vs:List Value} {ss:List Str} {m:Nat} {Q:VK} (I:Inv X pins σ H s) (ab:xP X.K H G) (w1:Went s s1) (w2:Went s1 s') (hg:s'.heap.get? s1.heap.objs.size=some (seqObj "list" vs.toArray m)) (hv:StrsAre vs ss) (hl:ss.length<64)
  (h:∀ r,G r=none->jK X.K H Q (.ref r) (put G r (.lst (ss.map .str)))):EP X pins σ Q (.ref s1.heap.objs.size) s':=by
 have I1:=w1.inv I;have I2:=(w1.trans w2).inv I;have hn:H s1.heap.objs.size=none:=I1.hok.fresh (zzR _);refine ⟨.ref s1.heap.objs.size,_,I2.adopt (o:=.lst (ss.map .str)) (I1.off (zzR _)) hn ⟨?_,vs,m,pS hv,hg⟩,rfl,jM ab (gP ss) h _ hn⟩;rw [zzM,ZD];omega
def bB:RS:=fun ws G Q=>match ws with
 | [x]=>∃ ts:List Str,xO G x=some (ts.map .str)/\ts.length<64/\∀ ts':List Str,ts'.Perm ts->sortedS ts'=true->∀ r,G r=none->Q (.ref r) (put G r (.lst (ts'.map .str)))
 |_=>False
theorem zaO:xE bB:=by
 intro ws G Q Q' k h;unfold bB at h ⊢
 split at h
 .obtain ⟨ts,e,l,h⟩:=h;exact ⟨ts,e,l,fun ts' a b r hr=>k _ _ (h ts' a b r hr)⟩
 .exact h.elim
theorem zdm:xD X (.builtin "sorted") (qQ X.K bB):=by
 intro pins s σ H xs us Q I r h;obtain ⟨ws,G,rs,ab,h⟩:=h;unfold bB at h
 split at h
 .rename_i x;obtain ⟨v,rfl,rv⟩:=jN rs;obtain ⟨ts,ex,hl,h⟩:=h;obtain ⟨a,vs,rfl,sq,rr⟩:=qF ab rv ex;obtain ⟨u,rfl,ru⟩:=jT r;cases (show u=Value.ref a from ru);obtain ⟨its,vv,ss,hz⟩:=I.sqB sq
  obtain ⟨T',o,n,hT,ho,hc,hd⟩:∃ (T':String) (o:Obj) (n:Nat),(T' = "list" \/ T' = "tuple")/\s.heap.get? a=some o/\o.cls=.type T'/\o.data=.seq its.toArray n:=by
   cases hb:bOf x<;>rw [hb] at ss
   .obtain ⟨o,ho,hc,n,hd⟩:=ss;exact ⟨"list", o,n,.inl rfl,ho,hc,hd⟩
   .obtain ⟨o,ho,hc,n,hd⟩:=ss;exact ⟨"tuple", o,n,.inr rfl,ho,hc,hd⟩
  have hS:=sZ rr vv;have hl2:its.length=ts.length:=vR hS;refine pQ hl (fun Q' E' q=>wpAny_collect_seq a hT ho hc hd (fun h' k=>q { s with heap:=h' } its ts hS (.refl _) ⟨k,rfl,rfl⟩) (by rw [zzS,ZD];omega)) fun s1 s' vs' ss' m w1 w2 hg hv hp hs=>?_;exact zat I ab w1 w2 hg hv (by rw [hp.length_eq];exact hl) (h ss' hp hs)
 .exact h.elim
def ssM:Scope->Expr->Option (List Expr):=fun sc e=>match e with
 | .Call (.Name o _) [.Call (.Name x _) [a] [] _] [] _=>if (o==("sorted" : Str)&&x==("set" : Str)&&jQ sc o&&jQ sc x)=true then some [a] else none
 |_=>none
def ssS:RS:=fun ws G Q=>match ws with
 | [x]=>∃ ts:List Str,xO G x=some (ts.map .str)/\ts.length<64/\∀ ts':List Str,ts'.Nodup->(∀ x,x∈ts'↔x∈ts)->sortedS ts'=true->∀ r,G r=none->Q (.ref r) (put G r (.lst (ts'.map .str)))
 |_=>False
theorem zdi:xE ssS:=by
 intro ws G Q Q' k h;unfold ssS at h ⊢
 split at h
 .obtain ⟨ts,e,l,h⟩:=h;exact ⟨ts,e,l,fun ts' a b c r hr=>k _ _ (h ts' a b c r hr)⟩
 .exact h.elim
theorem zfE {sc:Scope} {e:Expr} {xs:List Expr} (h:ssM sc e=some xs):∃ qo q pos pos' a,xs=[a]/\e=.Call (.Name "sorted" qo) [.Call (.Name "set" q) [a] [] pos] [] pos'/\jQ sc "sorted" = true/\jQ sc "set" = true:=by
 unfold ssM at h
 split at h
 .rename_i o qo x q a pos pos'
  split at h
  .rename_i hb;obtain ⟨⟨⟨h1,h2⟩,h3⟩,h4⟩:=bd4 hb;cases eq_of_beq h1;cases eq_of_beq h2;cases h;exact ⟨qo,q,pos,pos',a,rfl,rfl,h3,h4⟩
  .cases h
 .cases h
theorem ss_ok {pins:List (Addr×Obj)} {σ:L2.St} {H:Hp} {s:Shared} {vs:List V} {us:List Value} {Q:VK} (hh:X.A.handled=none) (I:Inv X pins σ H s) (r:zE vs us) (h:qQ X.K ssS vs H Q) :
  wpAny (model X.prog X.w) X.A (call (.type "set") us) (fun v s1=>wpAny (model X.prog X.w) X.A (call (.builtin "sorted") [v]) (EP X pins σ Q) X.xe s1) X.xe s:=by
 obtain ⟨ws,G,rs,ab,h⟩:=h;unfold ssS at h
 split at h
 .rename_i x;obtain ⟨v,rfl,rv⟩:=jN rs;obtain ⟨u,rfl,ru⟩:=jT r;obtain ⟨ts,e,hl,h⟩:=h;obtain ⟨p,vs2,rfl,sq,rr⟩:=qF ab rv e;cases (show u=Value.ref p from ru);obtain ⟨its,vv,pl,hz⟩:=I.sqB sq;have hS:=sZ rr vv;have hl2:its.length=ts.length:=vR hS;refine zal (K:=kStr X.prog X.w) (items:=its.toArray) (ss:=ts) hh pl (by simpa using zdg hS) (by show its.toArray.size+1<4096;rw [zzS];omega) fun h1 tk hT hk=>?_;obtain ⟨o,es,ep,t,ho,so,hsz,hm⟩:=hT;have w1:Went s { s with heap:=h1,toks:=tk }:=⟨fun b o e=>hk b o (Zf e) e,rfl,rfl⟩;have hes:(es.toList.map (tx (kStr X.prog X.w))).length<64:=by rw [zzM,Zn];omega
  refine pQ (ss:=es.toList.map (tx (kStr X.prog X.w))) hes (fun Q' E' q=>rS (show X.A.in1.handled=none from hh) ho so (by omega) fun s' vs ys a b c=>q s' vs ys (zbu a) b c) fun s1 s' vs' ss' m g1 g2 hg hv hp hs=>?_;exact zat I ab (w1.trans g1) g2 hg hv (by rw [hp.length_eq];exact hes) (h ss' (hp.nodup_iff.mpr so.nd) (fun x=>(hp.mem_iff).trans (hm x)) hs)
 .exact h.elim
theorem zhI {q:Pr} {A:Around} {sp:RS} (mono:xE sp) (ok:∀ {X:Cx} {pins:List (Addr×Obj)} {σ:L2.St} {H:Hp} {s:Shared} {vs:List V} {us:List Value} {Q:VK},X.A.handled=none->Inv X pins σ H s->zE vs us->qQ X.K sp vs H Q ->
  wpAny (model X.prog X.w) X.A (call (.type "set") us) (fun v s1=>wpAny (model X.prog X.w) X.A (call (.builtin "sorted") [v]) (EP X pins σ Q) X.xe s1) X.xe s) (h1:q.mg "sorted" = none) (h2:q.mg "set" = none):SxE (q.at A) ⟨ssM,sp⟩:=by
 intro X fits e xs es he each hn pa;obtain ⟨qo,qq,pos,pos',a,rfl,rfl,g1,g2⟩:=zfE he;obtain ⟨gl1,d1,n1⟩:=kD (X:=X) rfl g1;obtain ⟨gl2,d2,n2⟩:=kD (X:=X) rfl g2;have m1:X.mg "sorted" = none:=by rw [fits.mg];exact h1
 have m2:X.mg "set" = none:=by rw [fits.mg];exact h2
 refine ⟨fun pins s σ H Q I h=>?_,fun _=>rfl,fun _ _ _ z=>nomatch z⟩;obtain ⟨s1,s2⟩:=xV (env:=X.env) (pos:=pos) hn;have h':=tN (uV each) mono h;refine ZH (qW (u:=.builtin "sorted") I gl1 m1 (by decide +kernel) ?_ n1 d1);refine PyProof.Rows.callWith_builtin1 (e:=.Call (.Name "set" qq) [a] [] pos) (rest:=[]) ?_ rfl rfl;show wpAny _ _ (spliced ((false,eval (.Call (.Name "set" qq) [a] [] pos) X.env)::backTo pos' (starEach [] X.env))) _ _ s;refine Zbn (ZH (qW (u:=.type "set") I gl2 m2 (by decide +kernel) (ZP (yG (pa pos pins s σ H _ I h') fun us s1 ⟨vs,H1,I1,r1,q1⟩=>?_) s1 s2) n2 d2));exact yG (ok (I1.ok.hd fits.calm) I1 r1 q1) fun v s2 z=>Zby z
end
end L3
namespace L3
open PySem PySem.Spec PyProof.Rows L2 HT
section
variable {prog : Program} {w : World} {A : Around} {E : Value → Shared → Prop} {s : Shared}
end
theorem zE.reverse {vs:List V} {us:List Value} (h:zE vs us):zE vs.reverse us.reverse:=by
 induction h with
 |nil=>exact .nil
 |cons a _ ih=>rw [ZaR,ZaR];exact ih.append (.cons a .nil)
end L3
namespace L3
open PySem PySem.Spec PyProof.Rows L2 PySem.SeqAt
section
variable {prog : Program} {w : World} {A : Around} {E : Value → Shared → Prop} {s : Shared}
theorem zbA {D:Addr} {vs:List Value} {ns:List Int} {n:Nat} {P:PySem.Fin->Shared->Prop} (ho:s.heap.get? D=some (seqObj "list" vs.toArray n)) (hS:IntsAre vs ns) (h64:vs.length<64)
  (h:∀ h' vs' ns' m,But D s.heap h'->h'.get? D=some (seqObj "list" vs'.toArray m)->IntsAre vs' ns'->ns'.Perm ns->ns'.Pairwise (·<=·)->P (.done (.ret .none)) { s with heap:=h' }):wpAny (model prog w) A (Builtin.«list.sort» ⟨[.ref D],[]⟩) P E s:=by
 refine list_sort_tree ho hS h64 fun out ns' h1 h2 h3=>?_;obtain ⟨m,hm⟩:=sortedHeap_at (out:=out) ho;exact h _ out.toList ns' m (fun b o hb e=>(sortedHeap_old hb (Zf e)).trans e) hm h1 h2 h3
theorem vP {v:Value} {ns:List Int} {Q:Value->Shared->Prop} (h64:ns.length<64)
  (hc:∀ (Q':List Value->Shared->Prop) (E':Value->Shared->Prop),(∀ s' vs ys,IntsAre vs ys->ys.Perm ns->Went s s'->Q' vs s')->wpAny (model prog w) A.in1 (collect v) Q' E' s)
  (h:∀ s1 s' vs' ns' m,Went s s1->Went s1 s'->s'.heap.get? s1.heap.objs.size=some (seqObj "list" vs'.toArray m)->IntsAre vs' ns'->ns'.Perm ns->ns'.Pairwise (·<=·)->Q (.ref s1.heap.objs.size) s'):wpAny (model prog w) A (call (.builtin "sorted") [v]) Q E s:=by
 refine Calls.call_function_entry kind_sorted plain_sorted entry_sorted (args_sorted1 _) ?_;unfold Builtin.«sorted»;refine Za (m:=checkCount "sorted" 1 1 _) (Zc (Za (hc _ _ fun s1 vs ys hv hp wt=>?_)));have hl:vs.length<64:=by rw [vG hv,hp.length_eq];exact h64
 refine Za (wpAny_newList ?_ (by rw [ZD];omega));have hL:(s1.heap.push (seqObj "list" vs.toArray 0)).get? s1.heap.objs.size=some (seqObj "list" vs.toArray 0):=Zd _ rfl;show wpAny (model prog w) _ _ _ _ { s1 with heap:=s1.heap.push (seqObj "list" vs.toArray 0) };refine Za (ZK (ZC slot_list_sort ⟨_,hL,rfl⟩ entry_list_sort (zbA hL hv hl fun h' vs' ns' m kb hm hv' hp' hs'=>⟨_,rfl,?_⟩) (args_list_sort _)));exact Zc ⟨_,rfl,h s1 { s1 with heap:=h' } vs' ns' m wt ⟨fun b o e=>kb b o (Zl (Zf e)) (Zb _ e),rfl,rfl⟩ hm hv' (hp'.trans hp) hs'⟩
end
section
variable {X : Cx}
theorem fT {K:zA} {H:Hp}:∀ (ns:List Int),zF K H (ns.map .int) (ns.map .int)
 | []=>rfl
 |x::ns=>⟨.int x,_,rfl,rfl,fT ns⟩
theorem nK:∀ {vs:List Value} {ns:List Int},IntsAre vs ns->zE (ns.map V.int) vs
 |_,_,.nil=>.nil
 |_,_,.cons x t h=>.cons ⟨t,rfl⟩ (nK h)
theorem jG {K:zA} {H:Hp}:∀ {ns:List Int} {vs:List V} {us:List Value},zF K H (ns.map .int) vs->zE vs us->IntsAre us ns
 | [],vs,us,r,v=>by cases (show vs=[] from r);cases v;exact .nil
 |x::ns,vs,us,r,v=>by
  obtain ⟨y,tl,rfl,ry,rt⟩:=r;cases (show y=.int x from ry)
  cases v with
  |cons a c =>
   obtain ⟨tk,rfl⟩:=a;exact .cons x tk (jG rt c)
theorem pF {pins:List (Addr×Obj)} {σ:L2.St} {H:Hp} {s s1 s':Shared} {G:Hw} {vs:List Value} {ns:List Int} {m:Nat} {Q:VK} (I:Inv X pins σ H s) (ab:xP X.K H G) (w1:Went s s1) (w2:Went s1 s') (hg:s'.heap.get? s1.heap.objs.size=some (seqObj "list" vs.toArray m)) (hv:IntsAre vs ns) (hl:ns.length<64)
  (h:∀ r,G r=none->jK X.K H Q (.ref r) (put G r (.lst (ns.map .int)))):EP X pins σ Q (.ref s1.heap.objs.size) s':=by
 have I1:=w1.inv I;have I2:=(w1.trans w2).inv I;have hn:H s1.heap.objs.size=none:=I1.hok.fresh (zzR _);refine ⟨.ref s1.heap.objs.size,_,I2.adopt (o:=.lst (ns.map .int)) (I1.off (zzR _)) hn ⟨?_,vs,m,nK hv,hg⟩,rfl,jM ab (fT ns) h _ hn⟩;rw [zzM,ZD];omega
def zjr (G:Hw) (x:W) (ns:List Int):Prop:=xO G x=some (ns.map .int)\/∃ p kvs,x=.ref p/\jY G p=some kvs/\kvs.map (·.1)=ns.map Sum.inl
def bA:RS:=fun ws G Q=>match ws with
 | [x]=>∃ ns:List Int,zjr G x ns/\ns.length<64/\∀ ns':List Int,ns'.Perm ns->ns'.Pairwise (·<=·)->∀ r,G r=none->Q (.ref r) (put G r (.lst (ns'.map .int)))
 |_=>False
theorem zaP:xE bA:=by
 intro ws G Q Q' k h;unfold bA at h ⊢
 split at h
 .obtain ⟨ts,e,l,h⟩:=h;exact ⟨ts,e,l,fun ts' a b r hr=>k _ _ (h ts' a b r hr)⟩
 .exact h.elim
theorem yZ.keys {K:zA} {H:Hp} {κ:Type}:∀ {l:List (κ×W)} {l':List (κ×V)},yZ K H l l'->l'.map (·.1)=l.map (·.1)
 | [],_,h=>by rw [show _=[] from h];rfl
 |_::_,_,⟨v,t,e,h,r⟩=>by rw [e,zzU,zzU,yZ.keys r]
theorem KV.keys {κ:Type}:∀ {l:List (κ×V)} {vs:List (κ×Value)},KV l vs->vs.map (·.1)=l.map (·.1)
 |_,_,.nil=>rfl
 |_,_,.cons r t=>by rw [zzU,zzU,KV.keys t,r.1]
theorem zco:∀ (ns:List Int) (vs:List Value),vs.length=ns.length->(∀ (i:Nat) (v:Value),vs[i]?=some v->∃ n,ns[i]?=some n/\rY (.inl n) v=true)->IntsAre vs ns
 | [],[],_,_=>.nil
 |n::ns,v::vs,e,h=>by
  obtain ⟨n',e1,e2⟩:=h 0 v rfl;cases (show n=n' by simpa using e1);rcases yF e2 with ⟨i,t,e3,e4⟩|⟨x,t,e3,e4⟩
  .cases e3;rw [e4];exact .cons n t (zco ns vs (by simpa using e) fun i v' hv=>by simpa using h (i+1) v' (by simpa using hv))
  .cases e3
theorem zdn (hc:X.calm=true):xD X (.builtin "sorted") (qQ X.K bA):=by
 intro pins s σ H xs us Q I r h;obtain ⟨ws,G,rs,ab,h⟩:=h;unfold bA at h
 split at h
 .rename_i x;obtain ⟨v,rfl,rv⟩:=jN rs;obtain ⟨u,rfl,ru⟩:=jT r;obtain ⟨ns,ex,hl,h⟩:=h;rcases ex with ex|⟨p,kvs,rfl,ex,ek⟩
  .obtain ⟨a,vs,rfl,sq,rr⟩:=qF ab rv ex;cases (show u=Value.ref a from ru);obtain ⟨its,vv,ss,hz⟩:=I.sqB sq
   obtain ⟨T',o,n,hT,ho,hc,hd⟩:∃ (T':String) (o:Obj) (n:Nat),(T' = "list" \/ T' = "tuple")/\s.heap.get? a=some o/\o.cls=.type T'/\o.data=.seq its.toArray n:=by
    cases hb:bOf x<;>rw [hb] at ss
    .obtain ⟨o,ho,hc,n,hd⟩:=ss;exact ⟨"list", o,n,.inl rfl,ho,hc,hd⟩
    .obtain ⟨o,ho,hc,n,hd⟩:=ss;exact ⟨"tuple", o,n,.inr rfl,ho,hc,hd⟩
   have hS:=jG rr vv;have hl2:its.length=ns.length:=vG hS;refine vP hl (fun Q' E' q=>wpAny_collect_seq a hT ho hc hd (fun h' k=>q { s with heap:=h' } its ns hS (.refl _) ⟨k,rfl,rfl⟩) (by rw [zzS,ZD];omega)) fun s1 s' vs' ss' m w1 w2 hg hv hp hs=>?_;exact pF I ab w1 w2 hg hv (by rw [hp.length_eq];exact hl) (h ss' hp hs)
  .cases (show v=.ref p from rv);cases (show u=Value.ref p from ru);obtain ⟨l,hr,rk⟩:=ab.rdD ex;obtain ⟨_,hsys,vs,kv,dd⟩:=rV I.hok hr;obtain ⟨ep,da⟩:=dd.dictAt;have hk:vs.map (·.1)=ns.map Sum.inl:=by rw [KV.keys kv,yZ.keys rk,ek]
   have hlen:vs.length=ns.length:=by simpa using congrArg List.length hk
   refine vP hl (fun Q' E' q=>PySem.W.kdu_collect (PySem.W.kdl_dict (ep:=ep) hsys) (show X.A.in1.handled=none from I.ok.hd hc) da (by rw [ZD];omega) fun h' tk acc k ha=>?_) fun s1 s' vs' ss' m w1 w2 hg hv hp hs=>?_
   .refine q { s with heap:=h',toks:=tk } acc.toList ns (zco ns acc.toList (by rw [Zn,ha.1,hlen]) fun i v hv=>?_) (.refl _) ⟨k,rfl,rfl⟩;obtain ⟨kk,xx,e1,e2⟩:=ha.2 i v (by rw [← ZQ];exact hv);have e3:(vs.map (·.1))[i]?=some kk:=by rw [Zj,e1];rfl
    rw [hk,Zj] at e3
    cases hn:ns[i]? with
    |none=>rw [hn] at e3;cases e3
    |some n =>
     rw [hn] at e3;cases e3;exact ⟨n,rfl,e2⟩
   .exact pF I ab w1 w2 hg hv (by rw [hp.length_eq];exact hl) (h ss' hp hs)
 .exact h.elim
def zfF:RS:=fun ws G Q=>bA ws G Q\/bB ws G Q
theorem pP:xE zfF:=fun ws G Q Q' k h=>h.imp (zaP ws G Q Q' k) (zaO ws G Q Q' k)
theorem zdo (hc:X.calm=true):xD X (.builtin "sorted") (qQ X.K zfF):=by
 intro pins s σ H xs us Q I r h;obtain ⟨ws,G,rs,ab,h⟩:=h;rcases h with h|h
 .exact zdn hc pins s σ H xs us Q I r ⟨ws,G,rs,ab,h⟩
 .exact zdm pins s σ H xs us Q I r ⟨ws,G,rs,ab,h⟩
end
abbrev zcF:Fn3:=⟨"sorted", fun ws G Q _=>zfF ws G Q⟩
theorem zem {q:Pr} {A:Around} (hm:q.mg "sorted" = none):qS (q.at A) zcF:=⟨sH (id := "sorted") hm (by decide +kernel) (fun X f=>zdo f.calm) pP (fun _ _ h=>h.elim id id),fun ws G Q Q' _ k h=>pP ws G Q Q' k h⟩
section
variable {X : Cx}
def ssI:RS:=fun ws G Q=>match ws with
 | [x]=>∃ ts:List Int,xO G x=some (ts.map .int)/\ts.length<64/\∀ ts':List Int,ts'.Nodup->(∀ x,x∈ts'↔x∈ts)->ts'.Pairwise (·<=·)->∀ r,G r=none->Q (.ref r) (put G r (.lst (ts'.map .int)))
 |_=>False
theorem zdj:xE ssI:=by
 intro ws G Q Q' k h;unfold ssI at h ⊢
 split at h
 .obtain ⟨ts,e,l,h⟩:=h;exact ⟨ts,e,l,fun ts' a b c r hr=>k _ _ (h ts' a b c r hr)⟩
 .exact h.elim
theorem zhL {pins:List (Addr×Obj)} {σ:L2.St} {H:Hp} {s:Shared} {vs:List V} {us:List Value} {Q:VK} (hh:X.A.handled=none) (I:Inv X pins σ H s) (r:zE vs us) (h:qQ X.K ssI vs H Q) :
  wpAny (model X.prog X.w) X.A (call (.type "set") us) (fun v s1=>wpAny (model X.prog X.w) X.A (call (.builtin "sorted") [v]) (EP X pins σ Q) X.xe s1) X.xe s:=by
 obtain ⟨ws,G,rs,ab,h⟩:=h;unfold ssI at h
 split at h
 .rename_i x;obtain ⟨v,rfl,rv⟩:=jN rs;obtain ⟨u,rfl,ru⟩:=jT r;obtain ⟨ts,e,hl,h⟩:=h;obtain ⟨p,vs2,rfl,sq,rr⟩:=qF ab rv e;cases (show u=Value.ref p from ru);obtain ⟨its,vv,pl,hz⟩:=I.sqB sq;have hS:=jG rr vv;have hl2:its.length=ts.length:=vG hS;refine zal (K:=kInt X.prog X.w) (items:=its.toArray) (ss:=ts) hh pl (by simpa using zd9 hS) (by show its.toArray.size+1<4096;rw [zzS];omega) fun h1 tk hT hk=>?_;obtain ⟨o,es,ep,t,ho,so,hsz,hm⟩:=hT;have w1:Went s { s with heap:=h1,toks:=tk }:=⟨fun b o e=>hk b o (Zf e) e,rfl,rfl⟩;have hes:(es.toList.map (tx (kInt X.prog X.w))).length<64:=by rw [zzM,Zn];omega
  refine vP (ns:=es.toList.map (tx (kInt X.prog X.w))) hes (fun Q' E' q=>rS (show X.A.in1.handled=none from hh) ho so (by omega) fun s' vs ys a b c=>q s' vs ys (zaB a) b c) fun s1 s' vs' ss' m g1 g2 hg hv hp hs=>?_;exact pF I ab (w1.trans g1) g2 hg hv (by rw [hp.length_eq];exact hes) (h ss' (hp.nodup_iff.mpr so.nd) (fun x=>(hp.mem_iff).trans (hm x)) hs)
 .exact h.elim
def ss2:RS:=fun ws G Q=>ssS ws G Q\/ssI ws G Q
theorem bE:xE ss2:=fun ws G Q Q' k h=>h.imp (zdi ws G Q Q' k) (zdj ws G Q Q' k)
theorem zhM {pins:List (Addr×Obj)} {σ:L2.St} {H:Hp} {s:Shared} {vs:List V} {us:List Value} {Q:VK} (hh:X.A.handled=none) (I:Inv X pins σ H s) (r:zE vs us) (h:qQ X.K ss2 vs H Q) :
  wpAny (model X.prog X.w) X.A (call (.type "set") us) (fun v s1=>wpAny (model X.prog X.w) X.A (call (.builtin "sorted") [v]) (EP X pins σ Q) X.xe s1) X.xe s:=by
 obtain ⟨ws,G,rs,ab,h⟩:=h;rcases h with h|h
 .exact ss_ok hh I r ⟨ws,G,rs,ab,h⟩
 .exact zhL hh I r ⟨ws,G,rs,ab,h⟩
theorem zhJ {q:Pr} {A:Around} (h1:q.mg "sorted" = none) (h2:q.mg "set" = none):SxE (q.at A) ⟨ssM,ss2⟩:=zhI bE zhM h1 h2
end
namespace RI
theorem s_next:Slot "reversed" "__next__" "reversed.__next__" :=
 .of (owner := "reversed") (n := "__next__") (by rw [Zab,ZL];kernel_rfl) (by decide +kernel) (by decide +kernel) (by decide +kernel) (by first|exact .inl (by decide +kernel)|exact .inr (by decide +kernel)) (by rw [ZaN];kernel_rfl)
theorem s_iter:Slot "reversed" "__iter__" "reversed.__iter__" :=
 .of (owner := "reversed") (n := "__iter__") (by rw [Zab,ZL];kernel_rfl) (by decide +kernel) (by decide +kernel) (by decide +kernel) (by first|exact .inl (by decide +kernel)|exact .inr (by decide +kernel)) (by rw [ZaN];kernel_rfl)
theorem zhY:Slot "reversed" "__init__" "object.__init__" :=
 .of (owner := "object") (n := "__init__") (by rw [Zab,ZL];kernel_rfl) (by decide +kernel) (by decide +kernel) (by decide +kernel) (by first|exact .inl (by decide +kernel)|exact .inr (by decide +kernel)) (by rw [ZaN];kernel_rfl)
theorem e_next:entryFor table "reversed.__next__" = some Builtin.«reversed.__next__»:=Zck (by kernel_rfl)
theorem e_iter:entryFor table "reversed.__iter__" = some Builtin.«dict_keyiterator.__iter__» :=
 Zcv (id' := "dict_keyiterator.__iter__") (by kernel_rfl) rfl (by decide +kernel) (by kernel_rfl)
theorem a_next (a:Value):argsOk "reversed.__next__" ⟨[a],[]⟩:=by unfold argsOk;kernel_rfl
theorem a_iter (a:Value):argsOk "reversed.__iter__" ⟨[a],[]⟩:=by unfold argsOk;kernel_rfl
theorem called:TypeCalled "reversed" "reversed.__new__" "object.__init__" :=
 ⟨by decide +kernel,PySem.F.create_reversed,⟨_,_,PySem.F.mro_reversed⟩,PySem.F.made_reversed,by decide +kernel,PySem.F.sub_reversed_self,zhY⟩
theorem no_rev:typeLookup (.type "tuple") "__reversed__" = pure none:=by rw [Zab,ZL];kernel_rfl
theorem no_dict:isSubtype (.type "tuple") (.type "dict")=pure false:=by rw [ZaN];kernel_rfl
theorem item:typeLookup (.type "tuple") "__getitem__" = pure (some (.builtin "tuple.__getitem__")):=by rw [Zab,ZL];kernel_rfl
theorem no_len:typeLookup (.type "reversed") "__len__" = pure none:=by rw [Zab,ZL];kernel_rfl
theorem hint:typeLookup (.type "reversed") "__length_hint__" = pure (some (.builtin "reversed.__length_hint__")):=by rw [Zab,ZL];kernel_rfl
theorem s_hint:Slot "reversed" "__length_hint__" "reversed.__length_hint__" :=
 .of (owner := "reversed") (n := "__length_hint__") hint (by decide +kernel) (by decide +kernel) (by decide +kernel) (by first|exact .inl (by decide +kernel)|exact .inr (by decide +kernel)) (by rw [ZaN];kernel_rfl)
theorem e_hint:entryFor table "reversed.__length_hint__" = some Builtin.«reversed.__length_hint__»:=Zck (by kernel_rfl)
theorem a_hint (a:Value):argsOk "reversed.__length_hint__" ⟨[a],[]⟩:=by unfold argsOk;kernel_rfl
end RI
abbrev rvO (l:Addr) (i:Int):Obj:={ cls:=.type "reversed", data:=.fields #[.ref l,rawInt i] }
section
variable {prog : Program} {w : World} {A : Around} {E : Value → Shared → Prop} {s : Shared} {l I : Addr} {items : Array Value}
theorem zh2 {Q:Value->Shared->Prop} (hl:IsTup s.heap l items) (hz:(items.size:Int)<2 ^ 63) (h:Q (.ref s.heap.objs.size) { s with heap:=s.heap.push (rvO l ((items.size:Int)-1)),toks:=s.toks+1+1 }) :
  codeAny (model prog w) A (.call (.builtin "reversed.__new__") ⟨[.type "reversed", .ref l],[]⟩) (wants Q E) s:=by
 refine Zbt ?_;refine Za (m:=checkBuiltinCall "reversed.__new__" _) (Za7 (PySem.F.newCall_reversed_1 _) (Zc ⟨Zal PySem.F.plain_reversed_new _,Zaa PySem.F.entry_reversed_new ?_⟩));rw [ZS PySem.F.plain_reversed_new _];unfold Builtin.«reversed.__new__»;refine Za (Za7 (newClass_reversed _) ?_)
 try dsimp only
 refine Za (Za7 (a:=()) (by first|rfl|kernel_rfl) ?_);refine Za (Za7 (a:=()) (by first|rfl|kernel_rfl) ?_)
 try dsimp only
 refine Za (Zat hl.typeIs RI.no_rev ?_)
 try dsimp only
 refine Za (Za (m:=isInstance (.ref l) (.type "dict")) (ZaF (b:=false) hl.typeIs RI.no_dict ?_));rw [if_neg zzN];refine Za (m:=specialOf (.ref l) (Str.ofString "__getitem__")) (Zat hl.typeIs RI.item ?_)
 try dsimp only
 rw [if_pos (by decide +kernel)];refine Zc ?_;rw [if_neg (by decide)];refine Za (len_tuple hl hz ?_);refine Za (m:=asInt? _) (Zc ?_)
 try dsimp only
 exact Za (m:=newObj (.type "reversed") (.fields #[.ref l,rawInt ((items.size:Int)-1)])) (ZA (Zc h))
theorem zfN {Q:Value->Shared->Prop} (hl:IsTup s.heap l items) (hz:(items.size:Int)<2 ^ 63) (h:Q (.ref s.heap.objs.size) { s with heap:=s.heap.push (rvO l ((items.size:Int)-1)),toks:=s.toks+1+1 }) :
  wpAny (model prog w) A (call (.type "reversed") [.ref l]) Q E s:=by
 refine Zcu (Q₁:=fun obj s₁=>s₁.TypeIs obj "reversed" /\ Q obj s₁) RI.called (PySem.F.typeCall_reversed_1 _) PySem.F.entry_object_init
  (zh2 hl hz ⟨⟨_,Zd _ rfl,rfl⟩,h⟩) fun obj s₁ h₁=>?_
 exact ⟨h₁.1,PySem.F.args_object_init_2 obj _,object_init_meets RI.called.init.lookup RI.called.made (by decide) prog w A.in1 _ s₁ ⟨h₁.1,rfl,h₁.2⟩⟩
theorem zfK {i:Nat} {x:Value} {Q:Option Value->Shared->Prop} (hI:s.heap.get? I=some (rvO l (i:Int))) (hl:IsTup s.heap l items) (hz:(items.size:Int)<2 ^ 63) (hx:items[i]?=some x)
  (h:Q (some x) { s with heap:=s.heap.update I (Obj.mapFields (·.setIfInBounds 1 (rawInt ((i:Int)-1)))),toks:=s.toks+1 }):wpAny (model prog w) A (pyNext (.ref I)) Q E s:=by
 have hT:s.TypeIs (.ref I) "reversed" := ⟨_,hI,rfl⟩;have hi:i<items.size:=(Z6.mp hx).1;unfold pyNext;refine Za (ZaK (ZJ (name:=Str.ofString "__next__") hT RI.s_next (ZC RI.s_next hT RI.e_next ?_ (RI.a_next _))));unfold Builtin.«reversed.__next__»;refine Za (m:=slotArgs "__next__" 0 _) (Zc ?_);refine Za (Zu hI rfl (x:=.ref l) rfl ?_);refine Za (Zu hI rfl (x:=rawInt (i:Int)) rfl ?_);show wpAny _ _ (if (i:Int)<0 then _ else _) _ _ s;rw [if_neg (by omega)];refine Za (Zat hl.typeIs RI.item ?_);rw [if_neg (by decide)];refine Za (wpAny_mkInt (Za (ZaK (getItem_tuple (s:={ s with toks:=s.toks+1 }) hl (by omega) (by omega) (j:=i) (by unfold seqIndex?;split<;>simp<;>omega) hx ?_))))
 try dsimp only
 refine Za (Zu (s:={ s with toks:=s.toks+1 }) hI rfl (x:=rawInt (i:Int)) rfl ?_);show wpAny _ _ (setField (.ref I) 1 (rawInt ((i:Int)-1)) >>= fun _=>ret x) _ _ _;exact Za (ZM (s:={ s with toks:=s.toks+1 }) hI rfl (by simp) (Zc ⟨x,rfl,Zc h⟩))
theorem zh3 {Q:Option Value->Shared->Prop} (hh:A.handled=none) (hI:s.heap.get? I=some (rvO l (-1)))
  (h:∀ s',Moved [I] Gs s s'->Q none s'):wpAny (model prog w) A (pyNext (.ref I)) Q E s:=by
 have hT:s.TypeIs (.ref I) "reversed" := ⟨_,hI,rfl⟩;unfold pyNext;refine Za (ZaK (ZJ (name:=Str.ofString "__next__") hT RI.s_next (ZC RI.s_next hT RI.e_next ?_ (RI.a_next _))));unfold Builtin.«reversed.__next__»;refine Za (m:=slotArgs "__next__" 0 _) (Zc ?_);refine Za (Zu hI rfl (x:=.ref l) rfl ?_);refine Za (Zu hI rfl (x:=rawInt (-1)) rfl ?_);show wpAny _ _ (if (-1:Int)<0 then _ else _) _ _ s;rw [if_pos (by decide)];refine Za (ZaU ?_);have h2:=Zr (Obj.mapFields (·.setIfInBounds 1 (rawInt (-1)))) hI rfl;refine Za (Za (m:=setField (.ref I) 1 (rawInt (-1))) (ZM hI rfl (by simp) (ZM h2 rfl (by simp) ?_)));refine Za (m:=Builtin.SmallTypes.stopIteration) (ZN (rE (β:=Unit) (show A.in1.handled=none from hh) (Q:=fun _ _=>False) (Er:=fun e s'=>s'.TypeIs e "StopIteration" /\ Q none s') fun h' e k hT=>⟨hT,h _ (Moved.more (Zca (fun _ _ _ h1 h2=>h2.trans h1) xM xM) k)⟩) (fun _ _ (z:False)=>z.elim) fun e s' z=>?_);exact Za (ZaF (T := "StopIteration") (b:=true) z.1 Zcw (Zc z.2))
theorem zfJ (hh:A.handled=none) (hne:l≠I) (hz:(items.size:Int)<2 ^ 63) :
  WalksS prog w A I [I,l] [I] Gs items.size (fun i v=>items[items.size-1-i]?=some v) (fun i s=>i<=items.size/\s.heap.get? I=some (rvO l ((items.size:Int)-1-(i:Int)))/\IsTup s.heap l items) where
 sub:=fun b hb=>by simp only [Zx] at hb;simp [hb]
 grefl:=fun _=>rfl
 gtrans:=fun _ _ _ h1 h2=>h2.trans h1
 frame:=fun i s h' tk st _ k=>⟨st.1,k I (by simp) _ st.2.1,let ⟨o,ho,r⟩:=st.2.2;⟨o,k l (by simp) o ho,r⟩⟩
 item:=fun i s Q E hi st q=>by
  obtain ⟨h0,h1,h2⟩:=st;have e:(items.size:Int)-1-(i:Int)=((items.size-1-i:Nat):Int):=by omega
  rw [e] at h1;have hx:items[items.size-1-i]?=some (items[items.size-1-i]'(by omega)):=Z9 (by omega);have hu:=Zr (Obj.mapFields (·.setIfInBounds 1 (rawInt (((items.size-1-i:Nat):Int)-1)))) h1 rfl;have e2:((items.size-1-i:Nat):Int)-1=(items.size:Int)-1-((i+1:Nat):Int):=by omega
  refine zfK h1 h2 hz hx (q _ _ hx ⟨hi,by rw [e2] at hu ⊢;exact hu,let ⟨o,ho,r⟩:=h2;⟨o,(Zm _ _ hne.symm).trans ho,r⟩⟩ ?_);exact (xM (s:=s) (I:=I)).then_heap (Zbj _) fun b o _ e=>e
 done:=fun s Q E st q=>by
  obtain ⟨h0,h1,h2⟩:=st;have e:(items.size:Int)-1-(items.size:Int)=-1:=by omega
  rw [e] at h1;exact zh3 hh h1 q
 self:=fun i s Q E st q=>by
  have hT:s.TypeIs (.ref I) "reversed" := ⟨_,st.2.1,rfl⟩;refine ZbB hT RI.s_iter (ZC RI.s_iter hT RI.e_iter ?_ (RI.a_iter _));show wpAny (model prog w) _ (ret (.ref I)) _ _ s;exact Zc ⟨_,rfl, "reversed", _,hT,RI.s_next.lookup,q⟩
theorem zdu {Q:Bool->Shared->Prop} (hI:s.heap.get? I=some (rvO l ((items.size:Int)-1))) (hl:IsTup s.heap l items) (hn:items.size<=sizeLine)
  (h:∀ b tk,s.toks<=tk->Q b { s with toks:=tk }):wpAny (model prog w) A (Builtin.List.listLengthHint (.ref I)) Q E s:=by
 have hz:(items.size:Int)<2 ^ 63:=by rw [ZD] at hn;omega
 have hT:s.TypeIs (.ref I) "reversed" := ⟨_,hI,rfl⟩;unfold Builtin.List.listLengthHint;refine Za (Zat hT RI.no_len ?_);show wpAny _ A (specialOf (Value.ref I) (Str.ofString "__length_hint__") >>= _) _ _ _;refine Za (Zat hT RI.hint ?_)
 (generalize hid:("reversed.__length_hint__" : String)=id0;(fail_if_success (clear hid id0));wp_delta;rw [show splitId id0=some ("reversed", "__length_hint__") from by subst hid;decide +kernel];subst hid)
 refine Za (ZaF (b:=true) hT PySem.F.sub_reversed_self ?_);rw [if_neg (by decide)];rw [if_neg (by decide +kernel)];refine Za (ZaU ?_);refine Za (Za7 (RI.s_hint.bind _) ?_)
 try dsimp only
 refine Za (ZaK (ZC RI.s_hint hT RI.e_hint ?_ (RI.a_hint _)));unfold Builtin.«reversed.__length_hint__»;refine Za (m:=selfOnly _ _) (Zc ?_);refine Za (Zu hI rfl (x:=.ref l) rfl ?_);rw [if_neg (show ¬ ((Value.ref l==Value.none)=true) from zzN)];refine Za (len_tuple hl hz ?_);refine Za (m:=asInt? _) (Zc ?_)
 try dsimp only
 refine Za (Zu (s:={ s with toks:=s.toks+1+1 }) hI rfl (x:=rawInt ((items.size:Int)-1)) rfl ?_);show wpAny _ _ (if (items.size:Int)<(items.size:Int)-1+1 then _ else _) _ _ _;rw [if_neg (by omega)];refine Za (m:=mkInt _) (wpAny_mkInt (Zc ⟨_,rfl,?_⟩));refine Za (m:=asInt? _) (Zc ?_)
 try dsimp only
 have e:(items.size:Int)-1+1=items.size:=by omega
 rw [e,if_neg (by simp [Builtin.List.listFitsIndex];omega),if_neg (by omega),if_neg (by simp [Builtin.List.listTooLong];omega)];exact Zc (h _ _ (by omega))
theorem zfM {Q:List Value->Shared->Prop} (hh:A.handled=none) (hI:s.heap.get? I=some (rvO l ((items.size:Int)-1))) (hl:IsTup s.heap l items) (hne:l≠I) (hn:items.size<=sizeLine)
  (hQ:∀ s' acc,Moved [I] Gs s s'->ItemsOf (fun i v=>items[items.size-1-i]?=some v) acc items.size->Q acc.toList s'):wpAny (model prog w) A (collect (.ref I)) Q E s:=by
 have hz:(items.size:Int)<2 ^ 63:=by rw [ZD] at hn;omega
 have W:=zfJ (prog:=prog) (w:=w) (A:=A.in1) (items:=items) hh hne hz;have hst:(fun (i:Nat) (s:Shared)=>i<=items.size/\s.heap.get? I=some (rvO l ((items.size:Int)-1-(i:Int)))/\IsTup s.heap l items) 0 s:=⟨ZX _,by rw [hI];simp,hl⟩
 have hfp:∀ b∈[I,l],b<s.heap.objs.size:=fun b hb=>by
  simp only [Zk,Zt,or_false] at hb;rcases hb with rfl|rfl
  .exact Zf hI
  .exact hl.lt
 have hSf:s.heap.objs.size∉[I,l]:=fun hm=>Zad _ (hfp _ hm);have hSI:s.heap.objs.size≠I:=fun e=>hSf (e▸zzT);unfold collect;refine Za (Zb1 (Zaa PySem.F.entry_proto_collect ?_));rw [ZS PySem.F.plain_proto_collect _];refine Za (m:=newList []) (ZA ?_);refine Zc ⟨Zal ZaZ _,Zaa PySem.F.entry_list_iadd ?_⟩;rw [ZS ZaZ _];have st1:=W.frame 0 s (s.heap.push { cls:=.type "list", data:=.seq ([]:List Value).toArray }) s.toks hst (zzR _) fun b _ o e=>Zb _ e;have hS1:(s.heap.push { cls:=.type "list", data:=.seq ([]:List Value).toArray }).get? s.heap.objs.size=some { cls:=.type "list", data:=.seq ([]:List Value).toArray }:=Zd _ rfl;have hT:Shared.TypeIs { s with heap:=s.heap.push { cls:=.type "list", data:=.seq ([]:List Value).toArray } } (.ref I) "reversed" := ⟨_,st1.2.1,rfl⟩;have h1:Builtin.List.listSameRef (.ref s.heap.objs.size) (.ref I)=false:=by simp [Builtin.List.listSameRef,hSI]
 show wpAny _ A.in1 (Builtin.List.listExtendWith (.ref s.heap.objs.size) (.ref I) (.ref s.heap.objs.size)) _ _ _;unfold Builtin.List.listExtendWith;refine Za (Za8 hT ?_);rw [if_neg (by rw [h1];decide)];refine Za (W.self 0 _ _ _ st1 ?_);refine Za (ZK (zdu (by rw [st1.2.1];simp) st1.2.2 hn fun room tk htk=>?_));have st2:=W.frame 0 _ (s.heap.push { cls:=.type "list", data:=.seq ([]:List Value).toArray }) tk st1 htk fun b _ o e=>e
 cases room with
 |true =>
  dsimp only;refine zjh rfl ?_;refine Za (ZaU ?_);refine Za (m:=Builtin.List.listTouch (.ref s.heap.objs.size)) ?_;show wpAny (model prog w) A.in1 (updateSeq s.heap.objs.size (·.push .none) >>= fun _=>updateSeq s.heap.objs.size (·.pop)) _ _ _;refine Za (ZaB hS1 rfl ?_);have hD3:=Zr (Obj.mapSeq (·.push Value.none)) hS1 rfl;refine ZaB hD3 rfl ?_;have hD4:=Zr (Obj.mapSeq (·.pop)) hD3 rfl
  have oth:∀ b u,b≠s.heap.objs.size->(s.heap.push { cls:=.type "list", data:=.seq ([]:List Value).toArray }).get? b=some u->(((s.heap.push { cls:=.type "list", data:=.seq ([]:List Value).toArray }).update s.heap.objs.size (Obj.mapSeq (·.push Value.none))).update s.heap.objs.size (Obj.mapSeq (·.pop))).get? b=some u :=
   fun b u hb e=>(Zm _ _ (Ne.symm hb)).trans ((Zm _ _ (Ne.symm hb)).trans e)
  refine Zc ⟨Zal Zbc _,ZbK W hn _ hSf _ items.size 0 _ _ _ rfl (ZX _) ⟨ZX _,oth _ _ hSI.symm st1.2.1,let ⟨o,ho,r⟩:=st1.2.2;⟨o,oth _ _ (Zl hl.lt) ho,r⟩⟩ hD4 (ItemsOf.nil _) fun s' acc c hm hS' hacc=>?_⟩;show wpAny _ A (load s.heap.objs.size >>= _) _ _ s';refine Za (Zct hS' (Zc (hQ s' acc ⟨fun b o hb e=>?_,hm.gens,hm.drawn,hm.os,Zy htk hm.toks⟩ hacc)));have hb2:b≠s.heap.objs.size:=Zl (Zf e);exact hm.heap b o (by simp only [Zk,Zt,or_false,not_or] at hb ⊢;exact ⟨hb2,hb⟩) (oth b o hb2 (Zb _ e))
 |false =>
  dsimp only;rw [if_neg (by decide +kernel)];refine Zc ⟨Zal Zbc _,ZbK W hn _ hSf _ items.size 0 _ _ _ rfl (ZX _) st2 hS1 (ItemsOf.nil _) fun s' acc c hm hS' hacc=>?_⟩;show wpAny _ A (load s.heap.objs.size >>= _) _ _ s';refine Za (Zct hS' (Zc (hQ s' acc ⟨fun b o hb e=>?_,hm.gens,hm.drawn,hm.os,Zy htk hm.toks⟩ hacc)));have hb2:b≠s.heap.objs.size:=Zl (Zf e);exact hm.heap b o (by simp only [Zk,Zt,or_false,not_or] at hb ⊢;exact ⟨hb2,hb⟩) (Zb _ e)
theorem zdt {Q:Value->Shared->Prop} (hh:A.handled=none) (hI:s.heap.get? I=some (rvO l ((items.size:Int)-1))) (hl:IsTup s.heap l items) (hne:l≠I) (hn:items.size<=sizeLine)
  (h:∀ s',Moved [I] Gs s s'->Q (.ref s'.heap.objs.size) { s' with heap:=s'.heap.push { cls:=.type "tuple", data:=.seq items.toList.reverse.toArray } }):wpAny (model prog w) A (call (.type "tuple") [.ref I]) Q E s:=by
 have hTI:s.TypeIs (.ref I) "reversed" := ⟨_,hI,rfl⟩
 refine Zcu (Q₁:=fun obj s₁=>s₁.TypeIs obj "tuple" /\ Q obj s₁) ZbJ (PySem.F.typeCall_tuple_1 _) PySem.F.entry_object_init ?_ fun obj s₁ h₁ =>
  ⟨h₁.1,PySem.F.args_object_init_2 obj _,object_init_meets ZbJ.init.lookup ZbJ.made (by decide) prog w A.in1 _ s₁ ⟨h₁.1,rfl,h₁.2⟩⟩
 refine Zbt ?_;refine Za (m:=checkBuiltinCall "tuple.__new__" _) (Za7 (PySem.F.newCall_tuple_1 _) (Zc ⟨Zal PySem.F.plain_tuple_new _,Zaa PySem.F.entry_tuple_new ?_⟩));rw [ZS PySem.F.plain_tuple_new _];have hsub:=sub_tuple_self;have hinit:=init_tuple_lookup;have hmh:=madeHere_tuple
 wp_walk using Za8 hTI,zfM (A:=A.in1.in1) hh hI hl hne hn
 intro s' acc hm hacc
 have e:acc.toList=items.toList.reverse:=by
  refine List.ext_getElem? fun i=>?_
  by_cases hi:i<items.size
  .have h1:i<acc.toList.length:=by rw [Zn,hacc.1];exact hi
   rw [List.getElem?_reverse (by simpa using hi),Ze h1];have:=hacc.2 i acc.toList[i] (by rw [← ZQ];exact Ze h1);rw [Zn,ZQ];exact this.symm
  .rw [Zas (by rw [Zn,hacc.1];omega),Zas (by simp;omega)]
 show wpAny _ _ (Builtin.Tuple.tupleExact acc.toList.toArray >>= fun v=>ret v) _ _ _;rw [e];unfold Builtin.Tuple.tupleExact;refine Za (ZA ?_ (by show items.toList.reverse.toArray.size<=sizeLine;simpa using hn));exact Zc ⟨⟨_,Zd _ rfl,rfl⟩,h s' hm⟩
end
section
variable {X : Cx}
def trM:Scope->Expr->Option (List Expr):=fun sc e=>match e with
 | .Call (.Name o _) [.Call (.Name x _) [a] [] _] [] _=>if (o==("tuple" : Str)&&x==("reversed" : Str)&&jQ sc o&&jQ sc x)=true then some [a] else none
 |_=>none
def trS:RS:=fun ws G Q=>match ws with
 | [.tup xs]=>Q (.tup xs.reverse) G
 |_=>False
theorem bH:xE trS:=by
 intro ws G Q Q' k h;unfold trS at h ⊢
 split at h
 .exact k _ _ h
 .exact h.elim
theorem zfx {sc:Scope} {e:Expr} {xs:List Expr} (h:trM sc e=some xs):∃ qo q pos pos' a,xs=[a]/\e=.Call (.Name "tuple" qo) [.Call (.Name "reversed" q) [a] [] pos] [] pos'/\jQ sc "tuple" = true/\jQ sc "reversed" = true:=by
 unfold trM at h
 split at h
 .rename_i o qo x q a pos pos'
  split at h
  .rename_i hb;obtain ⟨⟨⟨h1,h2⟩,h3⟩,h4⟩:=bd4 hb;cases eq_of_beq h1;cases eq_of_beq h2;cases h;exact ⟨qo,q,pos,pos',a,rfl,rfl,h3,h4⟩
  .cases h
 .cases h
theorem tr_ok {pins:List (Addr×Obj)} {σ:L2.St} {H:Hp} {s:Shared} {vs:List V} {us:List Value} {Q:VK} (hh:X.A.handled=none) (I:Inv X pins σ H s) (r:zE vs us) (h:qQ X.K trS vs H Q) :
  wpAny (model X.prog X.w) X.A (call (.type "reversed") us) (fun v s1=>wpAny (model X.prog X.w) X.A (call (.type "tuple") [v]) (EP X pins σ Q) X.xe s1) X.xe s:=by
 obtain ⟨ws,G,rs,ab,h⟩:=h;unfold trS at h
 split at h
 .rename_i xs;obtain ⟨v,rfl,rv⟩:=jN rs;obtain ⟨u,rfl,ru⟩:=jT r;obtain ⟨p,vs2,rfl,sq,rr⟩:=rv;cases (show u=Value.ref p from ru);obtain ⟨its,vv,ht,hz⟩:=I.tuple sq;have hln:its.toArray.size<=sizeLine:=by rw [zzS,← vv.length];exact hz
  have hlt:p<s.heap.objs.size:=ht.lt;refine zfN ht (by rw [ZD] at hln;omega) ?_;refine zdt (items:=its.toArray) (l:=p) hh (Zd _ rfl) (ht.push _) (Zl hlt) hln fun s' hm=>?_;have wt:Went s s':=⟨fun b o e=>hm.heap b o (by simp only [Zx];exact Zl (Zf e)) (Zb _ e),hm.gens,hm.os⟩;have I1:=wt.inv I;have hn:=I1.hok.fresh (zzR _);refine ⟨.ref _,_,I1.laid (t':=s'.toks) (o:=.tup vs2.reverse) (fun b ob q=>Zb _ q) (zzR _) ⟨by rw [Zbh];exact hz,its.reverse,vv.reverse,ZcC _ _⟩,rfl,?_⟩;exact uX ab rr.reverse h _ hn
 .exact h.elim
theorem sx_tr {q:Pr} {A:Around} (h1:q.mg "tuple" = none) (h2:q.mg "reversed" = none):SxE (q.at A) ⟨trM,trS⟩:=by
 intro X fits e xs es he each hn pa;obtain ⟨qo,qq,pos,pos',a,rfl,rfl,g1,g2⟩:=zfx he;obtain ⟨gl1,d1,n1⟩:=kD (X:=X) rfl g1;obtain ⟨gl2,d2,n2⟩:=kD (X:=X) rfl g2;have m1:X.mg "tuple" = none:=by rw [fits.mg];exact h1
 have m2:X.mg "reversed" = none:=by rw [fits.mg];exact h2
 refine ⟨fun pins s σ H Q I h=>?_,fun _=>rfl,fun _ _ _ z=>nomatch z⟩;obtain ⟨s1,s2⟩:=xV (env:=X.env) (pos:=pos) hn;have h':=tN (uV each) bH h;refine ZH (qW (u:=.type "tuple") I gl1 m1 (by decide +kernel) ?_ n1 d1);refine ZP (e:=.Call (.Name "reversed" qq) [a] [] pos) (rest:=[]) ?_ rfl rfl;show wpAny _ _ (spliced ((false,eval (.Call (.Name "reversed" qq) [a] [] pos) X.env)::backTo pos' (starEach [] X.env))) _ _ s;refine Zbn (ZH (qW (u:=.type "reversed") I gl2 m2 (by decide +kernel) (ZP (yG (pa pos pins s σ H _ I h') fun us s1 ⟨vs,H1,I1,r1,q1⟩=>?_) s1 s2) n2 d2));exact yG (tr_ok (I1.ok.hd fits.calm) I1 r1 q1) fun v s2 z=>Zby z
end
def minS:RS:=fun ws G Q=>match ws with
 | [.int i,.int j]=>Q (.int (if j<i then j else i)) G
 |_=>False
theorem gF:xE minS:=by
 intro ws G Q Q' k h;unfold minS at h ⊢
 split at h
 .exact k _ _ h
 .exact h.elim
theorem ziO {X:Cx} (hc:X.calm=true):xD X (.builtin "min") (qQ X.K minS):=by
 intro pins s σ H xs us Q I r h;obtain ⟨ws,G,rs,ab,h⟩:=h;unfold minS at h
 split at h
 .rename_i i j;obtain ⟨x,y,rfl,rx,ry⟩:=tU rs;cases (show x=.int i from rx);cases (show y=.int j from ry);exact zcT hc pins s σ H _ us Q I r ⟨i,j,rfl,h _ H .refl rfl ab⟩
 .exact h.elim
abbrev eMin:Fn3:=⟨"min", fun ws G Q _=>minS ws G Q⟩
theorem zgR {q:Pr} {A:Around} (hm:q.mg "min" = none):qS (q.at A) eMin:=⟨sH hm (by decide +kernel) (fun X f=>ziO f.calm) gF (fun _ _ h=>h),fun ws G Q Q' _ k h=>gF ws G Q Q' k h⟩
end L3
namespace L2
open PySem PySem.Spec PyProof.Rows
def Itw (lo:Int) (n:Nat):It where
 go:=fun i _=>i<n
 yld:=fun i H x H'=>H'=H/\x=.int (lo-i)
 stop:=fun i _=>n<=i
theorem zbp {P:Program} {w:World} {K:PySem.W.Frag} {tg:Expr} (it:Addr) (lo:Int) (n:Nat):Turn P w K tg (Itw lo n) [it] it (fun i h=>IsRangeIter h it (lo+(i:Nat) * (-1)) ((n:Int)-(i:Nat)) (-1)) where
 mem:=Zx.mpr rfl
 obj:=fun i h st b hb=>by
  cases zzO hb
  exact ⟨_,st,fun v z=>by
   have z':Data.fields _=Data.cell v:=z;cases z'⟩
 keep:=fun i h h' st k=>k it (Zx.mpr rfl) _ st
 item:=by
  intro X e1 e2 e3 hc i pins s σ H E I hf st hg;subst e1;subst e2;subst e3;obtain ⟨f0,f1,f2,f3,f4,f5⟩:=hf it (Zx.mpr rfl);refine (Walks.range (prog:=X.prog) (w:=X.w) (I.ok.hd hc) it lo (-1) n).item i s _ _ hg st fun v h' tk hv st' kk=>?_;obtain ⟨t,rfl⟩:=hv;have J:Inv X pins σ H { s with heap:=h',toks:=tk }:=I.turned (fun b o hb e=>kk b o (fun z=>hb (zzO z)) e) f0 f1 f3 f4 f5;refine ⟨_,rfl,fP (s:={ s with heap:=h',toks:=tk }) (n := "range_iterator") st' rfl rfl (by decide) ⟨.int (lo-i),H,J,⟨t,?_⟩,⟨rfl,rfl⟩,st',fun b hb=>(hf b hb).1⟩⟩;rw [show lo+(i:Int) * (-1)=lo-i by omega]
 done:=by
  intro X e1 e2 e3 hc i pins s σ H E I hf st hg;subst e1;subst e2;subst e3;obtain ⟨f0,f1,f2,f3,f4,f5⟩:=hf it (Zx.mpr rfl);exact wpAny_pyNext_range_end (I.ok.hd hc) st (by have:n<=i:=hg;omega) fun h' eb=>⟨rfl,I.turned (t':=s.toks) (fun b o hb e=>eb b o hb e) f0 f1 f3 f4 f5⟩
 self:=fun _ _ _ _ _ st h=>wpAny_pyIter_rangeiter st h
theorem gM (a b:Int):Builtin.Range.rangeSize a b (-1)=((a-b).toNat:Int):=by
 unfold Builtin.Range.rangeSize;rw [if_neg (by decide),show (-(-1):Int)=1 from rfl,Int.ediv_one]
 split<;>omega
theorem zaQ {a b:Int} (h1:-(2 ^ 62)<=a) (h2:a<2 ^ 62) (h3:-(2 ^ 62)<=b) (h4:b<2 ^ 62):Builtin.Range.small a b (-1)=true:=by
 unfold Builtin.Range.small;rw [gM];have e:(((a-b).toNat:Nat):Int)=if b<a then a-b else 0:=by split<;>omega
 rw [e];simp only [show ¬ ((-1:Int) > 0) by decide,if_false,Builtin.Range.rangeFitsLong,Zp,Bool.or_eq_true,decide_eq_true_eq,beq_iff_eq]
 split<;>omega
section
variable {X : Cx} {tg : Expr}
theorem zaT {pins:List (Addr×Obj)} {σ:St} {H:Hp} {s:Shared} {R:It->Hp->Prop} {E:Value->Shared->Prop} {lo hi:Int} {t u v:Tok} {tk:Nat} (I:Inv X pins σ H s) (h1:-(2 ^ 62)<=lo) (h2:lo<2 ^ 62) (h3:-(2 ^ 62)<=hi) (h4:hi<2 ^ 62)
  (q:R (Itw lo (lo-hi).toNat) H):wpAny (model X.prog X.w) X.A (pyIter (.ref s.heap.objs.size)) (PIE X pins σ tg R) E { s with heap:=s.heap.push { cls:=.type "range", data:=.fields #[.int lo t,.int hi u,.int (-1) v] },toks:=tk }:=by
 refine wpAny_pyIter_range (IsRange.new ..) (zaQ h1 h2 h3 h4) ?_;generalize hh:s.heap.push { cls:=.type "range", data:=.fields #[.int lo t,.int hi u,.int (-1) v] }=h0;have J:Inv X pins σ H { s with heap:=h0,toks:=tk }:=by rw [← hh];exact I.kept fun b o e=>Zb _ e
 refine ⟨h0.objs.size,[h0.objs.size],_,_,H,rfl,J.kept (t':=tk) fun b o e=>Zb _ e,zbp _ lo (lo-hi).toNat,?_,fun b hb=>?_,q⟩
 .show IsRangeIter _ _ (lo+((0:Nat):Int) * (-1)) ((((lo-hi).toNat:Nat):Int)-((0:Nat):Int)) (-1);rw [show lo+((0:Nat):Int) * (-1)=lo by simp,show (((lo-hi).toNat:Nat):Int)-((0:Nat):Int)=Builtin.Range.rangeSize lo hi (-1) by rw [gM];simp];exact Zd _ rfl
 .cases zzO hb;exact J.fpOk (zzR _) (J.hok.fresh (zzR _))
end
end L2
namespace L3
open PySem PySem.Spec PyProof.Rows L2 PySem.SeqAt
def inB (j:Int):Prop:=-(2 ^ 62)<=j/\j<2 ^ 62
def rg3 (ws:List W) (G:Hw) (R:List W->(Hw->Prop)->Hw->Prop):Prop:=match ws with
 | [.int j]=>inB j/\R ((List.range j.toNat).map fun i=>.int (i:Nat)) (fun _=>True) G
 | [.int i,.int j]=>inB i/\inB j/\R ((List.range (j-i).toNat).map fun k=>.int (i+(k:Nat))) (fun _=>True) G
 | [.int i,.int j,.int c]=>c=-1/\inB i/\inB j/\R ((List.range (i-j).toNat).map fun k=>.int (i-(k:Nat))) (fun _=>True) G
 |_=>False
theorem zdw:mW ⟨"range", rg3⟩:=by
 intro ws G R R' k h;replace h:rg3 ws G R:=h;show rg3 ws G R';unfold rg3 at h ⊢
 split at h
 .exact ⟨h.1,k _ _ _ h.2⟩
 .exact ⟨h.1,h.2.1,k _ _ _ h.2.2⟩
 .exact ⟨h.1,h.2.1,h.2.2.1,k _ _ _ h.2.2.2⟩
 .exact h.elim
theorem zjb {K:zA} {H1:Hp} {lo:Int} {n:Nat}:ItIs K (Itr lo n) H1 ((List.range n).map fun i=>W.int (lo+(i:Nat))) (fun _=>True) where
 go:=fun i H G _ ab st hi=>by show i<n;simpa using hi
 yld:=fun i H G x H' _ ab st hi y=>by
  obtain ⟨rfl,rfl⟩:=y;have hi':i<n:=by simpa using hi
  exact ⟨.int (lo+(i:Nat)),by simp [hi'],.refl,rfl,ab⟩
 stop:=fun i H G _ ab st hi=>by show n<=i;simpa using hi
theorem zja {K:zA} {H1:Hp} {lo:Int} {n:Nat}:ItIs K (Itw lo n) H1 ((List.range n).map fun i=>W.int (lo-(i:Nat))) (fun _=>True) where
 go:=fun i H G _ ab st hi=>by show i<n;simpa using hi
 yld:=fun i H G x H' _ ab st hi y=>by
  obtain ⟨rfl,rfl⟩:=y;have hi':i<n:=by simpa using hi
  exact ⟨.int (lo-(i:Nat)),by simp [hi'],.refl,rfl,ab⟩
 stop:=fun i H G _ ab st hi=>by show n<=i;simpa using hi
theorem vals3 {vs:List V} {a b c:V} {us:List Value} (e:vs=[a,b,c]) (r:zE vs us):∃ x y z,us=[x,y,z]/\zB a x/\zB b y/\zB c z:=by
 subst e
 cases r with
 |cons r1 r=>cases r with
  |cons r2 r=>cases r with
   |cons r3 r=>cases r;exact ⟨_,_,_,rfl,r1,r2,r3⟩
theorem zjk {q:Pr} {A:Around} (hm:q.mg "range" = none):ItE (q.at A) ⟨"range", rg3⟩:=by
 intro X fits gl tg args t qp pos mt hn pa hnil hdb hnm;have hm':X.mg "range" = none:=by rw [fits.mg];exact hm
 intro pins s σ H R I h
 cases args with
 |nil =>
  obtain ⟨σ3,G,hs,ab,h⟩:=h;exact (hnil rfl _ _ _ h).elim
 |cons a r =>
  obtain ⟨s1,s2⟩:=xV (env:=X.env) (pos:=pos) hn;obtain ⟨σ3,G,hs,ab,h⟩:=h
  have h':=uI (S:=fun vs H1=>(∃ j:Int,vs=[.int j]/\inB j/\R (Itr 0 j.toNat) H1)\/(∃ i j:Int,vs=[.int i,.int j]/\inB i/\inB j/\R (Itr i (j-i).toNat) H1)\/∃ i j:Int,vs=[.int i,.int j,.int (-1)]/\inB i/\inB j/\R (Itw i (i-j).toNat) H1) mt hs ab h fun ws G1 vs H1 g1 hs1 rs a1 h=>by
   dsimp only at h;unfold rg3 at h
   split at h
   .rename_i j;obtain ⟨v,rfl,rv⟩:=jN rs;cases (show v=.int j from rv);exact .inl ⟨j,rfl,h.1,h.2 _ H1 g1 a1 zje⟩
   .rename_i i j;obtain ⟨v1,v2,rfl,r1,r2⟩:=tU rs;cases (show v1=.int i from r1);cases (show v2=.int j from r2);exact .inr (.inl ⟨i,j,rfl,h.1,h.2.1,h.2.2 _ H1 g1 a1 zjb⟩)
   .rename_i i j c;obtain ⟨v1,_,rfl,r1,v2,_,rfl,r2,v3,_,rfl,r3,rn⟩:=rs;cases (show _=[] from rn);cases (show v1=.int i from r1);cases (show v2=.int j from r2);cases (show v3=.int c from r3);obtain ⟨rfl,h1,h2,h⟩:=h;exact .inr (.inr ⟨i,j,rfl,h1,h2,h _ H1 g1 a1 zja⟩)
   .exact h.elim
  refine Call_ (qW I gl hm' boot_range (ZP (yG (pa pos pins s σ H _ I h') fun us s1 ⟨vs,H1,I1,r1,q1⟩=>?_) s1 s2));rcases q1 with ⟨j,e,q1,q⟩|⟨i,j,e,q1,q2,q⟩|⟨i,j,e,q1,q2,q⟩
  .subst e;obtain ⟨u,rfl,t,rfl⟩:=jT r1;exact call_range_1 (zan I1 (by omega) (by omega) q1.1 q1.2 (by simpa using q))
  .subst e;obtain ⟨u1,u2,rfl,⟨t1,rfl⟩,t2,rfl⟩:=tX r1;exact call_range_2 (zan I1 q1.1 q1.2 q2.1 q2.2 q)
  .obtain ⟨u1,u2,u3,rfl,⟨t1,rfl⟩,⟨t2,rfl⟩,t3,rfl⟩:=vals3 e r1;exact call_range_3 (by decide) (zaT I1 q1.1 q1.2 q2.1 q2.2 q) (.inl (PyProof.noPylong_small (by decide)))
abbrev mB:It3:=⟨"range", rg3⟩
theorem zgO {q:Pr} {A:Around} (hm:q.mg "range" = none):ItE (q.at A) mB/\mW mB:=⟨zjk hm,zdw⟩
end L3
namespace PySem
open Sem (wp)
section
variable {prog : Program} {w : World} {A : Around} {E : Value → Shared → Prop} {s : Shared}
end
end PySem
namespace PySem
open Sem (wp)
section
variable {prog : Program} {w : World} {A : Around} {E : Value → Shared → Prop} {s : Shared}
end
end PySem
namespace L2
open PySem PySem.Spec PyProof.Rows
section
variable {b : Bool} {e it l : Addr}
end
end L2
namespace L3
open PySem PySem.Spec PyProof.Rows L2 PySem.SeqAt
mutual
def dOf:W->PyData
 | .str x=>.str x
 | .tup ws=>.tuple (dOfs ws)
 |_=>.none
def dOfs:List W->List PyData
 | []=>[]
 |w::ws=>dOf w::dOfs ws
end
mutual
def tt:W->Bool
 | .str _=>true
 | .tup ws=>tts ws
 |_=>false
def tts:List W->Bool
 | []=>true
 |w::ws=>tt w&&tts ws
end
section
variable {X : Cx} {pins : List (Addr × Obj)} {σ : L2.St} {H : Hp} {s : Shared}
end
end L3
namespace L3
open PySem PySem.Spec PyProof.Rows L2
def emM:Scope->Expr->Option (List Expr):=fun _ e=>match e with
 | .Dict [] [] _=>some []
 |_=>none
def emS:RS:=fun ws G Q=>match ws with
 | []=>∀ p,G p=none->Q (.ref p) (put G p (.dic []))
 |_=>False
theorem zeo:xE emS:=by
 intro ws G Q Q' k h;unfold emS at h ⊢
 split at h
 .exact fun p hp=>k _ _ (h p hp)
 .exact h.elim
theorem zg0 {sc:Scope} {e:Expr} {xs:List Expr} (h:emM sc e=some xs):∃ pos,e=.Dict [] [] pos/\xs=[]:=by
 unfold emM at h
 split at h
 .cases h;exact ⟨_,rfl,rfl⟩
 .cases h
theorem sx_em {q:Pr} {A:Around}:SxE (q.at A) ⟨emM,emS⟩:=by
 intro X fits e xs es he each hn pa;obtain ⟨pos,rfl,rfl⟩:=zg0 (sc:=X.env.scope) he
 match es,each with
 | [],each =>
  refine ⟨fun pins s σ H Q I h=>?_,fun _=>rfl,fun _ _ _ z=>nomatch z⟩;obtain ⟨σ3,G,hs,ab,h⟩:=h;have h:∀ p,G p=none->jK X.K H Q (.ref p) (put G p (.dic [])):=h;refine zdK pins s σ H Q I fun p hp=>?_;exact h p (ab.free hp) _ _ (xJ hp) rfl (ab.new hp ⟨[],rfl,rfl⟩)
end L3
namespace K67
open PySem PySem.Spec L2 L3
def top (i:Nat):Stmt:=PySem.Challenge.pw_talkcourt_k67_webs_good_and_spoilt.main.body.getD i (.Pass ⟨0,0,0,0⟩)
def gls:List Str:=["bool", "int", "ValueError", "NoText", "NoBook", "NotLet", "NoMove", "NoPlan", "NoTalker", "NoPaper", "NoWeb", "NoRow", "NoName"]
def mts:List Str:=["pop", "join", "append"]
def its:List Str:=["range", "zip"]
def sxm:List (Scope->Expr->Option (List Expr)):=[lofM "reversed", xfM "world", ssM,emM,trM]
def fns:List Str:=(["max", "len", "all", "list", "isinstance", "sorted", "tuple", "int", "min", "_law_deal", "_law_draw", "_law_names", "_law_web", "is_rising", "goes_on", "is_good_world", "checked_web", "_law_spoilt_names", "_law_spoilt_later", "_law_spoilt"]:List Str)++(["_law_first_bad", "_law_refused", "law"]:List Str)
/- fn: 0 max,1 len,2 all,3 list,4 isinstance,5 sorted,6 tuple,7 int,8 min,9 _law_deal,10 _law_draw,11 _law_names,12 _law_web,13 is_rising,14 goes_on,15 is_good_world,16 checked_web,17 _law_spoilt_names,18 _law_spoilt_later,19 _law_spoilt,20 _law_first_bad,21 _law_refused,22 law -/
abbrev jS:Stmt:=zgB (top 9) 0
def zae:List Str:=["self", "world"]
theorem dN:FnScope zae ["self", "world"] (zZ jS):=⟨rfl,rfl,rfl,by decide +kernel,rfl,by decide +kernel,by decide +kernel⟩
abbrev wF:Stmt:=top 19
def pB:List Str:=["_law_script", "_law_base", "_law_cells", "_law_number", "_law_cell"]
def zbb:ISs:=(.cons (.asg 2 (.lc (.nm 0) ["_law_cell"] [] (.val (.sl (.var 0) (.yes (.var 1)) (.yes (.con (.int 63))))) .no (.call 0 (.cons (.var 0) (.cons (.bin .Sub (.con (.int 0)) (.var 0)) .nil)))))
 (.cons (.asg 3 (.bin .Add (.con (.int 7919)) (.var 1)))
 (.cons (.for (.nm 4) (.val (.var 2)) (.cons (.asg 3 (.bin .Mod (.bin .Add (.bin .Mult (.var 3) (.con (.int 69621))) (.bin .Mod (.var 4) (.con (.int 2147483629)))) (.con (.int 2147483647))))
 .nil))
 (.cons (.ret (.dct ["seed", "number", "left"] (.cons (.var 3) (.cons (.con (.int 0)) (.cons (.spc 0 (.cons (.lc (.nm 0) ["_law_cell"] [] (.val (.var 2)) (.yes (.cmp .GtE (.var 0) (.bin .Pow (.con (.int 10)) (.con (.int 18))))) (.var 0)) .nil)) .nil)))))
 .nil))))
def nW:MC:=⟨zZ wF,pB,(fun _=>true),fns.take 9,gls,mts,its,sxm,[]⟩
theorem zac:FnScope pB ["_law_script", "_law_base"] (zZ wF):=⟨rfl,rfl,rfl,by decide +kernel,rfl,by decide +kernel,by decide +kernel⟩
theorem mF:sM zbb nW (zG wF)=true:=by decide +kernel
abbrev wG:Stmt:=top 20
def pD:List Str:=["_law_deal_here", "_law_many", "_law_number", "_law_one", "_law_other"]
def zba:ISs:=(.cons (.whl (.and (.cmp .Eq (.ix (.var 0) (.con (.str "number"))) (.con (.int 0))) (.cmp .Gt (.call 1 (.cons (.ix (.var 0) (.con (.str "left"))) .nil)) (.con (.int 0)))) (.cons (.asgI (.var 0) (.con (.str "number")) (.mth 0 (.ix (.var 0) (.con (.str "left"))) .nil))
 .nil))
 (.cons (.asg 2 (.ix (.var 0) (.con (.str "number"))))
 (.cons (.ite (.cmp .Gt (.var 2) (.con (.int 0))) (.cons (.asgI (.var 0) (.con (.str "number")) (.bin .FloorDiv (.var 2) (.var 1)))
 (.cons (.ret (.bin .Mod (.var 2) (.var 1)))
 .nil)) .nil)
 (.cons (.asg 3 (.bin .Mod (.bin .Add (.bin .Mult (.ix (.var 0) (.con (.str "seed"))) (.con (.int 48271))) (.con (.int 7919))) (.con (.int 2147483647))))
 (.cons (.asgI (.var 0) (.con (.str "seed")) (.bin .Mod (.bin .Add (.bin .Mult (.var 3) (.con (.int 40692))) (.con (.int 104729))) (.con (.int 2147483399))))
 (.cons (.asg 4 (.bin .Mod (.bin .Mult (.ix (.var 0) (.con (.str "seed"))) (.ix (.var 0) (.con (.str "seed")))) (.con (.int 2147483563))))
 (.cons (.ret (.bin .Mod (.bin .Add (.bin .Mult (.bin .Mod (.bin .Mult (.var 3) (.var 3)) (.con (.int 2147483629))) (.con (.int 2147483563))) (.var 4)) (.var 1)))
 .nil)))))))
def nX:MC:=⟨zZ wG,pD,(fun _=>true),fns.take 10,gls,mts,its,sxm,[]⟩
theorem zab:FnScope pD ["_law_deal_here", "_law_many"] (zZ wG):=⟨rfl,rfl,rfl,by decide +kernel,rfl,by decide +kernel,by decide +kernel⟩
theorem mH:sM zba nX (zG wG)=true:=by decide +kernel
abbrev wV:Stmt:=top 21
def vL:List Str:=["_law_deal_here", "_law_many", "_law_letters", "_law_names_here", "_law_core", "_law_at", "_law_turn", "_law_k", "_law_name"]
def wS:ISs:=(.cons (.asg 2 (.con (.str "abcdefghijklmnopqrstuvwxyz")))
 (.cons (.asg 3 (.lst .nil))
 (.cons (.asg 4 (.mth 1 (.con (.str "")) (.cons (.lc (.nm 0) ["_law_k"] [2,0] (.blt 0 (.cons (.call 10 (.cons (.var 0) (.cons (.con (.int 5)) .nil))) .nil)) .no (.ix (.var 1) (.call 10 (.cons (.var 2) (.cons (.con (.int 26)) .nil))))) .nil)))
 (.cons (.asg 5 (.call 10 (.cons (.var 0) (.cons (.bin .Add (.call 1 (.cons (.var 4) .nil)) (.con (.int 1))) .nil))))
 (.cons (.asg 6 (.call 10 (.cons (.var 0) (.cons (.con (.int 26)) .nil))))
 (.cons (.for (.nm 7) (.blt 0 (.cons (.var 1) .nil)) (.cons (.asg 8 (.bin .Add (.bin .Add (.sl (.var 4) .no (.yes (.var 5))) (.ix (.var 2) (.bin .Mod (.bin .Add (.var 6) (.bin .Mult (.con (.int 7)) (.var 7))) (.con (.int 26))))) (.sl (.var 4) (.yes (.var 5)) .no)))
 (.cons (.ite (.cmp .In (.var 8) (.tup (.cons (.con (.str "and")) (.cons (.con (.str "or")) (.cons (.con (.str "not")) (.cons (.con (.str "then")) .nil)))))) (.cons (.asg 8 (.bin .Add (.var 8) (.con (.str "q"))))
 .nil) .nil)
 (.cons (.ex (.mth 2 (.var 3) (.cons (.var 8) .nil)))
 .nil))))
 (.cons (.ite (.and (.cmp .Gt (.var 1) (.con (.int 1))) (.cmp .Eq (.call 10 (.cons (.var 0) (.cons (.con (.int 2)) .nil))) (.con (.int 1)))) (.cons (.asgI (.var 3) (.con (.int 0)) (.bin .Add (.ix (.var 3) (.con (.int 0))) (.con (.str "z"))))
 .nil) .nil)
 (.cons (.ret (.var 3))
 .nil))))))))
def sC:MC:=⟨zZ wV,vL,(fun _=>true),fns.take 11,gls,mts,its,sxm,[]⟩
theorem dO:FnScope vL ["_law_deal_here", "_law_many"] (zZ wV):=⟨rfl,rfl,rfl,by decide +kernel,rfl,by decide +kernel,by decide +kernel⟩
theorem nU:sM wS sC (zG wV)=true:=by decide +kernel
abbrev jX:Stmt:=top 22
def sP:List Str:=["_law_deal_here", "_law_names_here", "_law_most", "_law_many", "_law_rows", "_law_at", "_law_later", "_law_j", "_law_one", "_law_some"]
def xF:ISs:=(.cons (.asg 3 (.bin .Add (.con (.int 1)) (.call 10 (.cons (.var 0) (.cons (.var 2) .nil)))))
 (.cons (.asg 4 (.spc 3 .nil))
 (.cons (.for (.nm 5) (.blt 0 (.cons (.bin .Sub (.var 3) (.con (.int 1))) (.cons (.neg (.con (.int 1))) (.cons (.neg (.con (.int 1))) .nil)))) (.cons (.asg 6 (.spc 3 .nil))
 (.cons (.for (.nm 7) (.blt 0 (.cons (.bin .Add (.var 5) (.con (.int 1))) (.cons (.var 3) .nil))) (.cons (.ite (.and (.cmp .NotIn (.var 7) (.var 6)) (.cmp .Eq (.call 10 (.cons (.var 0) (.cons (.con (.int 3)) .nil))) (.con (.int 0)))) (.cons (.asgI (.var 6) (.var 7) (.con (.bool true)))
 (.cons (.for (.nm 8) (.val (.ix (.ix (.var 4) (.var 7)) (.con (.int 1)))) (.cons (.asgI (.var 6) (.var 8) (.con (.bool true)))
 .nil))
 .nil)) .nil)
 .nil))
 (.cons (.asg 9 (.lc (.nm 0) ["_law_name"] [0] (.val (.var 1)) (.yes (.cmp .Eq (.call 10 (.cons (.var 1) (.cons (.con (.int 2)) .nil))) (.con (.int 1)))) (.var 0)))
 (.cons (.asg 9 (.lc (.nm 0) ["_law_name"] [4,6] (.val (.var 9)) (.yes (.call 2 (.cons (.lc (.nm 0) ["_law_j"] [0,1] (.val (.var 2)) .no (.cmp .In (.var 1) (.ix (.ix (.var 2) (.var 0)) (.con (.int 0))))) .nil))) (.var 0)))
 (.cons (.asgI (.var 4) (.var 5) (.tup (.cons (.call 6 (.cons (.call 5 (.cons (.var 9) .nil)) .nil)) (.cons (.call 6 (.cons (.call 5 (.cons (.var 6) .nil)) .nil)) .nil))))
 .nil))))))
 (.cons (.ret (.call 6 (.cons (.lc (.nm 0) ["_law_k"] [4] (.blt 0 (.cons (.var 3) .nil)) .no (.ix (.var 1) (.var 0))) .nil)))
 .nil))))
def gB:MC:=⟨zZ jX,sP,(fun _=>true),fns.take 12,gls,mts,its,sxm,[]⟩
theorem zaS:FnScope sP ["_law_deal_here", "_law_names_here", "_law_most"] (zZ jX):=⟨rfl,rfl,rfl,by decide +kernel,rfl,by decide +kernel,by decide +kernel⟩
theorem dD:sM xF gB (zG jX)=true:=by decide +kernel
abbrev wH:Stmt:=top 13
def kR:List Str:=["things"]
def qT:ISs:=(.cons (.ret (.call 2 (.cons (.lc (.tup (.cons (.nm 0) (.cons (.nm 1) .nil))) ["one", "later"] [] (.blt 1 (.cons (.var 0) (.cons (.sl (.var 0) (.yes (.con (.int 1))) .no) .nil))) .no (.cmp .Lt (.var 0) (.var 1))) .nil)))
 .nil)
def nY:MC:=⟨zZ wH,kR,(fun _=>true),fns.take 13,gls,mts,its,sxm,[]⟩
theorem zaa:FnScope kR ["things"] (zZ wH):=⟨rfl,rfl,rfl,by decide +kernel,rfl,by decide +kernel,by decide +kernel⟩
theorem mJ:sM qT nY (zG wH)=true:=by decide +kernel
abbrev jE:Stmt:=top 17
def pG:List Str:=["world", "other", "names", "later"]
def tE:ISs:=(.cons (.asgT (.cons (.nm 2) (.cons (.nm 3) .nil)) (.var 0))
 (.cons (.ret (.and (.call 2 (.cons (.lc (.nm 0) ["name"] [1] (.val (.var 2)) .no (.cmp .In (.var 0) (.ix (.var 1) (.con (.int 0))))) .nil)) (.call 2 (.cons (.lc (.nm 0) ["number"] [3] (.val (.ix (.var 1) (.con (.int 1)))) .no (.cmp .In (.var 0) (.var 1))) .nil))))
 .nil))
def zav:MC:=⟨zZ jE,pG,(fun _=>true),fns.take 14,gls,mts,its,sxm,[]⟩
theorem zbH:FnScope pG ["world", "other"] (zZ jE):=⟨rfl,rfl,rfl,by decide +kernel,rfl,by decide +kernel,by decide +kernel⟩
theorem zah:sM tE zav (zG jE)=true:=by decide +kernel
abbrev xW:Stmt:=top 16
def jC:List Str:=["web", "number", "names", "later"]
def jZ:ISs:=(.cons (.asgT (.cons (.nm 2) (.cons (.nm 3) .nil)) (.ix (.var 0) (.var 1)))
 (.cons (.ite (.or (.not (.call 13 (.cons (.var 2) .nil))) (.not (.call 13 (.cons (.var 3) .nil)))) (.cons (.ret (.con (.bool false)))
 .nil) .nil)
 (.cons (.ret (.call 2 (.cons (.lc (.nm 0) ["other"] [1,0] (.val (.var 3)) .no (.and (.chn .Lt .Lt (.var 1) (.var 0) (.call 1 (.cons (.var 2) .nil))) (.call 14 (.cons (.ix (.var 2) (.var 1)) (.cons (.ix (.var 2) (.var 0)) .nil))))) .nil)))
 .nil)))
def vJ:MC:=⟨zZ xW,jC,(fun _=>true),fns.take 15,gls,mts,its,sxm,[]⟩
theorem rM:FnScope jC ["web", "number"] (zZ xW):=⟨rfl,rfl,rfl,by decide +kernel,rfl,by decide +kernel,by decide +kernel⟩
theorem tM:sM jZ vJ (zG xW)=true:=by decide +kernel
abbrev xC:Stmt:=top 15
def kQ:List Str:=["web", "number"]
def jI:RTs:=(.cons (.ite (.not (.var 0)) (.cons (.rse 0 (.cons (.con (.int 0)) .nil))
 .nil) .nil)
 (.cons (.for (.nm 1) (.blt 0 (.cons (.call 1 (.cons (.var 0) .nil)) .nil)) (.cons (.ite (.not (.call 15 (.cons (.var 0) (.cons (.var 1) .nil)))) (.cons (.rse 0 (.cons (.var 1) .nil))
 .nil) .nil)
 .nil))
 (.cons (.pl (.ret (.con (.bool true))))
 .nil)))
def tY:MX:=⟨[],["NoWeb"],["TalkError"]⟩
def tP:MC:=⟨zZ xC,kQ,(fun _=>true),fns.take 16,gls,mts,its,sxm,[]⟩
theorem mP:FnScope kQ ["web"] (zZ xC):=⟨rfl,rfl,rfl,by decide +kernel,rfl,by decide +kernel,by decide +kernel⟩
theorem rL:mXs tP tY jI (zG xC)=true:=by decide +kernel
abbrev yT:Stmt:=top 24
def wD:List Str:=["_law_deal_here", "_law_names_here", "_law_some", "_law_way", "_law_name"]
def xA:ISs:=(.cons (.asg 3 (.call 10 (.cons (.var 0) (.cons (.con (.int 5)) .nil))))
 (.cons (.asg 4 (.ix (.var 1) (.call 10 (.cons (.var 0) (.cons (.call 1 (.cons (.var 1) .nil)) .nil)))))
 (.cons (.ite (.cmp .Eq (.var 3) (.con (.int 0))) (.cons (.ret (.spc 4 (.cons (.var 2) .nil)))
 .nil) .nil)
 (.cons (.ite (.cmp .Eq (.var 3) (.con (.int 1))) (.cons (.ret (.call 6 (.cons (.call 5 (.cons (.bin .Add (.var 2) (.sl (.var 2) .no (.yes (.con (.int 1))))) .nil)) .nil)))
 .nil) .nil)
 (.cons (.ite (.cmp .Eq (.var 3) (.con (.int 2))) (.cons (.ret (.bin .Add (.tup (.cons (.var 4) .nil)) (.var 2)))
 .nil) .nil)
 (.cons (.ite (.cmp .Eq (.var 3) (.con (.int 3))) (.cons (.ret (.call 6 (.cons (.lc (.nm 0) ["_law_one"] [4] (.val (.var 2)) (.yes (.cmp .NotEq (.var 0) (.var 1))) (.var 0)) .nil)))
 .nil) .nil)
 (.cons (.ret (.call 6 (.cons (.spc 2 (.cons (.bin .Add (.var 2) (.tup (.cons (.var 4) .nil))) .nil)) .nil)))
 .nil)))))))
def jA:MC:=⟨zZ yT,wD,(fun _=>true),fns.take 17,gls,mts,its,sxm,[]⟩
theorem uR:FnScope wD ["_law_deal_here", "_law_names_here", "_law_some"] (zZ yT):=⟨rfl,rfl,rfl,by decide +kernel,rfl,by decide +kernel,by decide +kernel⟩
theorem vX:sM xA jA (zG yT)=true:=by decide +kernel
abbrev yS:Stmt:=top 25
def wC:List Str:=["_law_deal_here", "_law_later", "_law_at", "_law_many", "_law_way", "_law_j"]
def yQ:ISs:=(.cons (.asg 4 (.call 10 (.cons (.var 0) (.cons (.con (.int 7)) .nil))))
 (.cons (.ite (.cmp .Eq (.var 4) (.con (.int 0))) (.cons (.ret (.spc 4 (.cons (.var 1) .nil)))
 .nil) .nil)
 (.cons (.ite (.cmp .Eq (.var 4) (.con (.int 1))) (.cons (.ret (.call 6 (.cons (.call 5 (.cons (.bin .Add (.var 1) (.sl (.var 1) .no (.yes (.con (.int 1))))) .nil)) .nil)))
 .nil) .nil)
 (.cons (.ite (.cmp .Eq (.var 4) (.con (.int 2))) (.cons (.ret (.call 6 (.cons (.call 5 (.cons (.bin .Add (.var 1) (.tup (.cons (.ix (.lst (.cons (.var 2) (.cons (.bin .Sub (.var 2) (.con (.int 1))) (.cons (.neg (.con (.int 1))) (.cons (.var 3) (.cons (.bin .Add (.var 3) (.con (.int 1))) (.cons (.bin .Pow (.con (.int 10)) (.con (.int 20))) .nil))))))) (.call 10 (.cons (.var 0) (.cons (.con (.int 6)) .nil)))) .nil))) .nil)) .nil)))
 .nil) .nil)
 (.cons (.ite (.and (.cmp .Eq (.var 4) (.con (.int 3))) (.cmp .NotEq (.var 1) (.tup .nil))) (.cons (.asg 5 (.call 10 (.cons (.var 0) (.cons (.call 1 (.cons (.var 1) .nil)) .nil))))
 (.cons (.ret (.bin .Add (.sl (.var 1) .no (.yes (.var 5))) (.sl (.var 1) (.yes (.bin .Add (.var 5) (.con (.int 1)))) .no)))
 .nil)) .nil)
 (.cons (.ite (.cmp .Eq (.var 4) (.con (.int 4))) (.cons (.ret (.tup .nil))
 .nil) .nil)
 (.cons (.ret (.call 6 (.cons (.spc 2 (.cons (.bin .Add (.var 1) (.tup (.cons (.call 8 (.cons (.bin .Sub (.var 3) (.con (.int 1))) (.cons (.bin .Add (.bin .Add (.var 2) (.con (.int 1))) (.call 10 (.cons (.var 0) (.cons (.var 3) .nil)))) .nil))) .nil))) .nil)) .nil)))
 .nil)))))))
def qZ:MC:=⟨zZ yS,wC,(fun _=>true),fns.take 18,gls,mts,its,sxm,[]⟩
theorem uQ:FnScope wC ["_law_deal_here", "_law_later", "_law_at", "_law_many"] (zZ yS):=⟨rfl,rfl,rfl,by decide +kernel,rfl,by decide +kernel,by decide +kernel⟩
theorem vW:sM yQ qZ (zG yS)=true:=by decide +kernel
abbrev xB:Stmt:=top 26
def kP:List Str:=["_law_deal_here", "_law_names_here", "_law_web_here", "_law_rows", "_law_turn", "_law_at", "_law_some", "_law_later"]
def jH:ISs:=(.cons (.asg 3 (.call 3 (.cons (.var 2) .nil)))
 (.cons (.for (.nm 4) (.blt 0 (.cons (.bin .Add (.con (.int 1)) (.call 10 (.cons (.var 0) (.cons (.con (.int 2)) .nil)))) .nil)) (.cons (.asg 5 (.call 10 (.cons (.var 0) (.cons (.call 1 (.cons (.var 3) .nil)) .nil))))
 (.cons (.asgT (.cons (.nm 6) (.cons (.nm 7) .nil)) (.ix (.var 3) (.var 5)))
 (.cons (.ite (.cmp .Eq (.call 10 (.cons (.var 0) (.cons (.con (.int 2)) .nil))) (.con (.int 0))) (.cons (.asg 6 (.call 17 (.cons (.var 0) (.cons (.var 1) (.cons (.var 6) .nil)))))
 .nil) (.cons (.asg 7 (.call 18 (.cons (.var 0) (.cons (.var 7) (.cons (.var 5) (.cons (.call 1 (.cons (.var 3) .nil)) .nil))))))
 .nil))
 (.cons (.asgI (.var 3) (.var 5) (.tup (.cons (.var 6) (.cons (.var 7) .nil))))
 .nil)))))
 (.cons (.ret (.call 6 (.cons (.var 3) .nil)))
 .nil)))
def tO:MC:=⟨zZ xB,kP,(fun _=>true),fns.take 19,gls,mts,its,sxm,[]⟩
theorem mM:FnScope kP ["_law_deal_here", "_law_names_here", "_law_web_here"] (zZ xB):=⟨rfl,rfl,rfl,by decide +kernel,rfl,by decide +kernel,by decide +kernel⟩
theorem rK:sM jH tO (zG xB)=true:=by decide +kernel
abbrev yE:Stmt:=top 23
def jR:List Str:=["_law_web_here", "_law_k", "_law_names_here", "_law_later", "_law_j"]
def wI:ISs:=(.cons (.ite (.cmp .Eq (.var 0) (.tup .nil)) (.cons (.ret (.con (.int 0)))
 .nil) .nil)
 (.cons (.for (.nm 1) (.blt 0 (.cons (.call 1 (.cons (.var 0) .nil)) .nil)) (.cons (.asgT (.cons (.nm 2) (.cons (.nm 3) .nil)) (.ix (.var 0) (.var 1)))
 (.cons (.ite (.or (.cmp .NotEq (.call 3 (.cons (.var 2) .nil)) (.spc 2 (.cons (.var 2) .nil))) (.cmp .NotEq (.call 3 (.cons (.var 3) .nil)) (.spc 2 (.cons (.var 3) .nil)))) (.cons (.ret (.var 1))
 .nil) .nil)
 (.cons (.ite (.cmp .NotEq (.lc (.nm 0) ["_law_j"] [1,0] (.val (.var 3)) (.yes (.not (.chn .Lt .Lt (.var 1) (.var 0) (.call 1 (.cons (.var 2) .nil))))) (.var 0)) (.lst .nil)) (.cons (.ret (.var 1))
 .nil) .nil)
 (.cons (.for (.nm 4) (.val (.var 3)) (.cons (.ite (.cmp .NotEq (.bin .Add (.lc (.nm 0) ["_law_one"] [3] (.val (.ix (.ix (.var 0) (.var 4)) (.con (.int 1)))) (.yes (.cmp .NotIn (.var 0) (.var 1))) (.var 0)) (.lc (.nm 0) ["_law_one"] [0,4] (.val (.var 2)) (.yes (.cmp .NotIn (.var 0) (.ix (.ix (.var 1) (.var 2)) (.con (.int 0))))) (.var 0))) (.lst .nil)) (.cons (.ret (.var 1))
 .nil) .nil)
 .nil))
 .nil)))))
 (.cons (.ret (.con .none))
 .nil)))
def kE:MC:=⟨zZ yE,jR,(fun _=>true),fns.take 20,gls,mts,its,sxm,[]⟩
theorem sV:FnScope jR ["_law_web_here"] (zZ yE):=⟨rfl,rfl,rfl,by decide +kernel,rfl,by decide +kernel,by decide +kernel⟩
theorem uG:sM wI kE (zG yE)=true:=by decide +kernel
abbrev xH:Stmt:=top 27
def qJ:List Str:=["_law_web_here", "_law_caught", "_law_told", "e"]
def jV:RTs:=(.cons (.pl (.asg 1 (.con .none)))
 (.cons (.pl (.asg 2 (.con .none)))
 (.cons (.try 3 1 0 (.cons (.asx 2 0 (.cons (.var 0) .nil))
 .nil))
 (.cons (.pl (.ite (.cmp .Is (.var 1) (.con .none)) (.cons (.ret (.ix (.lst (.cons (.con (.str "other")) (.cons (.con (.str "good")) .nil))) (.call 7 (.cons (.cmp .Is (.var 2) (.con (.bool true))) .nil))))
 .nil) .nil))
 (.cons (.pl (.ite (.call 4 (.cons (.var 1) (.cons (.tup (.cons (.glb 3) (.cons (.glb 4) (.cons (.glb 5) (.cons (.glb 6) (.cons (.glb 7) .nil)))))) .nil))) (.cons (.ret (.con (.str "other")))
 .nil) .nil))
 (.cons (.pl (.ite (.or (.call 4 (.cons (.var 1) (.cons (.tup (.cons (.glb 8) (.cons (.glb 9) (.cons (.glb 11) (.cons (.glb 12) .nil))))) .nil))) (.not (.call 4 (.cons (.var 1) (.cons (.glb 2) .nil))))) (.cons (.ret (.con (.str "other")))
 .nil) .nil))
 (.cons (.pl (.ite (.or (.not (.call 4 (.cons (.var 1) (.cons (.glb 10) .nil)))) (.or (.not (.call 4 (.cons (.spc 1 (.cons (.var 1) .nil)) (.cons (.glb 1) .nil)))) (.call 4 (.cons (.spc 1 (.cons (.var 1) .nil)) (.cons (.glb 0) .nil))))) (.cons (.ret (.con (.str "other")))
 .nil) .nil))
 (.cons (.pl (.ret (.spc 1 (.cons (.var 1) .nil))))
 .nil))))))))
def uO:MX:=⟨["checked_web"],["NoWeb"],["TalkError"]⟩
def uL:MC:=⟨zZ xH,qJ,(fun _=>true),fns.take 21,gls,mts,its,sxm,[]⟩
theorem pL:FnScope qJ ["_law_web_here"] (zZ xH):=⟨rfl,rfl,rfl,by decide +kernel,rfl,by decide +kernel,by decide +kernel⟩
theorem sK:mXs uL uO jV (zG xH)=true:=by decide +kernel
abbrev slaw:Stmt:=top 28
def nlaw:List Str:=["_law_script", "_law_deal_here", "_law_names_here", "_law_web_here", "_law_turn", "_law_wrong", "_law_due"]
def blaw:ISs:=(.cons (.asg 1 (.call 9 (.cons (.var 0) (.cons (.con (.int 0)) .nil))))
 (.cons (.asg 2 (.call 11 (.cons (.var 1) (.cons (.bin .Add (.con (.int 1)) (.call 10 (.cons (.var 1) (.cons (.con (.int 5)) .nil)))) .nil))))
 (.cons (.asg 3 (.call 12 (.cons (.var 1) (.cons (.var 2) (.cons (.con (.int 12)) .nil)))))
 (.cons (.ite (.cmp .IsNot (.call 16 (.cons (.var 3) .nil)) (.con (.bool true))) (.cons (.ret (.con (.bool false)))
 .nil) .nil)
 (.cons (.for (.nm 4) (.blt 0 (.cons (.con (.int 4)) .nil)) (.cons (.asg 5 (.call 19 (.cons (.var 1) (.cons (.var 2) (.cons (.var 3) .nil)))))
 (.cons (.asg 6 (.call 20 (.cons (.var 5) .nil)))
 (.cons (.ite (.cmp .Is (.var 6) (.con .none)) (.cons (.asg 6 (.con (.str "good")))
 .nil) .nil)
 (.cons (.ite (.or (.cmp .NotEq (.call 21 (.cons (.var 5) .nil)) (.var 6)) (.cmp .NotEq (.call 21 (.cons (.var 5) .nil)) (.var 6))) (.cons (.ret (.con (.bool false)))
 .nil) .nil)
 .nil)))))
 (.cons (.ret (.and (.cmp .Eq (.call 21 (.cons (.tup .nil) .nil)) (.con (.int 0))) (.cmp .Is (.call 16 (.cons (.var 3) .nil)) (.con (.bool true)))))
 .nil))))))
def mlaw:MC:=⟨zZ slaw,nlaw,(fun _=>true),fns.take 22,gls,mts,its,sxm,[]⟩
theorem sclaw:FnScope nlaw ["_law_script"] (zZ slaw):=⟨rfl,rfl,rfl,by decide +kernel,rfl,by decide +kernel,by decide +kernel⟩
theorem zgh:sM blaw mlaw (zG slaw)=true:=by decide +kernel
end K67
namespace K67
open PySem PySem.Spec PyProof.Rows L2 L3
open PySem.W (nsIn keepIn codeIn mg_of findIn mg_none_of fnOf)
abbrev eApp:Mt3:=⟨"append", "list", cA⟩
theorem zgX {q:Pr} {A:Around}:MtE (q.at A) eApp/\bV eApp:=⟨zb5 PySem.F.plainAttrs_list PySem.F.slot_list_append PySem.F.type_list_append (fun X f=>zjL) fC,fC⟩
def tW:RS:=fun ws G Q=>match ws with
 | [x]=>(match xO G x with|some xs=>Q (.tup xs) G|none=>False)
 |_=>False
theorem gW:xE tW:=by
 intro ws G Q Q' k h;unfold tW at h ⊢
 split at h
 .split at h
  .exact k _ _ h
  .exact h.elim
 .exact h.elim
theorem zht {X:Cx}:xD X (.type "tuple") (qQ X.K tW):=by
 intro pins s σ H xs us Q I r h;obtain ⟨ws,G,rs,ab,h⟩:=h;unfold tW at h
 split at h
 .rename_i w;obtain ⟨v,rfl,rv⟩:=jN rs
  split at h
  .rename_i ys hy;obtain ⟨a,vs,b,rfl,sq,rr⟩:=zbE ab rv hy;refine hW pins s σ H _ us Q I r ⟨a,vs,rfl,?_⟩;cases b
   .exact .inl ⟨sq,uX ab rr h⟩
   .exact .inr ⟨sq,h _ _ .refl ⟨a,vs,rfl,sq,rr⟩ ab⟩
  .exact h.elim
 .exact h.elim
abbrev eTup:Fn3:=⟨"tuple", fun ws G Q _=>tW ws G Q⟩
theorem zgN {q:Pr} {A:Around} (hm:q.mg "tuple" = none):qS (q.at A) eTup:=⟨zgH hm (by decide +kernel) (fun X f=>zht) gW (fun _ _ h=>h),fun ws G Q Q' _ k h=>gW ws G Q Q' k h⟩
def noN:List Str:=["and", "or", "not", "then"]
def ltB (c:Nat):Bool:=decide (97<=c)&&decide (c<=122)
def wP (x:Str):Bool:=x.cps.toList.all ltB
structure Wd where
 ns:List Str
 ls:List Nat
def tT (l:List Nat):List W:=l.map fun n:Nat=>.int (n:Int)
def Wd.w (v:Wd):W:=.tup [.tup (v.ns.map .str),.tup (tT v.ls)]
def webW (web:List Wd):W:=.tup (web.map Wd.w)
structure WOk (web:List Wd):Prop where
 few:web.length<=12
 one:1<=web.length
 inw:∀ v∈web,∀ j∈v.ls,j<web.length
 nl:∀ v∈web,v.ns.length<=5
 ll:∀ v∈web,v.ls.length<=12
def Good (web:List Wd):Prop:=∀ (k:Nat) (v:Wd),web[k]?=some v->∀ j∈v.ls,k<j/\∃ u,web[j]?=some u/\(∀ x∈v.ns,x∈u.ns)/\∀ i∈u.ls,i∈v.ls
structure Wi where
 ns:List Str
 ls:List Int
def Wi.w (v:Wi):W:=.tup [.tup (v.ns.map .str),.tup (v.ls.map .int)]
def wA (web:List Wi):W:=.tup (web.map Wi.w)
def Wd.i (v:Wd):Wi:=⟨v.ns,v.ls.map fun n:Nat=>(n:Int)⟩
structure IOk (b c:Nat) (web:List Wi):Prop where
 few:web.length<=12
 nl:∀ v∈web,v.ns.length<=b
 ll:∀ v∈web,v.ls.length<=c
def ups (l:List Str):Bool:=(List.zipWith ltS l (l.drop 1)).all id
def upi (l:List Int):Bool:=(List.zipWith (fun a b=>decide (a<b)) l (l.drop 1)).all id
def onB (v u:Wi):Bool:=(v.ns.all fun x=>u.ns.contains x)&&u.ls.all fun j=>v.ls.contains j
def xL (web:List Wi) (j:Int):Wi:=(web[j.toNat]?).getD ⟨[],[]⟩
def kZ (web:List Wi) (k:Nat):Bool:=(ups (xL web k).ns&&upi (xL web k).ls)&&(xL web k).ls.all fun j=>decide ((k:Int)<j)&&decide (j<web.length)&&onB (xL web k) (xL web j)
def fb (web:List Wi):Option Nat:=(List.range web.length).find? fun k=>!kZ web k
def chk (web:List Wi):Option Int:=if web.isEmpty=true then some 0 else (fb web).map fun k:Nat=>(k:Int)
def zfd (web:List Wd):Prop:=∀ v∈web,ups v.ns=true/\upi (v.ls.map fun n:Nat=>(n:Int))=true
def Fr (ws:List W) (G:Hw) (Q:Q3):Prop:=∀ r G',zV [] G G'->G r=none->G' r=some (.lst ws)->Q (.ref r) G'
theorem Fr.mono {ws:List W} {G:Hw} {Q Q':Q3} (k:∀ w G',Q w G'->Q' w G') (h:Fr ws G Q):Fr ws G Q':=fun r G' a b c=>k _ _ (h r G' a b c)
structure Cl (K:zA) (C:Nat->Addr):Prop where
 xk:L3.XK K
 xc:PySem.W.XC K (C 7)
 one:PySem.W.kitOne K (.ref (C 7)) (.ref (C 7))=some true
 any1:PySem.W.kitAny K (.ref (C 7)) [.ref (C 0),.ref (C 1),.ref (C 2),.ref (C 3),.ref (C 4)]=some false
 any2:PySem.W.kitAny K (.ref (C 7)) [.ref (C 5),.ref (C 6),.ref (C 8),.ref (C 9)]=some false
 val:PySem.W.kitOne K (.ref (C 7)) (.type "ValueError")=some true
 hd:PySem.W.hasDictIn K (C 7)=true
 wld:findIn K (.ref (C 7)) "world" = some none
 ii:PySem.W.kitOne K (.type "int") (.type "int")=some true
 ib:PySem.W.kitOne K (.type "int") (.type "bool")=some false
def rD:mU:=fun ws G Q _=>∃ (d l:Addr) (m:Int),ws=[.ref d,.int m]/\xQ G d l/\1<=m/\m<=5/\∀ (r:Addr) (xs:List Str) G',xs.length=m.toNat->xs.Nodup->r∉[d,l]->G' r=some (.lst (xs.map .str))->zV [d,l] G G'->xQ G' d l->Q (.ref r) G'
def zdk:mU:=fun ws G Q _=>∃ (d l r:Addr) (m:Int) (xs:List Str),ws=[.ref d,.ref r,.int m]/\xQ G d l/\r∉[d,l]/\G r=some (.lst (xs.map .str))/\xs.length<=5/\xs.Nodup/\1<=m/\m<=12/\∀ (web:List Wd) G',WOk web->Good web->zfd web->zV [d,l] G G'->xQ G' d l->Q (webW web) G'
def dU:mU:=fun ws G Q _=>(∃ ns:List Str,ws=[.tup (ns.map .str)]/\ns.length<=100/\∀ G',zV [] G G'->Q (.bl (ups ns)) G')\/∃ ls:List Int,ws=[.tup (ls.map .int)]/\ls.length<=100/\∀ G',zV [] G G'->Q (.bl (upi ls)) G'
def spOn:mU:=fun ws G Q _=>∃ v u:Wi,ws=[v.w,u.w]/\(v.ns.length<=100/\v.ls.length<=100/\u.ns.length<=100/\u.ls.length<=100)/\∀ G',zV [] G G'->Q (.bl (onB v u)) G'
def dS:mU:=fun ws G Q _=>∃ (web:List Wi) (k:Nat),ws=[wA web,.int k]/\IOk 100 100 web/\k<web.length/\∀ G',zV [] G G'->Q (.bl (kZ web k)) G'
def qI (C:Nat->Addr):SpX:=fun ws G Q E=>∃ web:List Wi,ws=[wA web]/\IOk 100 100 web/\∀ G',zV [] G G'->match chk web with
 |some k=>E (.exc (C 7) ["world"] [.int k]) G'
 |none=>Q (.bl true) G'
def spSn:mU:=fun ws G Q _=>∃ (d l r:Addr) (xs ss:List Str),ws=[.ref d,.ref r,.tup (ss.map .str)]/\xQ G d l/\r∉[d,l]/\G r=some (.lst (xs.map .str))/\xs≠[]/\xs.length<=5/\ss.length<=20/\∀ (ss':List Str) G',ss'.length<=ss.length+1->zV [d,l] G G'->xQ G' d l->Q (.tup (ss'.map .str)) G'
def spSl:mU:=fun ws G Q _=>∃ (d l:Addr) (ls:List Int) (a m:Int),ws=[.ref d,.tup (ls.map .int),.int a,.int m]/\xQ G d l/\ls.length<=20/\0<=a/\a<m/\m<=12/\∀ (ls':List Int) G',ls'.length<=ls.length+1->zV [d,l] G G'->xQ G' d l->Q (.tup (ls'.map .int)) G'
def spSp:mU:=fun ws G Q _=>∃ (d l r:Addr) (xs:List Str) (web:List Wi),ws=[.ref d,.ref r,wA web]/\xQ G d l/\r∉[d,l]/\G r=some (.lst (xs.map .str))/\xs≠[]/\xs.length<=5/\IOk 5 12 web/\1<=web.length/\∀ (web':List Wi) G',IOk 7 14 web'->zV [d,l] G G'->xQ G' d l->Q (wA web') G'
def spFb:mU:=fun ws G Q _=>∃ web:List Wi,ws=[wA web]/\IOk 20 20 web/\∀ G',zV [] G G'->Q (match chk web with|some k=>.int k|none=>.non) G'
def zdl:mU:=fun ws G Q _=>∃ web:List Wi,ws=[wA web]/\IOk 100 100 web/\∀ G',zV [] G G'->Q (match chk web with|some k=>.int k|none=>.str "good") G'
section
variable (K : zA) (C : Nat → Addr)
def fnL:List Fn3:=[eMax,hZ,eAll,eLst,eIsx K,zcF,eTup,eInt,eMin,zjA,tI,⟨"_law_names", rD⟩,⟨"_law_web", zdk⟩,⟨"is_rising", dU⟩,⟨"goes_on", spOn⟩,⟨"is_good_world", dS⟩,⟨"checked_web", fun ws G Q _=>qI C ws G Q fun _ _=>False⟩,⟨"_law_spoilt_names", spSn⟩,⟨"_law_spoilt_later", spSl⟩,⟨"_law_spoilt", spSp⟩,⟨"_law_first_bad", spFb⟩,⟨"_law_refused", zdl⟩]
def GamL (l:List Fn3):Ctx3:=⟨l,[("bool", .ty "bool"),("int", .ty "int"),("ValueError", .ty "ValueError"),("NoText", .ref (C 0)),("NoBook", .ref (C 1)),("NotLet", .ref (C 2)),("NoMove", .ref (C 3)),("NoPlan", .ref (C 4)),("NoTalker", .ref (C 5)),("NoPaper", .ref (C 6)),("NoWeb", .ref (C 7)),("NoRow", .ref (C 8)),("NoName", .ref (C 9))],
 [ePop,zep,eApp],[mB,eZpi],[],[eRev,⟨xfM "world", xfS K "world"⟩,⟨ssM,ss2⟩,⟨emM,emS⟩,⟨trM,trS⟩],[]⟩
def yI (n:Nat):Ctx3:=GamL K C ((fnL K C).take n)
def hG (l:List Fx3) (T:Addr):CtxX:=⟨l,[⟨"NoWeb", C 7,some "world"⟩],[⟨"TalkError", T,[C 7]⟩]⟩
end
theorem at_0 {a:W} {l:List W}:rR (a::l) 0=some a:=by
 unfold rR;have:cZ (a::l).length 0=some 0:=by simp [cZ]
 rw [this];rfl
theorem at_1 {a b:W} {l:List W}:rR (a::b::l) 1=some b:=by
 unfold rR;have:cZ (a::b::l).length 1=some 1:=by simp [cZ];omega
 rw [this];rfl
theorem sz (n:Nat) (h:n<=3000):n<=sizeLine:=by rw [ZD];omega
theorem gZ {α:Type} {a:α} {l:List α}:(a::l)[0]?=some a:=rfl
theorem gS {α:Type} {a:α} {l:List α} {i:Nat}:(a::l)[i+1]?=l[i]?:=rfl
theorem tZ {α:Type} {a b:α} {l:List α}:(a::l).set 0 b=b::l:=rfl
theorem tS {α:Type} {a b:α} {l:List α} {i:Nat}:(a::l).set (i+1) b=a::l.set i b:=rfl
theorem xY {Γ:Ctx3} {E:XQ} {s:IS} {ss:ISs} {D:End3} {σ:wK} {G:Hw} (h:zO Γ E s { D with nx:=yW Γ E ss D } σ G):yW Γ E (.cons s ss) D σ G:=h
theorem vQ {Γ:Ctx3} {E:XQ} {D:End3} {σ:wK} {G:Hw} (h:D.nx σ G):yW Γ E .nil D σ G:=h
theorem tyL {G:Hw} {o:Addr} {l:List W} (e:G o=some (.lst l)):tyW G (.ref o) "list" := by simp only [tyW,e]
theorem appL {G:Hw} {o:Addr} {l:List W} {y:W} {Q:Q3} (e:G o=some (.lst l)) (hl:l.length<1000) (h:Q .non (put G o (.lst (l++[y])))):cA (.ref o) [y] G Q:=by
 simp only [cA,e];exact ⟨by rw [ZD];omega,h⟩
theorem ixL {G:Hw} {t:Addr} {xs:List W} {i:Int} {Q:Q3} (e:yV G t=some xs) (h:match rR xs i with|some w=>Q w G|none=>False):rX (.ref t) (.int i) G Q:=by
 unfold yV at e
 split at e
 .rename_i q;cases e;simp only [rX,q];exact h
 .rename_i q;cases e;simp only [rX,q];exact h
 .cases e
theorem uU {S:List Addr} {G G':Hw} {d l:Addr} (k:zV S G G') (hd:d∉S) (hl:l∉S) (D:xQ G d l):xQ G' d l:=by
 obtain ⟨x,y,z,D⟩:=D;exact ⟨x,y,z,k _ _ hd D.dic,k _ _ hl D.lst,D.s0,D.s1,D.n0,D.lf,D.len,D.ne⟩
theorem xG {G:Hw} {d l p:Addr} {o:O} (h:G p=none) (D:xQ G d l):xQ (put G p o) d l:=uU (S:=[]) (zV.new h) (by simp) (by simp) D
theorem fL {G G':Hw} {d l:Addr} (k:zV [] G G') (D:xQ G d l):xQ G' d l:=uU k (by simp) (by simp) D
theorem zdZ {S:List Addr} {G G':Hw} (k:zV [] G G'):zV S G G':=fun a u _ e=>k a u (by simp) e
theorem sS {G:Hw} {d l p:Addr} (D:xQ G d l) (h:G p=none):p∉[d,l]:=by
 obtain ⟨_,_,_,D⟩:=D;simp only [Zk,Zt,or_false,not_or];exact ⟨fun e=>(by rw [e,D.dic] at h;cases h),fun e=>(by rw [e,D.lst] at h;cases h)⟩
theorem dA {S:List Addr} {G G':Hw} {p:Addr} {o:O} (k:zV S G G') (h:G p=none):zV S G (put G' p o):=fun a u ha e=>by
 rw [yD (fO e h)];exact k a u ha e
theorem uT {G:Hw} {d l p:Addr} {o:O} (h:p∉[d,l]) (D:xQ G d l):xQ (put G p o) d l:=by
 simp only [Zk,Zt,or_false,not_or] at h;exact uU (S:=[p]) (zV.put (by simp)) (by simpa using Ne.symm h.1) (by simpa using Ne.symm h.2) D
theorem addS {a b:Str} {G:Hw} {Q:Q3} (h:a.length+b.length<=3000) (q:Q (.str (a++b)) G):jO .Add (.str a) (.str b) G Q:=⟨sz _ h,q⟩
def tl:ISs->ISs
 | .cons _ ss=>ss
 | .nil=>.nil
theorem cT {G:Hw} {a b:Str}:bS G (.str a) (.str b)=some (a==b):=by simp [bS,uP,nG,vV]
section
variable {K : zA} {C : Nat → Addr}
theorem fnAt {n:Nat} (i:Nat) (hi:i<n) {e:Fn3} (h:(fnL K C)[i]?=some e):(yI K C n).fn[i]?=some e:=by
 show ((fnL K C).take n)[i]?=_;rw [List.getElem?_take_of_lt hi];exact h
theorem qM {n m:Nat} (i:Nat) (hn:m<=n) {e:Fn3} (h:(fnL K C)[i]?=some e) (hi:i<m:=by decide):(yI K C n).fn[i]?=some e:=fnAt i (Zi hi hn) h
end
theorem zdV {items:List W} {stab:Hw->Prop} {G:Hw} {turn:W->Hw->(Option W->Hw->Prop)->Prop} {Q:Q3} (g:Nat->Option W) (hl:items.length<=3000) (st:∀ G',zV [] G G'->stab G')
  (step:∀ i w G' (k:Option W->Hw->Prop),items[i]?=some w->zV [] G G'->(∀ G'',zV [] G G''->k (g i) G'')->turn w G' k)
  (fin:∀ G' r,zV [] G G'->G' r=none->Q (.ref r) (put G' r (.lst ((List.range items.length).filterMap g)))):lcR items stab G turn Q:=by
 refine ⟨fun i acc G'=>zV [] G G'/\acc=(List.range i).filterMap g,⟨zV.refl,rfl⟩,?_,sz _ hl,?_,?_⟩
 .rintro i acc G' ⟨k,rfl⟩ _;exact ⟨st G' k,Zy (List.length_filterMap_le _ _) (Zcp Zae)⟩
 .rintro i w acc G' hw ⟨k,rfl⟩;refine step i w G' _ hw k fun G'' k'=>?_
  have e:(List.range (i+1)).filterMap g=(List.range i).filterMap g++(g i).toList:=by
   rw [List.range_succ,ZbE];cases h:g i<;>simp [h]
  cases hg:g i with
  |some x=>exact ⟨k',by rw [e,hg];rfl⟩
  |none=>exact ⟨k',by rw [e,hg];simp⟩
 .rintro acc G' ⟨k,rfl⟩ r hr;exact fin G' r k hr
theorem zcy {f:Nat->W} {n:Nat}:(List.range n).filterMap (fun i=>some (f i))=(List.range n).map f:=by
 show List.filterMap (some ∘ f) _=_;rw [List.filterMap_eq_map]
theorem ziQ {α β:Type} (f:α->β) (d:α) (l:List α):(List.range l.length).map (fun i=>f (l.getD i d))=l.map f:=by
 apply List.ext_getElem?;intro i
 by_cases hi:i<l.length
 .simp [hi,List.getD]
 .simp [hi]
theorem atN {l:List W} {i:Nat} {w:W} (h:l[i]?=some w):rR l ((i:Nat):Int)=some w:=by
 have hi:=(Zg.mp h).1;unfold rR cZ;rw [if_pos (by omega),if_pos (by omega)];exact h
theorem gD {α:Type} {l:List α} {i:Nat} {d x:α} (h:l[i]?=some x):l.getD i d=x:=by simp [List.getD,h]
theorem vN:∀ ns:List Str,wU (ns.map W.str)=true
 | []=>rfl
 |x::ns=>by simp [wU,uP,vN ns]
theorem nI:∀ ns:List Str,qP (ns.map W.str)=0
 | []=>rfl
 |x::ns=>by simp [qP,nG,nI ns]
theorem zhf {ns:List Str} {x:Str}:((ns.map W.str).any fun w=>vV w (.str x))=ns.contains x:=by
 rw [ZbU,Zbk];congr 1
 funext y
 simp only [Function.comp,vV];exact ZcA
theorem inS {x:Str} {ns:List Str} {G:Hw} {Q:Q3} {neg:Bool} (h:Q (.bl (if neg then !ns.contains x else ns.contains x)) G):L3.inR neg (.str x) (ns.map .str) G Q:=by
 refine ⟨⟨by simp [uP],vN ns,by rw [nI];simp⟩,?_⟩;rw [zhf];exact h
theorem cut_1 {x:W} {r:List W}:tH (x::r) (some 1) none=r:=by
 have e1:HT.wY (x::r).length 0 (some 1)=1:=by
  simp [HT.wY]
 have e2:HT.wY (x::r).length (x::r).length none=r.length+1:=by
  simp [HT.wY]
 unfold tH;rw [e1,e2];simp
theorem ix0 {a:W} {l:List W} {G:Hw} {Q:Q3}:rX (.tup (a::l)) (.int 0) G Q=Q a G:=by simp only [rX,at_0]
theorem ix1 {a b:W} {l:List W} {G:Hw} {Q:Q3}:rX (.tup (a::b::l)) (.int 1) G Q=Q b G:=by simp only [rX,at_1]
def hdS:ISs->IS
 | .cons s _=>s
 | .nil=>.pass
theorem jD:∀ ns:List Int,wU (ns.map W.int)=true
 | []=>rfl
 |x::ns=>by simp [wU,uP,jD ns]
theorem nH:∀ ns:List Int,qP (ns.map W.int)=0
 | []=>rfl
 |x::ns=>by simp [qP,nG,nH ns]
theorem zhg {ns:List Int} {x:Int}:((ns.map W.int).any fun w=>vV w (.int x))=ns.contains x:=by
 rw [ZbU,Zbk];congr 1
 funext y
 simp only [Function.comp,vV];exact ZcA
theorem inI {x:Int} {ns:List Int} {G:Hw} {Q:Q3} {neg:Bool} (h:Q (.bl (if neg then !ns.contains x else ns.contains x)) G):L3.inR neg (.int x) (ns.map .int) G Q:=by
 refine ⟨⟨by simp [uP],jD ns,by rw [nH];simp⟩,?_⟩;rw [zhg];exact h
theorem cut_d {l:List W}:tH l (some 1) none=l.drop 1:=by
 cases l with
 |nil=>rfl
 |cons x r=>rw [cut_1];rfl
theorem rW {ws:List W} {G:Hw} {R:List W->(Hw->Prop)->Hw->Prop} (h:R ws (fun _=>True) G):qA (.tup ws) G R:=h
theorem dB {α:Type} {items:List W} {stab:Hw->Prop} {G:Hw} {turn:W->Hw->(Option W->Hw->Prop)->Prop} {Q:Q3} (l:List α) (c:α->W) (f:α->Bool) (hi:items=l.map c) (hl:l.length<=3000) (st:∀ G',zV [] G G'->stab G')
  (step:∀ x∈l,∀ G' (k:Option W->Hw->Prop),zV [] G G'->(∀ G'',zV [] G G''->k (some (.bl (f x))) G'')->turn (c x) G' k)
  (fin:∀ G' r,zV [] G G'->G' r=none->Q (.ref r) (put G' r (.lst ((l.map f).map .bl)))):lcR items stab G turn Q:=by
 subst hi
 have e:(List.range (l.map c).length).filterMap (fun i=>(l[i]?).map fun x=>W.bl (f x))=(l.map f).map .bl:=by
  rw [zzM,Zaf]
  have:(fun i:Nat=>(l[i]?).map fun x=>W.bl (f x))=fun i=>(l.map (W.bl ∘ f))[i]?:=by
   funext i;rw [Zj];rfl
  rw [this];have:=List.filterMap_getElem?_range_length (l.map (W.bl ∘ f))
  rwa [zzM] at this
 refine zdV (fun i=>(l[i]?).map fun x=>W.bl (f x)) (by rw [zzM];exact hl) st (fun i w G' k hw kp hk=>?_) (fun G' r kp hr=>by rw [e];exact fin G' r kp hr);rw [Zj] at hw;obtain ⟨x,hx,rfl⟩:=Zq.mp hw;rw [hx] at hk;exact step x (Zv hx) G' k kp hk
section
variable {K : zA} {C : Nat → Addr}
theorem zdv {n:Nat} (hn:13<=n) {ws:List W} {G:Hw} {Q:Q3} (h:dU ws G Q XN):yW (yI K C n) XN qT { nx:=fun _ G'=>Q .non G',rt:=Q } (xX kR ws) G:=by
 have e2:(yI K C n).fn[2]?=some eAll:=qM 2 hn rfl;have i1:(yI K C n).it[1]?=some eZpi:=rfl
 have key:∀ {α:Type} (l:List α) (c:α->W) (lt:α->α->Bool),l.length<=100->ws=[.tup (l.map c)]->(∀ x y G' (Q:Q3),Q (.bl (lt x y)) G'->yL .Lt (c x) (c y) G' Q)->(∀ G',zV [] G G'->Q (.bl ((List.zipWith lt l (l.drop 1)).all id)) G') ->
   yW (yI K C n) XN qT { nx:=fun _ G'=>Q .non G',rt:=Q } (xX kR ws) G:=by
  intro α l c lt hl hw hlt hq;subst hw;show yW (yI K C n) XN qT { nx:=fun _ G'=>Q .non G',rt:=Q } [some (.tup (l.map c))] G;simp only [qT];refine xY ?_
  ((try dsimp only [zO,zQ,zL,zD,yX,yP,yN,zM,zU,zK,zT,zY,zP,zN,zH,zJ,yU,zI,gZ,gS,tZ,tS]);try simp only [e2,i1])
  simp only [slR,cut_d];have ez:(l.zip (l.drop 1)).map (fun p=>lt p.1 p.2)=List.zipWith lt l (l.drop 1):=by rw [List.zip,List.map_zipWith]
  refine ⟨l.map c,(l.map c).drop 1,rfl,rfl,dB (l.zip (l.drop 1)) (fun p=>.tup [c p.1,c p.2]) (fun p=>lt p.1 p.2) ?_ (by rw [List.length_zip];omega) (fun _ _=>⟨rfl,rfl⟩) ?_ ?_⟩
  .rw [← ZcD,List.zipWith_map,List.zip,List.map_zipWith]
  .rintro ⟨x,y⟩ hx G' k kp hk;simp only [vU,List.replicate,zzV,ZO,gZ,gS,tZ,tS,Zh,Zs,if_true];exact hlt x y G' _ (hk G' kp)
  .intro G' r kp hr;refine ⟨_,zS zX,?_⟩;rw [ez];exact hq _ (kp.trans (zV.new hr))
 rcases h with ⟨ns,e,hl,h⟩|⟨ls,e,hl,h⟩
 .exact key ns .str ltS hl e (fun x y G' Q q=>q) h
 .exact key ls .int (fun a b=>decide (a<b)) hl e (fun x y G' Q q=>q) h
theorem ziF {n:Nat} (hn:14<=n) {ws:List W} {G:Hw} {Q:Q3} (h:spOn ws G Q XN):yW (yI K C n) XN tE { nx:=fun _ G'=>Q .non G',rt:=Q } (xX pG ws) G:=by
 obtain ⟨v,u,rfl,⟨h1,h2,h3,h4⟩,h⟩:=h;have e2:(yI K C n).fn[2]?=some eAll:=qM 2 hn rfl;show yW (yI K C n) XN tE { nx:=fun _ G'=>Q .non G',rt:=Q } [some v.w,some u.w,none,none] G;simp only [tE,Wi.w];refine xY ?_
 (try dsimp only [zO,zQ,zL,zD,yX,yP,yN,zM,zU,zK,zT,zY,zP,zN,zH,zJ,yU,zI,gZ,gS,tZ,tS])
 refine xY ?_
 ((try dsimp only [zO,zQ,zL,zD,yX,yP,yN,zM,zU,zK,zT,zY,zP,zN,zH,zJ,yU,zI,gZ,gS,tZ,tS]);try simp only [e2])
 refine rW (dB v.ns .str (fun x=>u.ns.contains x) rfl (by omega) (fun _ _=>trivial) ?_ ?_)
 .rintro x hx G' k kp hk;simp only [vU,List.replicate,zzV,zzU,ZO,ZT,ZZ,gZ,gS,tZ,tS,Zh,Zs,if_true,Z0,ix0,yL,sN];exact inS (by simpa using hk G' kp)
 intro G1 r k1 hr;refine ⟨_,zS zX,?_⟩;have k2:=k1.trans (zV.new (o:=.lst ((v.ns.map fun x=>u.ns.contains x).map .bl)) hr);generalize put G1 r (.lst ((v.ns.map fun x=>u.ns.contains x).map .bl))=G2 at k2 ⊢;have ea:((v.ns.map fun x=>u.ns.contains x).all id)=v.ns.all fun x=>u.ns.contains x:=by rw [ZbT];rfl
 have eb:((u.ls.map fun x=>v.ls.contains x).all id)=u.ls.all fun x=>v.ls.contains x:=by rw [ZbT];rfl
 have ho:onB v u=((v.ns.all fun x=>u.ns.contains x)&&u.ls.all fun j=>v.ls.contains j):=rfl;simp only [ea]
 cases hb:(v.ns.all fun x=>u.ns.contains x) with
 |false =>
  rw [if_neg zzN];have:=h _ k2
  rwa [ho,hb] at this
 |true =>
  rw [if_pos rfl];simp only [ix1];refine rW (dB u.ls .int (fun x=>v.ls.contains x) rfl (by omega) (fun _ _=>trivial) ?_ ?_)
  .rintro x hx G' k kp hk;simp only [vU,List.replicate,zzV,zzU,ZO,ZT,ZZ,gZ,gS,tZ,tS,Zh,Zs,if_true,Z0,yL,sN];exact inI (by simpa using hk G' kp)
  intro G3 r3 k3 hr3;refine ⟨_,zS zX,?_⟩;have:=h _ ((k2.trans k3).trans (zV.new (o:=.lst ((u.ls.map fun x=>v.ls.contains x).map .bl)) hr3));rw [ho,hb] at this;simp only [eb];exact this
theorem zbI {web:List Wi} {k:Nat} (hk:k<web.length):web[k]?=some (xL web k):=by
 unfold xL;rw [ZU,Ze hk];rfl
theorem rA {web:List Wi} {k:Nat} (hk:k<web.length):xL web k∈web:=Zv (zbI hk)
theorem gY {web:List Wi} {k:Nat} {G:Hw} {Q:Q3} (hk:k<web.length) (q:Q (xL web k).w G):rX (wA web) (.int (k:Nat)) G Q:=by
 simp only [rX,wA];rw [atN (w:=(xL web k).w) (by rw [Zj,zbI hk];rfl)];exact q
theorem zed {n:Nat} (hn:15<=n) {ws:List W} {G:Hw} {Q:Q3} (h:dS ws G Q XN):yW (yI K C n) XN jZ { nx:=fun _ G'=>Q .non G',rt:=Q } (xX jC ws) G:=by
 obtain ⟨web,k,rfl,wo,hk,h⟩:=h;have e1:(yI K C n).fn[1]?=some hZ:=qM 1 hn rfl;have e2:(yI K C n).fn[2]?=some eAll:=qM 2 hn rfl;have e13:(yI K C n).fn[13]?=some ⟨"is_rising", dU⟩:=qM 13 hn rfl;have e14:(yI K C n).fn[14]?=some ⟨"goes_on", spOn⟩:=qM 14 hn rfl;have hm:=rA hk;have n1:=wo.nl _ hm;have n2:=wo.ll _ hm;have hg:kZ web k=((ups (xL web k).ns&&upi (xL web k).ls)&&(xL web k).ls.all fun j=>decide ((k:Int)<j)&&decide (j<web.length)&&onB (xL web k) (xL web j)):=rfl;show yW (yI K C n) XN jZ { nx:=fun _ G'=>Q .non G',rt:=Q } [some (wA web),some (.int k),none,none] G;simp only [jZ];refine xY ?_
 (try dsimp only [zO,zQ,zL,zD,yX,yP,yN,zM,zU,zK,zT,zY,zP,zN,zH,zJ,yU,zI,gZ,gS,tZ,tS])
 refine gY hk ?_;generalize hv:xL web k=v at *;simp only [Wi.w]
 (try dsimp only [zO,zQ,zL,zD,yX,yP,yN,zM,zU,zK,zT,zY,zP,zN,zH,zJ,yU,zI,gZ,gS,tZ,tS])
 refine xY ?_
 ((try dsimp only [zO,zQ,zL,zD,yX,yP,yN,zM,zU,zK,zT,zY,zP,zN,zH,zJ,yU,zI,gZ,gS,tZ,tS]);try simp only [e13])
 refine .inl ⟨v.ns,rfl,n1,fun G1 k1=>?_⟩;simp only [jF]
 cases hu:ups v.ns with
 |false =>
  simp only [Z4,if_true];refine xY ?_
  (try dsimp only [zO,zQ,zL,zD,yX,yP,yN,zM,zU,zK,zT,zY,zP,zN,zH,zJ,yU,zI,gZ,gS,tZ,tS])
  have:=h _ k1
  rwa [hg,hu] at this
 |true =>
 simp only [ZG,zzB,if_false];refine .inr ⟨v.ls,rfl,n2,fun G2 k2=>?_⟩;simp only [jF];have k2:=k1.trans k2
 cases hi:upi v.ls with
 |false =>
  simp only [Z4,if_true];refine xY ?_
  (try dsimp only [zO,zQ,zL,zD,yX,yP,yN,zM,zU,zK,zT,zY,zP,zN,zH,zJ,yU,zI,gZ,gS,tZ,tS])
  have:=h _ k2
  rwa [hg,hu,hi] at this
 |true =>
 simp only [ZG,zzB,if_false];refine vQ ?_;refine xY ?_
 ((try dsimp only [zO,zQ,zL,zD,yX,yP,yN,zM,zU,zK,zT,zY,zP,zN,zH,zJ,yU,zI,gZ,gS,tZ,tS]);try simp only [e2])
 refine rW (dB v.ls .int (fun j=>decide ((k:Int)<j)&&decide (j<web.length)&&onB v (xL web j)) rfl (by omega) (fun _ _=>trivial) ?_ ?_)
 .rintro j hj G' K' kp hk';simp only [vU,List.replicate,zzV,zzU,ZO,ZT,ZZ,gZ,gS,tZ,tS,Zh,Zs,if_true,Z0,yL,pJ]
  by_cases g1:(k:Int)<j
  case neg =>
   have h1:=decide_eq_false g1;simp only [h1,zzB,if_false];have:=hk' G' kp
   rwa [h1] at this
  have h1:=decide_eq_true g1;simp only [h1,if_true,e1];simp only [uD,wA,uE,zzM]
  by_cases g2:j<(web.length:Int)
  case neg =>
   have h2:=decide_eq_false g2;simp only [h2,zzB,if_false];have:=hk' G' kp
   rwa [h1,h2] at this
  have h2:=decide_eq_true g2;simp only [h2,if_true,e14];have h1:=g1;have h2:=g2;obtain ⟨jn,rfl⟩:∃ jn:Nat,j=jn:=⟨j.toNat,by omega⟩;have hjn:jn<web.length:=by omega
  have mj:=rA hjn;refine gY (web:=web) hk (gY (web:=web) hjn ?_);rw [hv];refine ⟨v,xL web jn,rfl,⟨n1,n2,wo.nl _ mj,wo.ll _ mj⟩,fun G4 k4=>?_⟩;have:=hk' G4 (kp.trans k4)
  rwa [decide_eq_true h1,decide_eq_true h2,Zbm,Zbm] at this
 .intro G3 r k3 hr;refine ⟨_,zS zX,?_⟩;have:=h _ ((k2.trans k3).trans (zV.new (o:=.lst ((v.ls.map fun j=>decide ((k:Int)<j)&&decide (j<web.length)&&onB v (xL web j)).map .bl)) hr));rw [hg,hu,hi] at this;simp only [ZbT];exact this
end
theorem zcB {web:List Wi} {i:Nat} (h:∀ k,k<i->kZ web k=true) (hi:i<web.length) (hb:kZ web i=false):fb web=some i:=by
 unfold fb;rw [List.find?_range_eq_some];exact ⟨by simp [hb],by simpa using hi,fun j hj=>by simp [h j hj]⟩
theorem cV {web:List Wi} (h:∀ k,k<web.length->kZ web k=true):fb web=none:=by
 unfold fb;rw [List.find?_eq_none];intro k hk;simp [h k (by simpa using hk)]
section
variable {Γ : Ctx3} {Δ : CtxX}
theorem xtp {E:wK->X3} {s:RT} {ss:RTs} {D:End3} {σ:wK} {G:Hw} (h:qE Γ Δ s E { D with nx:=wW Γ Δ ss E D } σ G):wW Γ Δ (.cons s ss) E D σ G:=by rw [wW];exact h
theorem xtn {E:wK->X3} {D:End3} {σ:wK} {G:Hw} (h:D.nx σ G):wW Γ Δ .nil E D σ G:=by rw [wW];exact h
end
section
variable {K : zA} {C : Nat → Addr} {T : Addr}
theorem zha {n:Nat} (hn:16<=n) {ws:List W} {G:Hw} {Q:Q3} {E:X3} (h:qI C ws G Q E):wW (yI K C n) (hG C [] T) jI (fun _=>E) { nx:=fun _ G'=>Q .non G',rt:=Q } (xX kQ ws) G:=by
 obtain ⟨web,rfl,wo,h⟩:=h;have e1:(yI K C n).fn[1]?=some hZ:=qM 1 hn rfl;have e15:(yI K C n).fn[15]?=some ⟨"is_good_world", dS⟩:=qM 15 hn rfl;have i0:(yI K C n).it[0]?=some mB:=rfl;have c0:(hG C [] T).cl[0]?=some ⟨"NoWeb", C 7,some "world"⟩:=rfl;have hz:=wo.few;show wW (yI K C n) (hG C [] T) jI (fun _=>E) { nx:=fun _ G'=>Q .non G',rt:=Q } [some (wA web),none] G;simp only [jI];refine xtp ?_;simp only [qE]
 ((try dsimp only [zO,zQ,zL,zD,yX,yP,yN,zM,zU,zK,zT,zY,zP,zN,zH,zJ,yU,zI,gZ,gS,tZ,tS]);try simp only [wA,jF])
 cases hw:(web.map Wi.w).isEmpty with
 |true =>
  have hw':web.isEmpty=true:=by simpa using hw
  simp only [ZG,Z4,if_true];refine xtp ?_;simp only [qE]
  ((try dsimp only [zO,zQ,zL,zD,yX,yP,yN,zM,zU,zK,zT,zY,zP,zN,zH,zJ,yU,zI,gZ,gS,tZ,tS]);try simp only [c0,clR])
  refine ⟨_,rfl,?_⟩;have:=h G zV.refl
  rwa [chk,if_pos hw'] at this
 |false =>
  have hw':web.isEmpty=false:=by simpa using hw
  have ec:chk web=(fb web).map fun k:Nat=>(k:Int):=by rw [chk,if_neg (by rw [hw'];simp)]
  simp only [ZG,Z4,zzB,if_false];refine xtn ?_;refine xtp ?_;simp only [qE]
  ((try dsimp only [zO,zQ,zL,zD,yX,yP,yN,zM,zU,zK,zT,zY,zP,zN,zH,zJ,yU,zI,gZ,gS,tZ,tS]);try simp only [i0,e1,uD,uE,zzM])
  refine ⟨⟨by omega,by omega⟩,?_⟩;have len:((List.range (web.length:Int).toNat).map fun i:Nat=>W.int (i:Int)).length=web.length:=by simp
  refine ⟨fun i σ G'=>∃ v,σ=[some (wA web),v]/\zV [] G G'/\∀ k,k<i->kZ web k=true,⟨none,rfl,zV.refl,fun k hk=>absurd hk (Za6 _)⟩,fun _ _ _ _ _=>trivial,?_,?_⟩
  .rintro i w σ G' hi ⟨v,rfl,kp,hg⟩;rw [Zj] at hi;obtain ⟨i',hi',rfl⟩:=Zq.mp hi;have hl:i<web.length:=by have:=(Zg.mp hi').1;simpa using this
   have hii:i'=i:=by
    have:=(Zg.mp hi').2;rw [ZaH] at this;exact this.symm
   subst hii;refine xtp ?_;simp only [qE,tS,tZ]
   ((try dsimp only [zO,zQ,zL,zD,yX,yP,yN,zM,zU,zK,zT,zY,zP,zN,zH,zJ,yU,zI,gZ,gS,tZ,tS]);try simp only [e15])
   refine ⟨web,i',rfl,wo,hl,fun G2 k2=>?_⟩;simp only [jF]
   cases hb:kZ web i' with
   |false =>
    simp only [Z4,if_true];refine xtp ?_;simp only [qE]
    ((try dsimp only [zO,zQ,zL,zD,yX,yP,yN,zM,zU,zK,zT,zY,zP,zN,zH,zJ,yU,zI,gZ,gS,tZ,tS]);try simp only [c0,clR])
    refine ⟨_,rfl,?_⟩;have:=h G2 (kp.trans k2)
    rwa [ec,zcB hg hl hb] at this
   |true =>
    simp only [ZG,zzB,if_false];simp only [wW];refine ⟨_,rfl,kp.trans k2,fun k hk=>?_⟩
    by_cases hki:k=i'
    .rw [hki];exact hb
    .exact hg k (by omega)
  .rintro σ G' ⟨v,rfl,kp,hg⟩;rw [len] at hg;refine xtp ?_;simp only [qE]
   (try dsimp only [zO,zQ,zL,zD,yX,yP,yN,zM,zU,zK,zT,zY,zP,zN,zH,zJ,yU,zI,gZ,gS,tZ,tS])
   have:=h G' kp
   rwa [ec,cV hg] at this
theorem zfP {n:Nat} (hn:21<=n) (c:Cl K C) {ws:List W} {G:Hw} {Q:Q3} (h:zdl ws G Q XN):wW (yI K C n) (hG C [⟨"checked_web", qI C⟩] T) jV (fun _ _ _=>False) { nx:=fun _ G'=>Q .non G',rt:=Q } (xX qJ ws) G:=by
 obtain ⟨web,rfl,wo,h⟩:=h;have e7:(yI K C n).fn[7]?=some eInt:=qM 7 hn rfl;have z2:=sz 2 (by decide);have z4:=sz 4 (by decide);have z5:=sz 5 (by decide);have s1:(yI K C n).sx[1]?=some ⟨xfM "world", xfS K "world"⟩:=rfl;have g0:(yI K C n).gl[0]?=some (("bool" : Str),.ty "bool"):=rfl;have g1:(yI K C n).gl[1]?=some (("int" : Str),.ty "int"):=rfl;have g2:(yI K C n).gl[2]?=some (("ValueError" : Str),.ty "ValueError"):=rfl;have g3:(yI K C n).gl[3]?=some (("NoText" : Str),.ref (C 0)):=rfl;have g4:(yI K C n).gl[4]?=some (("NoBook" : Str),.ref (C 1)):=rfl;have g5:(yI K C n).gl[5]?=some (("NotLet" : Str),.ref (C 2)):=rfl;have g6:(yI K C n).gl[6]?=some (("NoMove" : Str),.ref (C 3)):=rfl;have g7:(yI K C n).gl[7]?=some (("NoPlan" : Str),.ref (C 4)):=rfl;have g8:(yI K C n).gl[8]?=some (("NoTalker" : Str),.ref (C 5)):=rfl;have g9:(yI K C n).gl[9]?=some (("NoPaper" : Str),.ref (C 6)):=rfl;have g10:(yI K C n).gl[10]?=some (("NoWeb" : Str),.ref (C 7)):=rfl;have g11:(yI K C n).gl[11]?=some (("NoRow" : Str),.ref (C 8)):=rfl;have g12:(yI K C n).gl[12]?=some (("NoName" : Str),.ref (C 9)):=rfl;have e4:(yI K C n).fn[4]?=some (eIsx K):=qM 4 hn rfl;have f0:(hG C [⟨"checked_web", qI C⟩] T).fx[0]?=some ⟨"checked_web", qI C⟩:=rfl;have t0:(hG C [⟨"checked_web", qI C⟩] T).tr[0]?=some ⟨"TalkError", T,[C 7]⟩:=rfl;show wW (yI K C n) (hG C [⟨"checked_web", qI C⟩] T) jV (fun _ _ _=>False) { nx:=fun _ G'=>Q .non G',rt:=Q } [some (wA web),none,none,none] G;simp only [jV];refine xtp ?_;simp only [qE]
 (try dsimp only [zO,zQ,zL,zD,yX,yP,yN,zM,zU,zK,zT,zY,zP,zN,zH,zJ,yU,zI,gZ,gS,tZ,tS])
 refine xtp ?_;simp only [qE]
 (try dsimp only [zO,zQ,zL,zD,yX,yP,yN,zM,zU,zK,zT,zY,zP,zN,zH,zJ,yU,zI,gZ,gS,tZ,tS])
 refine xtp ?_;simp only [qE,t0];refine xtp ?_;simp only [qE]
 ((try dsimp only [zO,zQ,zL,zD,yX,yP,yN,zM,zU,zK,zT,zY,zP,zN,zH,zJ,yU,zI,gZ,gS,tZ,tS]);try simp only [f0])
 refine ⟨web,rfl,wo,fun G1 k1=>?_⟩;have h1:=h G1 k1
 cases hc:chk web with
 |none =>
  rw [hc] at h1;refine xtn ?_;refine xtp ?_;simp only [qE]
  ((try dsimp only [zO,zQ,zL,zD,yX,yP,yN,zM,zU,zK,zT,zY,zP,zN,zH,zJ,yU,zI,gZ,gS,tZ,tS]);try simp only [yL,isR,zzB,if_false,if_true])
  refine xY ?_
  ((try dsimp only [zO,zQ,zL,zD,yX,yP,yN,zM,zU,zK,zT,zY,zP,zN,zH,zJ,yU,zI,gZ,gS,tZ,tS]);try simp only [yL,isR,e7,intS,zzB,if_false,zzC,zzL,zzA,Nat.reduceAdd,z2,true_and])
  intro p hp;simp only [beq_self_eq_true,if_true];refine ixL (zS zX) ?_;rw [at_1];have:=h _ (k1.trans (zV.new (o:=.lst [.str "other", .str "good"]) hp))
  rwa [hc] at this
 |some k =>
  rw [hc] at h1;refine ⟨C 7,_,_,rfl,by simp,?_⟩;simp only [tZ,tS];refine xtp ?_;simp only [qE]
  ((try dsimp only [zO,zQ,zL,zD,yX,yP,yN,zM,zU,zK,zT,zY,zP,zN,zH,zJ,yU,zI,gZ,gS,tZ,tS]);try simp only [yL,isR,zzB,if_false,if_true])
  refine vQ ?_;refine xtp ?_;simp only [qE]
  ((try dsimp only [zO,zQ,zL,zD,yX,yP,yN,zM,zU,zK,zT,zY,zP,zN,zH,zJ,yU,zI,gZ,gS,tZ,tS]);try simp only [g3,g4,g5,g6,g7,e4,zzC,zzL,zzA,Nat.reduceAdd,z5,true_and])
  refine ⟨c.xc,c.xk,_,_,rfl,c.any1,?_⟩;simp only [jF,zzB,if_false];refine vQ ?_;refine xtp ?_;simp only [qE]
  ((try dsimp only [zO,zQ,zL,zD,yX,yP,yN,zM,zU,zK,zT,zY,zP,zN,zH,zJ,yU,zI,gZ,gS,tZ,tS]);try simp only [g8,g9,g11,g12,g2,e4,zzC,zzL,zzA,Nat.reduceAdd,z4,true_and])
  refine ⟨c.xc,c.xk,_,_,rfl,c.any2,?_⟩;simp only [jF,zzB,if_false];refine ⟨c.xc,c.xk,_,c.val,?_⟩;simp only [jF,ZG,zzB,if_false];refine vQ ?_;refine xtp ?_;simp only [qE]
  ((try dsimp only [zO,zQ,zL,zD,yX,yP,yN,zM,zU,zK,zT,zY,zP,zN,zH,zJ,yU,zI,gZ,gS,tZ,tS]);try simp only [g10,g1,g0,e4,s1])
  refine ⟨c.xc,c.xk,_,c.one,?_⟩;have xw:∀ {G:Hw} {Q:Q3},Q (.int k) G->xfS K "world" [.exc (C 7) ["world"] [.int k]] G Q:=fun q=>⟨⟨c.xc,c.hd,c.wld⟩,by simpa using q⟩;have t1:∀ {G:Hw} {Q:Q3},Q (.bl true) G->isxS K [.int k,.ty "int"] G Q:=fun q=>⟨"int", true,rfl,c.ii,q⟩;have t2:∀ {G:Hw} {Q:Q3},Q (.bl false) G->isxS K [.int k,.ty "bool"] G Q:=fun q=>⟨"int", false,rfl,c.ib,q⟩;show (match jF G1 (.bl true) with|some b=>_|none=>False);simp only [jF,ZG,zzB,if_false];refine xw (t1 ?_);simp only [ZG,zzB,if_false];refine xw (t2 ?_);simp only [zzB,if_false];refine vQ ?_;refine xtp ?_;simp only [qE]
  ((try dsimp only [zO,zQ,zL,zD,yX,yP,yN,zM,zU,zK,zT,zY,zP,zN,zH,zJ,yU,zI,gZ,gS,tZ,tS]);try simp only [s1])
  exact xw h1
end
structure So {α:Type} (lt:α->α->Bool):Prop where
 irr:∀ a,lt a a=false
 tr:∀ a b c,lt a b=true->lt b c=true->lt a c=true
 tot:∀ a b,lt a b=false->lt b a=false->a=b
def up {α:Type} (lt:α->α->Bool) (l:List α):Bool:=(List.zipWith lt l (l.drop 1)).all id
section
variable {α : Type} {lt : α → α → Bool}
theorem zbl {a b:α} {l:List α}:up lt (a::b::l)=(lt a b&&up lt (b::l)):=rfl
theorem zhr (s:So lt):∀ {l:List α},up lt l=true->l.Pairwise fun a b=>lt a b=true
 | [],_=>.nil
 | [a],_=>.cons (by simp) .nil
 |a::b::l,h=>by
  rw [zbl,Zp] at h;have ih:=zhr s h.2;refine .cons (fun c hc=>?_) ih;rcases Zk.mp hc with rfl|hc
  .exact h.1
  .exact s.tr _ _ _ h.1 ((ZaI.mp ih).1 c hc)
theorem zfR:∀ {l:List α},(l.Pairwise fun a b=>lt a b=true)->up lt l=true
 | [],_=>rfl
 | [a],_=>rfl
 |a::b::l,h=>by
  rw [zbl,Zp];have h:=ZaI.mp h;exact ⟨h.1 b (by simp),zfR h.2⟩
theorem zeC (s:So lt):∀ {l r:List α},(l.Pairwise fun a b=>lt a b=true)->(r.Pairwise fun a b=>lt a b=true)->(∀ x,x∈l↔x∈r)->l=r
 | [],[],_,_,_=>rfl
 | [],b::r,_,_,h=>absurd ((h b).mpr (by simp)) (by simp)
 |a::l,[],_,_,h=>absurd ((h a).mp (by simp)) (by simp)
 |a::l,b::r,h1,h2,h=>by
  have p1:=ZaI.mp h1;have p2:=ZaI.mp h2
  have e:a=b:=by
   rcases Zk.mp ((h a).mp (by simp)) with e|e
   .exact e
   .rcases Zk.mp ((h b).mpr (by simp)) with e'|e'
    .exact e'.symm
    .have:=s.tr _ _ _ (p1.1 b e') (p2.1 a e);rw [s.irr] at this;cases this
  subst e;congr 1;refine zeC s p1.2 p2.2 fun x=>⟨fun hx=>?_,fun hx=>?_⟩
  .rcases Zk.mp ((h x).mp (Zo _ hx)) with e|e
   .subst e;have:=p1.1 x hx;rw [s.irr] at this;cases this
   .exact e
  .rcases Zk.mp ((h x).mpr (Zo _ hx)) with e|e
   .subst e;have:=p2.1 x hx;rw [s.irr] at this;cases this
   .exact e
theorem zeB [DecidableEq α] (s:So lt) {l r:List α} (nd:r.Nodup) (hm:∀ x,x∈r↔x∈l) (hs:r.Pairwise fun a b=>lt b a=false):decide (l=r)=up lt l:=by
 have hr:r.Pairwise fun a b=>lt a b=true:=by
  refine List.Pairwise.imp₂ (fun a b (h:lt b a=false) (n:a≠b)=>?_) hs nd
  cases h2:lt a b with
  |true=>rfl
  |false=>exact absurd (s.tot _ _ h2 h) n
 cases hu:up lt l with
 |true=>rw [decide_eq_true (zeC s (zhr s hu) hr fun x=>(hm x).symm)]
 |false =>
  refine decide_eq_false fun e=>?_;subst e;rw [zfR hr] at hu;cases hu
theorem zeA (s:So lt) {l:List α} (nd:l.Nodup) (hs:l.Pairwise fun a b=>lt b a=false):up lt l=true:=by
 refine zfR (List.Pairwise.imp₂ (fun a b (h:lt b a=false) (n:a≠b)=>?_) hs nd)
 cases h2:lt a b with
 |true=>rfl
 |false=>exact absurd (s.tot _ _ h2 h) n
end
theorem zeJ:So fun a b:Int=>decide (a<b):=⟨fun a=>by simp,fun a b c h1 h2=>by simp at *;omega,fun a b h1 h2=>by simp at *;omega⟩
theorem dR:So ltS where
 irr:=fun a=>by unfold ltS;exact decide_eq_false (List.lt_irrefl _)
 tr:=fun a b c h1 h2=>by
  unfold ltS at *;exact decide_eq_true (List.lt_trans (of_decide_eq_true h1) (of_decide_eq_true h2))
 tot:=fun a b h1 h2=>by
  unfold ltS at *;have h1:=of_decide_eq_false h1;have h2:=of_decide_eq_false h2;have e:a.cps.toList=b.cps.toList:=List.le_antisymm h2 h1;cases a;cases b;congr 1;exact Array.toList_inj.mp e
theorem zbw:∀ {l:List Str},sortedS l=true->l.Pairwise fun a b=>ltS b a=false
 | [],_=>.nil
 |x::r,h=>by
  have key:∀ (p:Str) (l:List Str),risingS p l=true->(p::l).Pairwise fun a b=>ltS b a=false:=by
   intro p l
   induction l generalizing p with
   |nil=>intro _;exact .cons (by simp) .nil
   |cons y r ih =>
    intro h;have h:(!ltCps y.cps.toList p.cps.toList&&risingS y r)=true:=h;rw [Zp,ltCps_eq] at h;have hy:ltS y p=false:=by unfold ltS;simpa using h.1
    have ih:=ih y h.2;refine .cons (fun c hc=>?_) ih;rcases Zk.mp hc with rfl|hc
    .exact hy
    .have hc:=(ZaI.mp ih).1 c hc
     cases h3:ltS c p with
     |false=>rfl
     |true =>
      cases h4:ltS p y with
      |true=>rw [dR.tr _ _ _ h3 h4] at hc;cases hc
      |false =>
       have:=dR.tot _ _ h4 hy;subst this;rw [h3] at hc;cases hc
  exact key x r h
theorem zaE:∀ {a b:List Str},wB (a.map .str) (b.map .str)=decide (a=b)
 | [],[]=>by simp [wB]
 | [],_::_=>by simp [wB]
 |_::_,[]=>by simp [wB]
 |x::a,y::b=>by
  simp only [zzU,wB,vV,zaE]
  by_cases h:x=y<;>simp [h]
theorem zaF:∀ {a b:List Int},wB (a.map .int) (b.map .int)=decide (a=b)
 | [],[]=>by simp [wB]
 | [],_::_=>by simp [wB]
 |_::_,[]=>by simp [wB]
 |x::a,y::b=>by
  simp only [zzU,wB,vV,zaF]
  by_cases h:x=y<;>simp [h]
theorem zgJ {G:Hw} {p q:Addr} {a b:List Str} (hp:G p=some (.lst (a.map .str))) (hq:G q=some (.lst (b.map .str))):bS G (.ref p) (.ref q)=some (decide (a=b)):=by
 simp only [bS,zS hp,zS hq,vN,nI];rw [if_pos (by simp),zaE]
theorem zgK {G:Hw} {p q:Addr} {a b:List Int} (hp:G p=some (.lst (a.map .int))) (hq:G q=some (.lst (b.map .int))):bS G (.ref p) (.ref q)=some (decide (a=b)):=by
 simp only [bS,zS hp,zS hq,jD,nH];rw [if_pos (by simp),zaF]
theorem nJ:∀ {xs:List W},wB xs []=xs.isEmpty
 | []=>by simp [wB]
 |_::_=>by simp [wB]
theorem ze6 {G:Hw} {p q:Addr} {xs:List W} (hp:G p=some (.lst xs)) (hq:G q=some (.lst [])) (px:wU xs=true):bS G (.ref p) (.ref q)=some xs.isEmpty:=by
 simp only [bS,zS hp,zS hq,px];rw [if_pos (by simp [wU,qP]),nJ]
theorem zcA {α:Type} (c:α->W) (f:α->Bool):∀ l:List α,l.filterMap (fun x=>if f x=true then some (c x) else none)=(l.filter f).map c
 | []=>rfl
 |x::l=>by
  rw [ZaY,Zch];cases h:f x<;>simp [h,zcA c f l]
theorem dC {α:Type} {items:List W} {stab:Hw->Prop} {G:Hw} {turn:W->Hw->(Option W->Hw->Prop)->Prop} {Q:Q3} (l:List α) (c:α->W) (f:α->Bool) (hi:items=l.map c) (hl:l.length<=3000) (st:∀ G',zV [] G G'->stab G')
  (step:∀ x∈l,∀ G' (k:Option W->Hw->Prop),zV [] G G'->(∀ G'',zV [] G G''->k (if f x=true then some (c x) else none) G'')->turn (c x) G' k)
  (fin:∀ G' r,zV [] G G'->G' r=none->Q (.ref r) (put G' r (.lst ((l.filter f).map c)))):lcR items stab G turn Q:=by
 subst hi
 have e:(List.range (l.map c).length).filterMap (fun i=>(l[i]?).bind fun x=>if f x=true then some (c x) else none)=(l.filter f).map c:=by
  rw [zzM,← zcA];have h:=List.filterMap_getElem?_range_length l
  conv=>rhs;rw [← h]
  rw [List.filterMap_filterMap]
 refine zdV (fun i=>(l[i]?).bind fun x=>if f x=true then some (c x) else none) (by rw [zzM];exact hl) st (fun i w G' k hw kp hk=>?_) (fun G' r kp hr=>by rw [e];exact fin G' r kp hr);rw [Zj] at hw;obtain ⟨x,hx,rfl⟩:=Zq.mp hw;rw [hx] at hk;exact step x (Zv hx) G' k kp hk
theorem addL {G:Hw} {p q:Addr} {xs ys:List W} {Q:Q3} (hp:G p=some (.lst xs)) (hq:G q=some (.lst ys)) (hl:xs.length+ys.length<=3000) (h:∀ r,G r=none->Q (.ref r) (put G r (.lst (xs++ys)))):jO .Add (.ref p) (.ref q) G Q:=by
 simp only [jO,hp,hq];exact ⟨sz _ hl,h⟩
theorem zgp {c:Bool} {k:Option W->Hw->Prop} {a:W} {G:Hw} (h:k (if c=true then some a else none) G):if c=true then k (some a) G else k none G:=by
 cases c
 .exact h
 .exact h
theorem zgZ {α:Type} (a b:List α):(a++b).isEmpty=(a.isEmpty&&b.isEmpty):=by cases a<;>simp
theorem pY {α:Type} (f:α->Bool):∀ l:List α,(l.filter fun x=>!f x).isEmpty=l.all f
 | []=>rfl
 |x::l=>by
  rw [Zch,Zaq]
  cases h:f x with
  |true=>simpa using pY f l
  |false=>simp
theorem bZ {α:Type} (a b:α->Bool):∀ l:List α,(l.all fun x=>a x&&b x)=(l.all a&&l.all b)
 | []=>rfl
 |x::l=>by
  rw [Zaq,Zaq,Zaq,bZ a b l];cases a x<;>cases b x<;>cases l.all a<;>rfl
theorem zap:∀ {a b:List W},wU a=true->wU b=true->wU (a++b)=true
 | [],b,_,h=>h
 |x::a,b,h,h'=>by
  have h:=xN.mp h;exact xN.mpr ⟨h.1,zap h.2 h'⟩
section
variable {K : zA} {C : Nat → Addr}
theorem ziJ {ns:List Str} {G:Hw} {Q:Q3} (hl:ns.length<=20) (h:∀ G',zV [] G G'->Q (.bl (!ups ns)) G') :
  mK [.tup (ns.map .str)] G fun x G1=>ss2 [.tup (ns.map .str)] G1 fun y G2=>yL .NotEq x y G2 Q:=by
 simp only [mK,xO];intro p hp;refine .inl ⟨ns,rfl,by omega,fun ts' nd hm hs r hr=>?_⟩;have npr:p≠r:=fun e=>by rw [← e,zX] at hr;cases hr
 have k:zV [] G _:=(zV.new (o:=.lst (ns.map .str)) hp).trans (zV.new (o:=.lst (ts'.map .str)) hr);have q1:(put (put G p (.lst (ns.map .str))) r (.lst (ts'.map .str))) p=some (.lst (ns.map .str)):=by rw [yD npr,zX]
 simp only [yL,zgJ (a:=ns) (b:=ts') q1 zX];rw [zeB dR nd hm (zbw hs)];exact h _ k
theorem ziK {ns:List Int} {G:Hw} {Q:Q3} (hl:ns.length<=20) (h:∀ G',zV [] G G'->Q (.bl (!upi ns)) G') :
  mK [.tup (ns.map .int)] G fun x G1=>ss2 [.tup (ns.map .int)] G1 fun y G2=>yL .NotEq x y G2 Q:=by
 simp only [mK,xO];intro p hp;refine .inr ⟨ns,rfl,by omega,fun ts' nd hm hs r hr=>?_⟩;have npr:p≠r:=fun e=>by rw [← e,zX] at hr;cases hr
 have k:zV [] G _:=(zV.new (o:=.lst (ns.map .int)) hp).trans (zV.new (o:=.lst (ts'.map .int)) hr);have q1:(put (put G p (.lst (ns.map .int))) r (.lst (ts'.map .int))) p=some (.lst (ns.map .int)):=by rw [yD npr,zX]
 simp only [yL,zgK (a:=ns) (b:=ts') q1 zX];rw [zeB zeJ nd hm (hs.imp fun h=>by simp;omega)];exact h _ k
theorem zjx {n:Nat} (hn:20<=n) {ws:List W} {G:Hw} {Q:Q3} (h:spFb ws G Q XN):yW (yI K C n) XN wI { nx:=fun _ G'=>Q .non G',rt:=Q } (xX jR ws) G:=by
 obtain ⟨web,rfl,wo,h⟩:=h;have e1:(yI K C n).fn[1]?=some hZ:=qM 1 hn rfl;have e3:(yI K C n).fn[3]?=some eLst:=qM 3 hn rfl;have s2:(yI K C n).sx[2]?=some ⟨ssM,ss2⟩:=rfl;have i0:(yI K C n).it[0]?=some mB:=rfl;have z0:=sz 0 (by decide);have hz:=wo.few;show yW (yI K C n) XN wI { nx:=fun _ G'=>Q .non G',rt:=Q } [some (wA web),none,none,none,none] G;simp only [wI];refine xY ?_
 have pu:∀ l:List Wi,wU (l.map Wi.w)=true:=fun l=>by
  induction l with
  |nil=>rfl
  |cons v l ih=>exact xN.mpr ⟨by simp [Wi.w,uP,wU,vN,jD],ih⟩
 have e0:bS G (wA web) (.tup [])=some web.isEmpty:=by
  simp only [bS,wA,uP,pu,wU,nG,qP];rw [if_pos (by simp)];simp only [vV,nJ,Zbe]
 ((try dsimp only [zO,zQ,zL,zD,yX,yP,yN,zM,zU,zK,zT,zY,zP,zN,zH,zJ,yU,zI,gZ,gS,tZ,tS]);try simp only [yL,e0,Zs,z0,true_and])
 cases hw':web.isEmpty with
 |true =>
  simp only [if_true];refine xY ?_
  (try dsimp only [zO,zQ,zL,zD,yX,yP,yN,zM,zU,zK,zT,zY,zP,zN,zH,zJ,yU,zI,gZ,gS,tZ,tS])
  have:=h G zV.refl
  rwa [chk,if_pos hw'] at this
 |false =>
 have ec:chk web=(fb web).map fun k:Nat=>(k:Int):=by rw [chk,if_neg (by rw [hw'];simp)]
 simp only [zzB,if_false];refine vQ ?_;refine xY ?_
 ((try dsimp only [zO,zQ,zL,zD,yX,yP,yN,zM,zU,zK,zT,zY,zP,zN,zH,zJ,yU,zI,gZ,gS,tZ,tS]);try simp only [i0,e1])
 simp only [uD,wA,uE,zzM];refine ⟨⟨by omega,by omega⟩,?_⟩;have len:((List.range (web.length:Int).toNat).map fun i:Nat=>W.int (i:Int)).length=web.length:=by simp
 refine ⟨fun i σ G'=>∃ v1 v2 v3 v4,σ=[some (wA web),v1,v2,v3,v4]/\zV [] G G'/\∀ k,k<i->kZ web k=true,⟨none,none,none,none,rfl,zV.refl,fun k hk=>absurd hk (Za6 _)⟩,fun _ _ _ _ _=>trivial,?_,?_⟩
 .rintro i w σ G' hi ⟨v1,v2,v3,v4,rfl,kp,hg⟩;rw [Zj] at hi;obtain ⟨i',hi',rfl⟩:=Zq.mp hi;have hl:i<web.length:=by have:=(Zg.mp hi').1;simpa using this
  have hii:i'=i:=by
   have:=(Zg.mp hi').2;rw [ZaH] at this;exact this.symm
  subst hii;have hm:=rA hl;have n1:=wo.nl _ hm;have n2:=wo.ll _ hm;have hgd:kZ web i'=((ups (xL web i').ns&&upi (xL web i').ls)&&(xL web i').ls.all fun j=>decide ((i':Int)<j)&&decide (j<web.length)&&onB (xL web i') (xL web j)):=rfl
  have bad:kZ web i'=false->∀ G2,zV [] G' G2->Q (.int i') G2:=fun hb G2 k2=>by
   have:=h G2 (kp.trans k2)
   rwa [ec,zcB hg hl hb] at this
  refine xY ?_
  (try dsimp only [zO,zQ,zL,zD,yX,yP,yN,zM,zU,zK,zT,zY,zP,zN,zH,zJ,yU,zI,gZ,gS,tZ,tS])
  refine gY hl ?_;generalize hv:xL web i'=v at *;simp only [Wi.w]
  (try dsimp only [zO,zQ,zL,zD,yX,yP,yN,zM,zU,zK,zT,zY,zP,zN,zH,zJ,yU,zI,gZ,gS,tZ,tS])
  refine xY ?_
  ((try dsimp only [zO,zQ,zL,zD,yX,yP,yN,zM,zU,zK,zT,zY,zP,zN,zH,zJ,yU,zI,gZ,gS,tZ,tS]);try simp only [e3,s2])
  refine ziJ n1 fun G2 k2=>?_;simp only [jF]
  cases hu:ups v.ns with
  |false =>
   simp only [Z4,if_true];refine xY ?_
   (try dsimp only [zO,zQ,zL,zD,yX,yP,yN,zM,zU,zK,zT,zY,zP,zN,zH,zJ,yU,zI,gZ,gS,tZ,tS])
   exact bad (by rw [hgd,hu];rfl) _ k2
  |true =>
  simp only [ZG,zzB,if_false];refine ziK n2 fun G3 k3=>?_;have k3:=k2.trans k3;simp only [jF]
  cases hi2:upi v.ls with
  |false =>
   simp only [Z4,if_true];refine xY ?_
   (try dsimp only [zO,zQ,zL,zD,yX,yP,yN,zM,zU,zK,zT,zY,zP,zN,zH,zJ,yU,zI,gZ,gS,tZ,tS])
   exact bad (by rw [hgd,hu,hi2];rfl) _ k3
  |true =>
  simp only [ZG,zzB,if_false];refine vQ ?_;refine xY ?_
  ((try dsimp only [zO,zQ,zL,zD,yX,yP,yN,zM,zU,zK,zT,zY,zP,zN,zH,zJ,yU,zI,gZ,gS,tZ,tS]);try simp only [Zs,z0,true_and])
  refine rW (dC v.ls .int (fun j=>!(decide ((i':Int)<j)&&decide (j<web.length))) rfl (by omega) (fun _ _=>trivial) ?_ ?_)
  .rintro j hj G4 K4 k4 hk4;simp only [vU,List.replicate,zzV,zzU,ZO,ZT,ZZ,gZ,gS,tZ,tS,Zh,Zs,if_true,Z0,yL,pJ]
   by_cases g1:(i':Int)<j
   case neg =>
    have h1:=decide_eq_false g1;simp only [h1,zzB,if_false,jF,Z4,if_true];have:=hk4 G4 k4;rw [h1] at this;simpa using this
   have h1:=decide_eq_true g1;simp only [h1,if_true,e1];simp only [uD,wA,uE,zzM];have:=hk4 G4 k4;rw [h1] at this
   by_cases g2:j<(web.length:Int)
   case neg =>
    have h2:=decide_eq_false g2;rw [h2] at this;simp only [h2,jF,Z4,if_true];simpa using this
   have h2:=decide_eq_true g2;rw [h2] at this;simp only [h2,jF,ZG,zzB,if_false];simpa using this
  intro G4 r4 k4 hr4 p5 hp5;have n45:r4≠p5:=fun e=>by rw [← e,zX] at hp5;cases hp5
  have k5:zV [] G' (put (put G4 r4 (.lst ((v.ls.filter fun j=>!(decide ((i':Int)<j)&&decide (j<web.length))).map .int))) p5 (.lst [])):=((k3.trans k4).trans (zV.new hr4)).trans (zV.new hp5);have q4:(put (put G4 r4 (.lst ((v.ls.filter fun j=>!(decide ((i':Int)<j)&&decide (j<web.length))).map .int))) p5 (.lst [])) r4=some (.lst ((v.ls.filter fun j=>!(decide ((i':Int)<j)&&decide (j<web.length))).map .int)):=by rw [yD n45,zX]
  simp only [yL,ze6 q4 zX (jD _)];generalize put (put G4 r4 (.lst ((v.ls.filter fun j=>!(decide ((i':Int)<j)&&decide (j<web.length))).map .int))) p5 (.lst [])=G5 at k5 q4 ⊢
  have ea:((v.ls.filter fun j=>!(decide ((i':Int)<j)&&decide (j<web.length))).map W.int).isEmpty=v.ls.all fun j=>decide ((i':Int)<j)&&decide (j<web.length):=by
   rw [Zbe];exact pY _ _
  rw [ea]
  try simp only [jF]
  cases hr:(v.ls.all fun j=>decide ((i':Int)<j)&&decide (j<web.length)) with
  |false =>
   simp only [Z4,if_true];refine xY ?_
   (try dsimp only [zO,zQ,zL,zD,yX,yP,yN,zM,zU,zK,zT,zY,zP,zN,zH,zJ,yU,zI,gZ,gS,tZ,tS])
   refine bad ?_ _ k5;rw [hgd,hu,hi2,bZ,hr];rfl
  |true =>
  simp only [ZG,zzB,if_false];refine vQ ?_;refine xY ?_
  (try dsimp only [zO,zQ,zL,zD,yX,yP,yN,zM,zU,zK,zT,zY,zP,zN,zH,zJ,yU,zI,gZ,gS,tZ,tS])
  have rng:∀ j∈v.ls,(i':Int)<j/\j<web.length:=fun j hj=>by
   have:=ZI.mp hr j hj;simpa using this
  refine rW ⟨fun q σ G6=>∃ v4',σ=[some (wA web),some (.int i'),some (.tup (v.ns.map .str)),some (.tup (v.ls.map .int)),v4']/\zV [] G' G6/\∀ x,x<q->onB v (xL web (v.ls.getD x 0))=true,⟨v4,rfl,k5,fun x hx=>absurd hx (Za6 _)⟩,fun _ _ _ _ _=>trivial,?_,?_⟩
  .rintro q w σ G6 hw ⟨v4',rfl,k6,ho⟩;rw [Zj] at hw;obtain ⟨j,hj,rfl⟩:=Zq.mp hw;have hjm:=Zv hj;have hjr:=rng j hjm;obtain ⟨jn,rfl⟩:∃ jn:Nat,j=jn:=⟨j.toNat,by omega⟩;have hjn:jn<web.length:=by omega
   have mj:=rA hjn;have u1:=wo.nl _ mj;have u2:=wo.ll _ mj;refine xY ?_
   ((try dsimp only [zO,zQ,zL,zD,yX,yP,yN,zM,zU,zK,zT,zY,zP,zN,zH,zJ,yU,zI,gZ,gS,tZ,tS]);try simp only [Zs,z0,true_and])
   refine gY hjn ?_;generalize hw2:xL web jn=u at *;simp only [Wi.w,ix1];refine rW (dC u.ls .int (fun x=>!v.ls.contains x) rfl (by omega) (fun _ _=>trivial) ?_ ?_)
   .rintro x hx G7 K7 k7 hk7;simp only [vU,List.replicate,zzV,zzU,ZO,ZT,ZZ,gZ,gS,tZ,tS,Zh,Zs,Z0,yL,sN];refine inI ?_;simp only [if_true,jF];exact zgp (hk7 G7 k7)
   intro G7 r7 k7 hr7;have q7:(put G7 r7 (.lst ((u.ls.filter fun x=>!v.ls.contains x).map .int))) r7=some (.lst ((u.ls.filter fun x=>!v.ls.contains x).map .int)):=zX;have k8:zV [] G6 (put G7 r7 (.lst ((u.ls.filter fun x=>!v.ls.contains x).map .int))):=k7.trans (zV.new hr7);generalize put G7 r7 (.lst ((u.ls.filter fun x=>!v.ls.contains x).map .int))=G8 at q7 k8 ⊢;refine rW (dC v.ns .str (fun x=>!u.ns.contains x) rfl (by omega) (fun _ _=>trivial) ?_ ?_)
   .rintro x hx G9 K9 k9 hk9;simp only [vU,List.replicate,zzV,zzU,ZO,ZT,ZZ,gZ,gS,tZ,tS,Zh,Zs,Z0];refine gY hjn ?_;rw [hw2];simp only [Wi.w,ix0,yL,sN];refine inS ?_;simp only [if_true,jF];exact zgp (hk9 G9 k9)
   intro G9 r9 k9 hr9;have n79:r7≠r9:=fun e=>by rw [← e,k9 _ _ (by simp) q7] at hr9;cases hr9
   have q9:(put G9 r9 (.lst ((v.ns.filter fun x=>!u.ns.contains x).map .str))) r9=some (.lst ((v.ns.filter fun x=>!u.ns.contains x).map .str)):=zX;have q7':(put G9 r9 (.lst ((v.ns.filter fun x=>!u.ns.contains x).map .str))) r7=some (.lst ((u.ls.filter fun x=>!v.ls.contains x).map .int)):=by rw [yD n79];exact k9 _ _ (by simp) q7
   have kA:zV [] G6 (put G9 r9 (.lst ((v.ns.filter fun x=>!u.ns.contains x).map .str))):=(k8.trans k9).trans (zV.new hr9);generalize put G9 r9 (.lst ((v.ns.filter fun x=>!u.ns.contains x).map .str))=GA at q9 q7' kA ⊢;have l1:=Za4 (fun x=>!v.ls.contains x) u.ls;have l2:=Za4 (fun x=>!u.ns.contains x) v.ns;refine addL q7' q9 (by rw [zzM,zzM];omega) fun rB hrB pC hpC=>?_;have nBC:rB≠pC:=fun e=>by rw [← e,zX] at hpC;cases hpC
   have qB:(put (put GA rB (.lst ((u.ls.filter fun x=>!v.ls.contains x).map .int++(v.ns.filter fun x=>!u.ns.contains x).map .str))) pC (.lst [])) rB=some (.lst ((u.ls.filter fun x=>!v.ls.contains x).map .int++(v.ns.filter fun x=>!u.ns.contains x).map .str)):=by rw [yD nBC,zX]
   have kC:zV [] G6 (put (put GA rB (.lst ((u.ls.filter fun x=>!v.ls.contains x).map .int++(v.ns.filter fun x=>!u.ns.contains x).map .str))) pC (.lst [])):=(kA.trans (zV.new hrB)).trans (zV.new hpC);simp only [yL,ze6 qB zX (zap (jD _) (vN _))];generalize put (put GA rB (.lst ((u.ls.filter fun x=>!v.ls.contains x).map .int++(v.ns.filter fun x=>!u.ns.contains x).map .str))) pC (.lst [])=GC at kC ⊢
   have eo:((u.ls.filter fun x=>!v.ls.contains x).map W.int++(v.ns.filter fun x=>!u.ns.contains x).map W.str).isEmpty=onB v u:=by
    rw [zgZ,Zbe,Zbe,pY,pY,Bool.and_comm];rfl
   rw [eo]
   cases hb:onB v u with
   |false =>
    simp only [Z4,if_true];refine xY ?_
    (try dsimp only [zO,zQ,zL,zD,yX,yP,yN,zM,zU,zK,zT,zY,zP,zN,zH,zJ,yU,zI,gZ,gS,tZ,tS])
    refine bad ?_ _ (k6.trans kC)
    cases hg2:kZ web i' with
    |false=>rfl
    |true =>
     rw [hgd,hu,hi2,Zbm,Zbm] at hg2;have:=ZI.mp hg2 (jn:Int) hjm;rw [hw2,hb] at this;simp at this
   |true =>
    simp only [ZG,zzB,if_false];simp only [yW];refine ⟨_,rfl,k6.trans kC,fun x hx=>?_⟩
    by_cases hxq:x=q
    .rw [hxq,gD hj,hw2];exact hb
    .exact ho x (by omega)
  .rintro σ G6 ⟨v4',rfl,k6,ho⟩;simp only [yW];refine ⟨_,_,_,_,rfl,kp.trans k6,fun k hk=>?_⟩
   by_cases hki:k=i'
   .rw [hki,hgd,hu,hi2,bZ,hr];simp only [Zbm];refine ZI.mpr fun j hj=>?_;obtain ⟨q,hq,rfl⟩:=ZaO.mp hj;have:=ho q (by simpa using hq)
    rwa [gD (Ze hq)] at this
   .exact hg k (by omega)
 .rintro σ G' ⟨v1,v2,v3,v4,rfl,kp,hg⟩;rw [len] at hg;refine xY ?_
  (try dsimp only [zO,zQ,zL,zD,yX,yP,yN,zM,zU,zK,zT,zY,zP,zN,zH,zJ,yU,zI,gZ,gS,tZ,tS])
  have:=h G' kp
  rwa [ec,cV hg] at this
end
abbrev abc:Str := "abcdefghijklmnopqrstuvwxyz"
theorem bY:abc.cps.toList.length=26:=by decide +kernel
theorem zjP:∀ c∈abc.cps.toList,ltB c=true:=by decide +kernel
theorem pW {a b:Str}:wP (a++b)=(wP a&&wP b):=by
 unfold wP;rw [ZbD,ZaW,List.all_append]
theorem zi8 {i:Int} {G:Hw} {Q:Q3} (h0:0<=i) (h1:i<26) (h:∀ x:Str,x.length=1->wP x=true->x.cps.toList=[97+i.toNat]->Q (.str x) G):rX (.str abc) (.int i) G Q:=by
 have hi:i.toNat<abc.cps.toList.length:=by rw [bY];omega
 have e:rR abc.cps.toList i=some abc.cps.toList[i.toNat]:=by
  unfold rR cZ;rw [if_pos h0,bY,if_pos (show i<((26:Nat):Int) from h1)];exact Ze hi
 simp only [rX,e];refine ⟨?_,h _ rfl ?_ ?_⟩
 .have:abc.length=26:=by rw [← bY];rfl
  rw [this];exact sz _ (by decide)
 .show [abc.cps.toList[i.toNat]].all ltB=true;rw [Zaq,zjP _ (Zau hi)];rfl
 .show [abc.cps.toList[i.toNat]]=_;have key:∀ j,j<26->abc.cps.toList[j]?=some (97+j):=by decide +kernel
  have:=key i.toNat (by omega);rw [Ze hi] at this;rw [Zz this]
theorem dX {x:Str} {j:Int} (h0:0<=j) (h1:j<=x.length):(Txt.slice x none (some j)).cps.toList=x.cps.toList.take j.toNat:=by
 have e:Txt.slice x none (some j)=StrLaws.sliceText x none (some j):=rfl;rw [e,StrLaws.sliceText_to ⟨h0,by rw [Zn];exact h1⟩];simp
theorem sF {x:Str} {j:Int} (h0:0<=j) (h1:j<=x.length):(Txt.slice x (some j) none).cps.toList=x.cps.toList.drop j.toNat:=by
 have e:Txt.slice x (some j) none=StrLaws.sliceText x (some j) none:=rfl;rw [e,StrLaws.sliceText_from ⟨h0,by rw [Zn];exact h1⟩];have h2:j<=(x.cps.toList.length:Int):=by rw [Zn];exact h1
 show (((x.cps.toList.drop j.toNat).take _).toArray).toList=_;rw [List.toList_toArray];exact Zbw (by rw [Zav];omega)
theorem qX (x:Str):x.cps.toList.length=x.length:=by rw [Zn];rfl
theorem zg7 {x:Str} {j:Int} {G:Hw} {Q:Q3} (h0:0<=j) (h1:j<=x.length) (hx:x.length<=1000) (a:wP x=true) (q:∀ y:Str,y.length<=j.toNat->wP y=true->y.cps.toList=x.cps.toList.take j.toNat->Q (.str y) G):slR (.str x) none (some j) G Q:=by
 refine ⟨sz _ (by omega),q _ ?_ ?_ (dX h0 h1)⟩
 .rw [← qX,dX h0 h1,Zac];omega
 .unfold wP;rw [dX h0 h1,ZI];exact fun c hc=>ZI.mp a c (List.mem_of_mem_take hc)
theorem zeu {x:Str} {j:Int} {G:Hw} {Q:Q3} (h0:0<=j) (h1:j<=x.length) (hx:x.length<=1000) (a:wP x=true) (q:∀ y:Str,y.length<=x.length-j.toNat->wP y=true->y.cps.toList=x.cps.toList.drop j.toNat->Q (.str y) G):slR (.str x) (some j) none G Q:=by
 refine ⟨sz _ (by omega),q _ ?_ ?_ (sF h0 h1)⟩
 .rw [← qX,sF h0 h1,Zav,qX];omega
 .unfold wP;rw [sF h0 h1,ZI];exact fun c hc=>ZI.mp a c (List.mem_of_mem_drop hc)
theorem ziR:wP "" = true:=by decide +kernel
theorem zck:∀ {ts:List Str},(∀ x∈ts,wP x=true)->wP (Str.join "" ts)=true
 | [],_=>by decide +kernel
 | [x],h=>h x zzT
 |x::y::r,h=>by
  show wP (x ++ "" ++ Str.join "" (y::r))=true;rw [pW,pW,h x zzT,ziR,zck fun z hz=>h z (Zo _ hz)];rfl
theorem zd0 {ts:List Str} (h:∀ x∈ts,x.length<=1) (g:∀ x∈ts,wP x=true) (hn:ts.length<=4):JoinOk "" ts=true/\(Txt.join "" ts).length<=4/\wP (Txt.join "" ts)=true:=by
 have e:("" : Str).length=0:=by decide +kernel
 refine ⟨?_,?_,?_⟩
 .unfold JoinOk;rw [StrLaws.joinFits h (by rw [e];omega)];rfl
 .have h1:=StrLaws.join_length_le "" ts;have h2:=StrLaws.sumLen_le ts h;rw [e] at h1;rw [show Txt.join "" ts=Str.join "" ts from StrLaws.glued_eq_join "" ts];refine Zy h1 ?_;omega
 .rw [show Txt.join "" ts=Str.join "" ts from StrLaws.glued_eq_join "" ts];exact zck g
theorem no_len {x:Str} (h:x∈noN):x.length<=4:=by
 have:∀ y∈noN,y.length<=4:=by decide +kernel
 exact this x h
theorem zjM {x:Str}:((noN.map W.str).any fun w=>vV w (.str x))=noN.contains x:=by
 rw [ZbU,Zbk];congr 1
 funext y
 simp only [Function.comp,vV];exact ZcA
def Nmd (A B:List Nat) (c:Nat) (x:Str):Prop:=x.cps.toList=A++c::B\/x.cps.toList=(A++c::B)++[113]
def cO (tn:Int) (k:Nat):Nat:=97+((tn+7 * (k:Int)) % 26).toNat
theorem zjF {tn:Int} {i j:Nat} (h:i<j) (hj:j<5):cO tn i≠cO tn j:=by
 unfold cO;omega
theorem zb7 {A B:List Nat} {c d:Nat} (h:A++c::B=A++d::B):c=d:=(List.cons.inj (List.append_cancel_left h)).1
theorem ziH {A B:List Nat} {tn:Int} {xs:List Str} (hl:xs.length<=5) (h:∀ k x,xs[k]?=some x->Nmd A B (cO tn k) x):xs.Nodup:=by
 refine List.pairwise_iff_getElem.mpr fun i j hi hj hij e=>?_;have n1:=h _ _ (Ze hj);have n2:=h _ _ (Ze hi);rw [e] at n2;have ne:=zjF (tn:=tn) hij (by omega);rcases n1 with n1|n1<;>rcases n2 with n2|n2<;>rw [n1] at n2
 .exact ne (zb7 n2).symm
 .have:=congrArg List.length n2;simp at this
  try omega
 .have:=congrArg List.length n2;simp at this
  try omega
 .exact ne (zb7 (List.append_cancel_right n2)).symm
theorem z_cps (x:Str):(x ++ "z").cps.toList=x.cps.toList++[122]:=by rw [ZbD,ZaW];rfl
theorem q_cps (x:Str):(x ++ "q").cps.toList=x.cps.toList++[113]:=by rw [ZbD,ZaW];rfl
theorem nmd_z {A B:List Nat} {tn:Int} {x:Str} {r:List Str} (nd:(x::r).Nodup) (h:∀ k y,(x::r)[k]?=some y->Nmd A B (cO tn k) y):((x ++ "z")::r).Nodup:=by
 obtain ⟨_,nr⟩:=Zaj.mp nd;refine Zaj.mpr ⟨fun hm=>?_,nr⟩;obtain ⟨k,hk,e⟩:=ZaO.mp hm;have n2:=h (k+1) _ (by rw [ZR,Ze hk]);rw [e] at n2;have n1:=h 0 x rfl;unfold Nmd at n2;rw [z_cps] at n2;rcases n1 with n1|n1<;>rcases n2 with n2|n2
 .rw [n1] at n2;have:=congrArg List.length n2;simp at this
  try omega
 .have:=List.append_inj_right' n2 rfl;cases this
 .rw [n1] at n2;have:=congrArg List.length n2;simp at this
  try omega
 .have:=List.append_inj_right' n2 rfl;cases this
section
variable {K : zA} {C : Nat → Addr}
theorem zb4 {n:Nat} (hn:11<=n) {ws:List W} {G:Hw} {Q:Q3} (h:rD ws G Q XN):yW (yI K C n) XN wS { nx:=fun _ G'=>Q .non G',rt:=Q } (xX vL ws) G:=by
 obtain ⟨d,l,m,rfl,D,m1,m4,h⟩:=h;have e1:(yI K C n).fn[1]?=some hZ:=qM 1 hn rfl;have e6:(yI K C n).fn[10]?=some tI:=qM 10 hn rfl;have t1:(yI K C n).mt[1]?=some zep:=rfl;have t2:(yI K C n).mt[2]?=some eApp:=rfl;have i0:(yI K C n).it[0]?=some mB:=rfl;have z0:=sz 0 (by decide);have z4:=sz 4 (by decide);have q1:("q" : Str).length=1:=by decide +kernel
 have q2:wP "q" = true:=by decide +kernel
 have w1:("z" : Str).length=1:=by decide +kernel
 have w2:wP "z" = true:=by decide +kernel
 show yW (yI K C n) XN wS { nx:=fun _ G'=>Q .non G',rt:=Q } [some (.ref d),some (.int m),none,none,none,none,none,none,none] G
 have go:∀ (G1:Hw) (p:Addr) (core:Str),core.length<=4->wP core=true->G p=none->p∉[d,l]->zV [d,l] G G1->xQ G1 d l->G1 p=some (.lst []) ->
   yW (yI K C n) XN (tl (tl (tl wS))) { nx:=fun _ G'=>Q .non G',rt:=Q } [some (.ref d),some (.int m),some (.str abc),some (.ref p),some (.str core),none,none,none,none] G1:=by
  intro G1 p core hc hg hpn hp k1 D1 gp;simp only [wS,tl];refine xY ?_
  ((try dsimp only [zO,zQ,zL,zD,yX,yP,yN,zM,zU,zK,zT,zY,zP,zN,zH,zJ,yU,zI,gZ,gS,tZ,tS]);try simp only [e1,e6,uD,uE,sz _ (show core.length<=3000 by omega),if_true,jO])
  refine ⟨d,l,core.length+1,rfl,D1,⟨by omega,by omega⟩,fun at' G2 a0 a1 k2 D2=>?_⟩;have gp2:=k2 _ _ hp gp;refine xY ?_
  ((try dsimp only [zO,zQ,zL,zD,yX,yP,yN,zM,zU,zK,zT,zY,zP,zN,zH,zJ,yU,zI,gZ,gS,tZ,tS]);try simp only [e6])
  refine ⟨d,l,26,rfl,D2,by decide,fun tn G3 tn0 tn1 k3 D3=>?_⟩;have gp3:=k3 _ _ hp gp2;have kG:=(k1.trans k2).trans k3;refine xY ?_
  ((try dsimp only [zO,zQ,zL,zD,yX,yP,yN,zM,zU,zK,zT,zY,zP,zN,zH,zJ,yU,zI,gZ,gS,tZ,tS]);try simp only [zP,i0])
  refine ⟨⟨by omega,by omega⟩,?_⟩;have len:((List.range m.toNat).map fun i:Nat=>W.int (i:Int)).length=m.toNat:=by simp
  refine ⟨fun i σ G'=>∃ (xs:List Str) (v7 v8:Option W),σ=[some (.ref d),some (.int m),some (.str abc),some (.ref p),some (.str core),some (.int at'),some (.int tn),v7,v8]/\G' p=some (.lst (xs.map .str))/\xs.length=i/\(∀ (k:Nat) (x:Str),xs[k]?=some x->Nmd (core.cps.toList.take at'.toNat) (core.cps.toList.drop at'.toNat) (cO tn k) x)/\zV [d,l] G G'/\xQ G' d l,
   ⟨[],none,none,rfl,gp3,rfl,fun k x hx=>by simp at hx,kG,D3⟩,fun _ _ _ _ _=>trivial,?_,?_⟩
  .rintro i w σ G' hw ⟨xs,v7,v8,rfl,gx,hl,hs,kp,D'⟩;rw [Zj] at hw;obtain ⟨i',hi',rfl⟩:=Zq.mp hw;have him:i<m.toNat:=by have:=(Zg.mp hi').1;simpa using this
   have hii:i'=i:=by
    have:=(Zg.mp hi').2;rw [ZaH] at this;exact this.symm
   subst hii;have him:i' < 5:=by omega
   refine xY ?_
   (try dsimp only [zO,zQ,zL,zD,yX,yP,yN,zM,zU,zK,zT,zY,zP,zN,zH,zJ,yU,zI,gZ,gS,tZ,tS])
   refine zg7 a0 (by omega) (by omega) hg fun y1 h1 s1 c1=>?_;refine ⟨.inl ⟨by omega,by omega⟩,by decide,?_⟩;refine zi8 (Int.emod_nonneg _ (by decide)) (Int.emod_lt_of_pos _ (by decide)) fun y2 h2 s2 c2=>?_;refine addS (by omega) (zeu a0 (by omega) (by omega) hg fun y3 h3 s3 c3=>addS (by rw [Za9];omega) ?_);have hlen:((y1++y2)++y3).length<=5:=by rw [Za9,Za9];omega
   have hlen1:1<=((y1++y2)++y3).length:=by rw [Za9,Za9];omega
   have hsg:wP ((y1++y2)++y3)=true:=by rw [pW,pW,s1,s2,s3];rfl
   have hcp:((y1++y2)++y3).cps.toList=core.cps.toList.take at'.toNat++cO tn i'::core.cps.toList.drop at'.toNat:=by
    rw [ZbD,ZaW,ZbD,ZaW,c1,c2,c3];simp [cO]
   generalize (y1++y2)++y3=nm at hlen hlen1 hsg hcp ⊢;refine xY ?_
   ((try dsimp only [zO,zQ,zL,zD,yX,yP,yN,zM,zU,zK,zT,zY,zP,zN,zH,zJ,yU,zI,gZ,gS,tZ,tS]);try simp only [yL,sN,L3.inR,zzB,if_false,zzC,zzL,zzA,Nat.reduceAdd,z4,true_and])
   refine ⟨⟨by simp [uP],by simp [wU,uP],by simp [qP,nG]⟩,?_⟩
   have app:∀ x:Str,Nmd (core.cps.toList.take at'.toNat) (core.cps.toList.drop at'.toNat) (cO tn i') x->tyW G' (.ref p) "list" /\ cA (.ref p) [.str x] G' (fun _ G1=>∃ (xs':List Str) (v7 v8:Option W),[some (W.ref d),some (.int m),some (.str abc),some (.ref p),some (.str core),some (.int at'),some (.int tn),some (.int i'),some (.str x)]=[some (.ref d),some (.int m),some (.str abc),some (.ref p),some (.str core),some (.int at'),some (.int tn),v7,v8]/\G1 p=some (.lst (xs'.map .str))/\xs'.length=i'+1/\(∀ (k:Nat) (x:Str),xs'[k]?=some x->Nmd (core.cps.toList.take at'.toNat) (core.cps.toList.drop at'.toNat) (cO tn k) x)/\zV [d,l] G G1/\xQ G1 d l):=by
    intro x hx;refine ⟨tyL gx,appL gx (by rw [zzM];omega) ⟨xs++[x],_,_,rfl,by rw [zX];simp,by simp [hl],fun k y hy=>?_,dA kp hpn,uT hp D'⟩⟩
    by_cases hk:k<xs.length
    .rw [Zar hk] at hy;exact hs k y hy
    .have hk2:k=xs.length:=by
      have:=(Zg.mp hy).1;simp at this;omega
     subst hk2;simp at hy;subst hy;rw [hl];exact hx
   have en:([W.str "and", .str "or", .str "not", .str "then"].any fun w=>vV w (.str nm))=noN.contains nm:=zjM;rw [en]
   by_cases hno:nm∈noN
   .rw [if_pos (by simpa using hno)];refine xY ?_
    (try dsimp only [zO,zQ,zL,zD,yX,yP,yN,zM,zU,zK,zT,zY,zP,zN,zH,zJ,yU,zI,gZ,gS,tZ,tS])
    refine addS (by omega) ?_;refine vQ ?_;refine xY ?_
    ((try dsimp only [zO,zQ,zL,zD,yX,yP,yN,zM,zU,zK,zT,zY,zP,zN,zH,zJ,yU,zI,gZ,gS,tZ,tS]);try simp only [t2])
    have:=no_len hno;exact app _ (.inr (by rw [q_cps,hcp]))
   .rw [if_neg (by simpa using hno)];refine vQ ?_;refine xY ?_
    ((try dsimp only [zO,zQ,zL,zD,yX,yP,yN,zM,zU,zK,zT,zY,zP,zN,zH,zJ,yU,zI,gZ,gS,tZ,tS]);try simp only [t2])
    exact app _ (.inl hcp)
  .rintro σ G' ⟨xs,v7,v8,rfl,gx,hl,hs,kp,D'⟩;rw [len] at hl
   obtain ⟨x,r,rfl⟩:∃ x r,xs=x::r:=by
    cases xs with
    |nil=>simp at hl;omega
    |cons x r=>exact ⟨x,r,rfl⟩
   have hlr:r.length+1=m.toNat:=by simpa using hl
   have nd0:(x::r).Nodup:=ziH (by simp;omega) hs
   have fin:∀ (ys:List Str) (G2:Hw),ys.length=m.toNat->ys.Nodup->zV [d,l] G G2->xQ G2 d l->G2 p=some (.lst (ys.map .str))->∀ v7 v8:Option W,yW (yI K C n) XN (.cons (.ret (.var 3)) .nil) { nx:=fun _ G'=>Q .non G',rt:=Q } [some (.ref d),some (.int m),some (.str abc),some (.ref p),some (.str core),some (.int at'),some (.int tn),v7,v8] G2:=by
    intro ys G2 hy hs2 k4 D4 g4 v7 v8;refine xY ?_
    (try dsimp only [zO,zQ,zL,zD,yX,yP,yN,zM,zU,zK,zT,zY,zP,zN,zH,zJ,yU,zI,gZ,gS,tZ,tS])
    exact h p ys G2 hy hs2 hp g4 k4 D4
   refine xY ?_
   ((try dsimp only [zO,zQ,zL,zD,yX,yP,yN,zM,zU,zK,zT,zY,zP,zN,zH,zJ,yU,zI,gZ,gS,tZ,tS]);try simp only [yL,pJ])
   by_cases hm:1<m
   .rw [if_pos (by simpa using hm)]
    ((try dsimp only [zO,zQ,zL,zD,yX,yP,yN,zM,zU,zK,zT,zY,zP,zN,zH,zJ,yU,zI,gZ,gS,tZ,tS]);try simp only [e6])
    refine ⟨d,l,2,rfl,D',by decide,fun b G4 b0 b1 k4 D4=>?_⟩;have gx4:=k4 _ _ hp gx;simp only [xI]
    by_cases hb:b=1
    .rw [decide_eq_true hb,if_pos rfl];refine xY ?_
     (try dsimp only [zO,zQ,zL,zD,yX,yP,yN,zM,zU,zK,zT,zY,zP,zN,zH,zJ,yU,zI,gZ,gS,tZ,tS])
     refine ixL (zS gx4) ?_;rw [zzU,at_0]
     have hx:x.length<=100:=by
      have:=hs 0 x rfl;rw [← qX];have l1:=qX core;rcases this with e|e<;>rw [e]<;>simp only [zzW,Zh,Zs,Zac,Zav]<;>omega
     refine addS (by omega) ?_;rw [zzU] at gx4;simp only [rN,gx4];have e0:cZ (W.str x::r.map W.str).length 0=some 0:=by simp [cZ]
     rw [e0];refine vQ ?_;refine fin ((x ++ "z")::r) _ (by simpa using hlr) (nmd_z nd0 hs) (dA (kp.trans k4) hpn) (uT hp D4) (by rw [zX];rfl) v7 v8
    .rw [decide_eq_false hb,if_neg zzN];refine vQ ?_;exact fin (x::r) _ hl nd0 (kp.trans k4) D4 gx4 v7 v8
   .rw [if_neg (by simpa using hm),if_neg zzN];refine vQ ?_;exact fin (x::r) _ hl nd0 kp D' gx v7 v8
 simp only [wS,tl] at go;simp only [wS];refine xY ?_
 (try dsimp only [zO,zQ,zL,zD,yX,yP,yN,zM,zU,zK,zT,zY,zP,zN,zH,zJ,yU,zI,gZ,gS,tZ,tS])
 refine xY ?_
 ((try dsimp only [zO,zQ,zL,zD,yX,yP,yN,zM,zU,zK,zT,zY,zP,zN,zH,zJ,yU,zI,gZ,gS,tZ,tS]);try simp only [Zs,z0,true_and])
 intro p hp;have hpd:=sS D hp;have D1:=xG (o:=.lst []) hp D;have k1:zV [d,l] G (put G p (.lst [])):=zV.new hp;have gp:(put G p (.lst [])) p=some (.lst []):=zX;generalize put G p (.lst [])=G1 at D1 k1 gp ⊢;refine xY ?_
 ((try dsimp only [zO,zQ,zL,zD,yX,yP,yN,zM,zU,zK,zT,zY,zP,zN,zH,zJ,yU,zI,gZ,gS,tZ,tS]);try simp only [t1,e6,zP,zN,i0])
 refine ⟨rfl,d,l,5,rfl,D1,by decide,fun j G2 j0 j5 k2 D2=>?_⟩;have gp2:=k2 _ _ hpd gp;refine ⟨⟨by omega,by omega⟩,?_⟩;have len:((List.range j.toNat).map fun i:Nat=>W.int (i:Int)).length=j.toNat:=by simp
 refine ⟨fun i acc G'=>∃ ts:List Str,acc=ts.map .str/\ts.length=i/\(∀ x∈ts,x.length<=1/\wP x=true)/\zV [d,l] G2 G'/\xQ G' d l,⟨[],rfl,rfl,by simp,zV.refl,D2⟩,?_,by rw [len];exact sz _ (by omega),?_,?_⟩
 .rintro i acc G' ⟨ts,rfl,rfl,_,_,_⟩ _;exact ⟨trivial,by simp⟩
 .rintro i w acc G' hw ⟨ts,rfl,hl,hs,kp,D'⟩;simp only [vU,Zh,Zs,List.replicate,zzU,zzV,ZT,ZZ,ZO]
  ((try dsimp only [zO,zQ,zL,zD,yX,yP,yN,zM,zU,zK,zT,zY,zP,zN,zH,zJ,yU,zI,gZ,gS,tZ,tS]);try simp only [Z0,if_true,e6])
  refine ⟨d,l,26,rfl,D',by decide,fun r G'' r0 r1 kp' D''=>zi8 r0 r1 fun x hx sx _=>?_⟩;refine ⟨ts++[x],by simp,by simp [hl],fun y hy=>?_,kp.trans kp',D''⟩;rcases Z3.mp hy with hy|hy
  .exact hs y hy
  .rw [zzO hy,hx];exact ⟨zzR _,sx⟩
 .rintro acc G' ⟨ts,rfl,hl,hs,kp,D'⟩ r hr;have hl4:ts.length<=4:=by rw [hl,len];omega
  obtain ⟨jo,jl,js⟩:=zd0 (fun x hx=>(hs x hx).1) (fun x hx=>(hs x hx).2) hl4;refine ⟨ts,zS zX,jo,?_⟩;have k3:zV [d,l] G' (put G' r (.lst (ts.map .str))):=zV.new hr;exact go _ p _ jl js hp hpd (((k1.trans k2).trans kp).trans k3) (xG hr D') (k3 _ _ hpd (kp _ _ hpd gp2))
end
theorem pE {α:Type} [DecidableEq α]:∀ {a b:List α},a.Nodup->(∀ x∈a,x∈b)->a.length<=b.length
 | [],b,_,_=>ZX _
 |x::a,b,nd,h=>by
  obtain ⟨n1,n2⟩:=Zaj.mp nd;have hx:x∈b:=h x zzT
  have ih:=pE (a:=a) (b:=b.erase x) n2 fun y hy=>by
   have hne:y≠x:=fun e=>n1 (e▸hy);exact (List.mem_erase_of_ne hne).mpr (h y (Zo _ hy))
  rw [List.length_erase_of_mem hx] at ih;have:=List.length_pos_of_mem hx;rw [Zh];omega
def wZ (lk:List (yM×W)) (S:List Nat):Prop:=lk.map (·.1)=S.map fun n:Nat=>Sum.inl (n:Int)
theorem zax {lk:List (yM×W)} {S:List Nat} (h:wZ lk S) (n:Nat):cX lk (.inl (n:Int))=true↔n∈S:=by
 unfold cX;rw [show (lk.any fun p=>decide (p.1=Sum.inl (n:Int)))=(lk.map (·.1)).any fun k=>decide (k=Sum.inl (n:Int)) by rw [ZbU];rfl,h,ZbU,List.any_eq_true]
 constructor
 .rintro ⟨m,hm,e⟩;simp only [Function.comp,decide_eq_true_eq,Sum.inl.injEq] at e;rw [show n=m by omega];exact hm
 .intro hm;exact ⟨n,hm,by simp⟩
theorem zaw {lk:List (yM×W)} {S:List Nat} (h:wZ lk S) (n:Nat) (v:W):wZ (qV lk (.inl (n:Int)) v) (if n∈S then S else S++[n]):=by
 have hm:=zax h n;unfold cX at hm;unfold qV wZ
 by_cases hs:n∈S
 .rw [if_pos (hm.mpr hs),if_pos hs,Zaf];unfold wZ at h;rw [← h];apply Zbi;intro p hp;show (if p.1=Sum.inl (n:Int) then (p.1,v) else p).1=p.1
  split<;>rfl
 .rw [if_neg (fun z=>hs (hm.mp z)),if_neg hs,Zai,Zai];unfold wZ at h;rw [h];rfl
theorem zay {lk:List (yM×W)} {S:List Nat} (h:wZ lk S):lk.length=S.length:=by
 have:=congrArg List.length h;simpa using this
theorem za1 {lk:List (yM×W)} {S:List Nat} (h:wZ lk S):(lk.map fun kv=>kW kv.1)=tT S:=by
 rw [show (lk.map fun kv=>kW kv.1)=(lk.map (·.1)).map kW by rw [Zaf];rfl,h,Zaf];rfl
def add (S:List Nat) (n:Nat):List Nat:=if n∈S then S else S++[n]
theorem qL {S:List Nat} {n m:Nat}:m∈add S n↔m∈S\/m=n:=by
 unfold add
 split
 .rename_i h
  constructor
  .exact .inl
  .rintro (h'|rfl)
   .exact h'
   .exact h
 .simp
theorem zfc {S:List Nat} {n:Nat} (h:S.Nodup):(add S n).Nodup:=by
 unfold add
 split
 .exact h
 .rename_i hn;rw [List.nodup_append];exact ⟨h,by simp,fun a ha b hb e=>hn (by rw [zzO hb] at e;exact e▸ha)⟩
structure Fw (f:Nat->Wd) (xs:List Str) (M lo:Nat):Prop where
 nx:∀ j,lo<=j->j<M->∀ m∈(f j).ls,j<m/\m<M/\(∀ x∈(f j).ns,x∈(f m).ns)/\∀ q∈(f m).ls,q∈(f j).ls
 nl:∀ j,lo<=j->j<M->(f j).ns.length<=5
 ll:∀ j,lo<=j->j<M->(f j).ls.length<=12
 up:∀ j,lo<=j->j<M->ups (f j).ns=true/\upi ((f j).ls.map fun n:Nat=>(n:Int))=true
def Rows (f:Nat->Wd) (kvs:List (yM×W)) (M lo:Nat):Prop:=∀ j:Nat,lo<=j->j<M->vF kvs (.inl (j:Int))=some (f j).w
structure Lat (f:Nat->Wd) (M a:Nat) (S:List Nat):Prop where
 nd:S.Nodup
 rg:∀ m∈S,a<m/\m<M
 cl:∀ m∈S,∀ q∈(f m).ls,q∈S
theorem Lat.len {f:Nat->Wd} {M a:Nat} {S:List Nat} (h:Lat f M a S) (hM:M<=12):S.length<=12:=by
 have:=pE (b:=List.range M) h.nd fun x hx=>Zax.mpr (h.rg x hx).2;rw [Zae] at this;omega
def forB:IS->ISs
 | .for _ _ b=>b
 |_=>.nil
def at3:ISs->IS:=fun b=>hdS (tl (tl b))
section
variable {K : zA} {C : Nat → Addr}
theorem zbi {n:Nat} (hn:12<=n) {d l r pr ld:Addr} {m:Int} {M a:Nat} {f:Nat->Wd} {xs:List Str} {kvs:List (yM×W)} {G:Hw} {v7 v8 v9:Option W} (hM:M<=12) (ha:a<M) (D0:xQ G d l) (np:pr∉[d,l]) (nl:ld∉[d,l]) (npl:ld≠pr) (gp:G pr=some (.dic kvs)) (rw':Rows f kvs M (a+1)) (fw:Fw f xs M (a+1)) (gl:G ld=some (.dic []))
  (D:End3) (hD:∀ (G':Hw) (lk:List (yM×W)) (S:List Nat) (v7 v8:Option W),zV [d,l,ld] G G'->xQ G' d l->G' pr=some (.dic kvs)->G' ld=some (.dic lk)->wZ lk S->Lat f M a S->D.nx [some (.ref d),some (.ref r),some (.int m),some (.int (M:Nat)),some (.ref pr),some (.int (a:Nat)),some (.ref ld),v7,v8,v9] G') :
  zO (yI K C n) XN (hdS (tl (forB (at3 xF)))) D [some (.ref d),some (.ref r),some (.int m),some (.int (M:Nat)),some (.ref pr),some (.int (a:Nat)),some (.ref ld),v7,v8,v9] G:=by
 have e10:(yI K C n).fn[10]?=some tI:=qM 10 hn rfl;have i0:(yI K C n).it[0]?=some mB:=rfl;simp only [xF,at3,hdS,tl,forB]
 ((try dsimp only [zO,zQ,zL,zD,yX,yP,yN,zM,zU,zK,zT,zY,zP,zN,zH,zJ,yU,zI,gZ,gS,tZ,tS]);try simp only [i0,jO])
 refine ⟨⟨by omega,by omega⟩,⟨by omega,by omega⟩,?_⟩;have len:((List.range ((M:Int)-((a:Int)+1)).toNat).map fun k:Nat=>W.int ((a:Int)+1+(k:Nat))).length=M-(a+1):=by simp;omega
 refine ⟨fun i σ G'=>∃ (lk:List (yM×W)) (S:List Nat) (v7 v8:Option W),σ=[some (.ref d),some (.ref r),some (.int m),some (.int (M:Nat)),some (.ref pr),some (.int (a:Nat)),some (.ref ld),v7,v8,v9]/\zV [d,l,ld] G G'/\xQ G' d l/\G' pr=some (.dic kvs)/\G' ld=some (.dic lk)/\wZ lk S/\Lat f M a S,
  ⟨[],[],v7,v8,rfl,zV.refl,D0,gp,gl,rfl,⟨ZbZ,(fun _ z=>nomatch z),(fun _ z=>nomatch z)⟩⟩,fun _ _ _ _ _=>trivial,?_,?_⟩
 .rintro i w σ G1 hw ⟨lk,S,v7,v8,rfl,k1,D1,gp1,gl1,ks,la⟩;have hi:i<M-(a+1):=by have:=(Zg.mp hw).1;rwa [len] at this
  have ew:w=.int ((a+1+i:Nat):Int):=by
   rw [Zj] at hw;obtain ⟨q,hq,rfl⟩:=Zq.mp hw
   have:q=i:=by
    have:=(Zg.mp hq).2;rw [ZaH] at this;exact this.symm
   subst this;congr 1
  subst ew;have hj:a+1<=a+1+i/\a+1+i<M:=by omega
  generalize a+1+i=j at hj ⊢
  have stay:∀ (G2:Hw) (v7 v8:Option W),zV [d,l,ld] G G2->xQ G2 d l->G2 pr=some (.dic kvs)->G2 ld=some (.dic lk)->∃ (lk:List (yM×W)) (S:List Nat) (v7' v8':Option W),[some (W.ref d),some (.ref r),some (.int m),some (.int (M:Nat)),some (.ref pr),some (.int (a:Nat)),some (.ref ld),v7,v8,v9]=[some (.ref d),some (.ref r),some (.int m),some (.int (M:Nat)),some (.ref pr),some (.int (a:Nat)),some (.ref ld),v7',v8',v9]/\zV [d,l,ld] G G2/\xQ G2 d l/\G2 pr=some (.dic kvs)/\G2 ld=some (.dic lk)/\wZ lk S/\Lat f M a S :=
   fun G2 v7 v8 k2 D2 gp2 gl2=>⟨lk,S,_,_,rfl,k2,D2,gp2,gl2,ks,la⟩
  refine xY ?_
  ((try dsimp only [zO,zQ,zL,zD,yX,yP,yN,zM,zU,zK,zT,zY,zP,zN,zH,zJ,yU,zI,gZ,gS,tZ,tS]);try simp only [yL,sN,gl1,qC,if_true])
  cases hk:cX lk (.inl (j:Int)) with
  |true =>
   simp only [ZG,zzB,if_false];refine vQ ?_;exact stay G1 _ _ k1 D1 gp1 gl1
  |false =>
   simp only [Z4,if_true,e10];refine ⟨d,l,3,rfl,D1,by decide,fun b G2 b0 b1 k2 D2=>?_⟩;have kk:zV [d,l,ld] G G2:=k1.trans (k2.mono (by intro x hx;simp at hx ⊢;rcases hx with h|h<;>simp [h]));have gp2:=k2 _ _ np gp1;have gl2:=k2 _ _ nl gl1;simp only [xI]
   by_cases hb:b=0
   .rw [decide_eq_true hb,if_pos rfl];have hll:=la.len hM;have hkl:=zay ks;have hjS:j∉S:=fun z=>by rw [(zax ks j).mpr z] at hk;cases hk
    have rj:=rw' j hj.1 hj.2;refine xY ?_
    ((try dsimp only [zO,zQ,zL,zD,yX,yP,yN,zM,zU,zK,zT,zY,zP,zN,zH,zJ,yU,zI,gZ,gS,tZ,tS]);try simp only [rN,gl2,qC])
    refine ⟨by rw [ZD];omega,?_⟩;have k3:zV [d,l,ld] G (put G2 ld (.dic (qV lk (.inl (j:Int)) (.bl true)))):=kk.trans (zV.put (by simp));have D3:=uT (o:=.dic (qV lk (.inl (j:Int)) (.bl true))) nl D2;have gp3:(put G2 ld (.dic (qV lk (.inl (j:Int)) (.bl true)))) pr=some (.dic kvs):=by rw [yD (Ne.symm npl)];exact gp2
    have gl3:(put G2 ld (.dic (qV lk (.inl (j:Int)) (.bl true)))) ld=some (.dic (qV lk (.inl (j:Int)) (.bl true))):=zX;generalize put G2 ld (.dic (qV lk (.inl (j:Int)) (.bl true)))=G3 at k3 D3 gp3 gl3 ⊢;refine xY ?_
    ((try dsimp only [zO,zQ,zL,zD,yX,yP,yN,zM,zU,zK,zT,zY,zP,zN,zH,zJ,yU,zI,gZ,gS,tZ,tS]);try simp only [rX,gp3,qC,rj,Wd.w,at_1,qA])
    have ks3:=zaw ks j (.bl true);have lenl:(tT (f j).ls).length=(f j).ls.length:=by simp [tT]
    refine ⟨fun i σ G'=>∃ (lk:List (yM×W)) (S':List Nat) (v8:Option W),σ=[some (.ref d),some (.ref r),some (.int m),some (.int (M:Nat)),some (.ref pr),some (.int (a:Nat)),some (.ref ld),some (.int (j:Nat)),v8,v9]/\zV [d,l,ld] G G'/\xQ G' d l/\G' pr=some (.dic kvs)/\G' ld=some (.dic lk)/\wZ lk S'/\S'.Nodup/\(∀ q∈S,q∈S')/\j∈S'/\(∀ q∈(f j).ls.take i,q∈S')/\∀ q∈S',q∈S\/q=j\/q∈(f j).ls,
     ⟨_,add S j,v8,rfl,k3,D3,gp3,gl3,ks3,zfc la.nd,fun q hq=>qL.mpr (.inl hq),qL.mpr (.inr rfl),by simp,fun q hq=>(qL.mp hq).imp id .inl⟩,fun _ _ _ _ _=>trivial,?_,?_⟩
    .rintro i2 w2 σ2 G4 hw2 ⟨lk4,S4,v8',rfl,k4,D4,gp4,gl4,ks4,nd4,s1,s2,s3,s4⟩;simp only [tT,Zj] at hw2;obtain ⟨q,hq,rfl⟩:=Zq.mp hw2;have hql:=Zv hq;have hi2:=(Zg.mp hq).1;have eq2:(f j).ls[i2]=q:=(Zg.mp hq).2
     have sl4:S4.length<=12:=by
      have:=pE (b:=List.range M) nd4 fun x hx=>Zax.mpr (by
       rcases s4 x hx with h|rfl|h
       .exact (la.rg x h).2
       .exact hj.2
       .exact (fw.nx j hj.1 hj.2 x h).2.1)
      rw [Zae] at this;omega
     have hkl4:=zay ks4;refine xY ?_
     ((try dsimp only [zO,zQ,zL,zD,yX,yP,yN,zM,zU,zK,zT,zY,zP,zN,zH,zJ,yU,zI,gZ,gS,tZ,tS]);try simp only [rN,gl4,qC])
     refine ⟨by rw [ZD];omega,?_⟩;refine vQ ?_;refine ⟨_,add S4 q,_,rfl,k4.trans (zV.put (by simp)),uT nl D4,by rw [yD (Ne.symm npl)];exact gp4,zX,zaw ks4 q _,zfc nd4,fun x hx=>qL.mpr (.inl (s1 x hx)),qL.mpr (.inl s2),fun x hx=>?_,fun x hx=>?_⟩
     .rw [Zam hi2,eq2] at hx;rcases Z3.mp hx with hx|hx
      .exact qL.mpr (.inl (s3 x hx))
      .exact qL.mpr (.inr (zzO hx))
     .rcases qL.mp hx with hx|rfl
      .exact s4 x hx
      .exact .inr (.inr hql)
    .rintro σ2 G4 ⟨lk4,S4,v8',rfl,k4,D4,gp4,gl4,ks4,nd4,s1,s2,s3,s4⟩;rw [lenl,Zcj] at s3;refine ⟨lk4,S4,_,_,rfl,k4,D4,gp4,gl4,ks4,nd4,fun x hx=>?_,fun x hx q hq=>?_⟩
     .rcases s4 x hx with h|rfl|h
      .exact la.rg x h
      .exact ⟨by omega,hj.2⟩
      .have:=fw.nx j hj.1 hj.2 x h;exact ⟨by omega,this.2.1⟩
     .rcases s4 x hx with h|rfl|h
      .exact s1 q (la.cl x h q hq)
      .exact s3 q hq
      .exact s3 q ((fw.nx j hj.1 hj.2 x h).2.2.2 q hq)
   .rw [decide_eq_false hb,if_neg zzN];refine vQ ?_;exact stay G2 _ _ kk D2 gp2 gl2
 .rintro σ G1 ⟨lk,S,v7,v8,rfl,k1,D1,gp1,gl1,ks,la⟩;exact hD G1 lk S v7 v8 k1 D1 gp1 gl1 ks la
end
theorem zef {G:Hw} {ld:Addr} {lk:List (yM×W)} {S:List Nat} {R:List W->(Hw->Prop)->Hw->Prop} (h:jY G ld=some lk) (ks:wZ lk S) (q:R (tT S) (fun G'=>G' ld=some (.fzd lk)) (put G ld (.fzd lk))):qA (.ref ld) G R:=by
 have hl:yV G ld=none:=by
  unfold jY at h;unfold yV
  cases e:G ld with
  |none=>rfl
  |some o =>
   rw [e] at h;cases o<;>first|rfl|cases h
 simp only [qA,hl,h];rw [za1 ks];exact q
theorem zjg {G:Hw} {p:Addr} {ws:List W} {R:List W->(Hw->Prop)->Hw->Prop} (h:G p=some (.lst ws)) (q:R ws (fun G'=>yV G' p=some ws) G):qA (.ref p) G R:=by
 simp only [qA,zS h];exact q
theorem zdH {ns:List Int} {S:List Nat} (h:ns.Perm (S.map fun n:Nat=>(n:Int))):∃ ls:List Nat,ns=ls.map (fun n:Nat=>(n:Int))/\ls.Perm S:=by
 refine ⟨ns.map Int.toNat,?_,?_⟩
 .rw [Zaf]
  have:∀ x∈ns,((fun n:Nat=>(n:Int)) ∘ Int.toNat) x=x:=fun x hx=>by
   obtain ⟨n,_,rfl⟩:=zzP (h.mem_iff.mp hx);simp
  rw [Zbi this,List.map_id']
 .have:=h.map Int.toNat;rw [Zaf] at this
  have e:S.map (Int.toNat ∘ fun n:Nat=>(n:Int))=S:=by
   have:∀ x∈S,(Int.toNat ∘ fun n:Nat=>(n:Int)) x=x:=fun x _=>by simp
   rw [Zbi this,List.map_id']
  rwa [e] at this
theorem zeh {α:Type} (p:α->Bool) (l:List α) (x:α):(l++[x]).find? p=(l.find? p).or (if p x=true then some x else none):=by
 rw [List.find?_append];congr 1;cases h:p x<;>simp [h]
theorem zjB {k q:yM} {v:W} (h:q≠k):∀ kvs:List (yM×W),vF (kvs.map fun kv=>if kv.1=k then (kv.1,v) else kv) q=vF kvs q
 | []=>rfl
 |x::r=>by
  have ih:=zjB (v:=v) h r;unfold vF at ih ⊢;rw [zzU,ZY,ZY]
  by_cases hx:x.1=k
  .rw [if_pos hx];have n2:decide (x.1=q)=false:=decide_eq_false fun z=>h (z▸hx);simp only [n2];exact ih
  .rw [if_neg hx]
   cases decide (x.1=q) with
   |true=>rfl
   |false=>exact ih
theorem zjC {k:yM} {v:W}:∀ kvs:List (yM×W),(kvs.any fun kv=>decide (kv.1=k))=true->vF (kvs.map fun kv=>if kv.1=k then (kv.1,v) else kv) k=some v
 | [],h=>by cases h
 |x::r,h=>by
  have ih:=zjC (k:=k) (v:=v) r;unfold vF at ih ⊢;rw [zzU,ZY]
  by_cases hx:x.1=k
  .rw [if_pos hx];simp only [decide_eq_true hx];rfl
  .rw [if_neg hx];rw [ZaG,decide_eq_false hx,ZcB] at h;simp only [decide_eq_false hx];exact ih h
theorem zes {kvs:List (yM×W)} {k q:yM} {v:W}:vF (qV kvs k v) q=if q=k then some v else vF kvs q:=by
 unfold qV
 split
 .rename_i h
  by_cases hq:q=k
  .subst hq;rw [if_pos rfl,zjC _ h]
  .rw [if_neg hq,zjB hq]
 .rename_i h;unfold vF;rw [zeh]
  by_cases e:q=k
  .subst e
   have:kvs.find? (fun kv=>decide (kv.1=q))=none:=by
    rw [List.find?_eq_none];intro x hx z;exact h (List.any_eq_true.mpr ⟨x,hx,z⟩)
   rw [this,if_pos rfl];simp
  .rw [if_neg e,if_neg (by simpa using fun z=>e z.symm)];simp
theorem zer (kvs:List (yM×W)) (k:yM) (v:W):(qV kvs k v).length<=kvs.length+1:=by
 unfold qV
 split
 .rw [zzM];omega
 .rw [zzW];simp
theorem bG {α:Type} {xs ts:List α} {i:Nat} {x:α} (h:ts.Sublist (xs.take i)) (hx:xs[i]?=some x):(ts++[x]).Sublist (xs.take (i+1)):=by
 obtain ⟨hi,rfl⟩:=Zg.mp hx;rw [Zam hi];exact h.append (List.Sublist.refl _)
theorem bF {α:Type} {xs ts:List α} {i:Nat} (h:ts.Sublist (xs.take i)):ts.Sublist (xs.take (i+1)):=h.trans (List.take_sublist_take_left (Zbj i))
section
variable {K : zA} {C : Nat → Addr}
def zh6:ISs->ISs:=fun b=>tl (tl (forB (at3 b)))
theorem zft {n:Nat} (hn:12<=n) {d l r pr ld:Addr} {m:Int} {M a:Nat} {f:Nat->Wd} {xs:List Str} {kvs lk:List (yM×W)} {S:List Nat} {G:Hw} {v7 v8 v9:Option W} (hM:M<=12) (ha:a<M) (D0:xQ G d l) (nr:r∉[d,l]) (np:pr∉[d,l]) (nl:ld∉[d,l]) (npl:ld≠pr) (gr:G r=some (.lst (xs.map .str))) (hx:xs.length<=5) (hxn:xs.Nodup) (gp:G pr=some (.dic kvs)) (hkv:kvs.length<=100) (rw':Rows f kvs M (a+1)) (gl:G ld=some (.dic lk)) (ks:wZ lk S) (la:Lat f M a S)
  (D:End3) (hD:∀ (G':Hw) (us:List Str) (ls:List Nat) (v9:Option W),zV [d,l,ld,pr] G G'->xQ G' d l->us.length<=5->(ups us=true/\upi (ls.map fun n:Nat=>(n:Int))=true)->(∀ x∈us,∀ j∈S,x∈(f j).ns)->ls.Perm S->G' pr=some (.dic (qV kvs (.inl (a:Int)) (Wd.w ⟨us,ls⟩)))->D.nx [some (.ref d),some (.ref r),some (.int m),some (.int (M:Nat)),some (.ref pr),some (.int (a:Nat)),some (.ref ld),v7,v8,v9] G') :
  yW (yI K C n) XN (zh6 xF) D [some (.ref d),some (.ref r),some (.int m),some (.int (M:Nat)),some (.ref pr),some (.int (a:Nat)),some (.ref ld),v7,v8,v9] G:=by
 have e2:(yI K C n).fn[2]?=some eAll:=qM 2 hn rfl;have e5:(yI K C n).fn[5]?=some zcF:=qM 5 hn rfl;have e6:(yI K C n).fn[6]?=some eTup:=qM 6 hn rfl;have e10:(yI K C n).fn[10]?=some tI:=qM 10 hn rfl;have z2:=sz 2 (by decide);have hS:=la.len hM;simp only [xF,zh6,at3,hdS,tl,forB];refine xY ?_
 (try dsimp only [zO,zQ,zL,zD,yX,yP,yN,zM,zU,zK,zT,zY,zP,zN,zH,zJ,yU,zI,gZ,gS,tZ,tS])
 refine zjg gr ?_;refine ⟨fun i acc G'=>∃ ts:List Str,acc=ts.map .str/\ts.length<=i/\ts.Sublist (xs.take i)/\zV [d,l] G G'/\xQ G' d l,⟨[],rfl,zzR _,by simp,zV.refl,D0⟩,?_,sz _ (by rw [zzM];omega),?_,?_⟩
 .rintro i acc G' ⟨ts,rfl,h1,_,k,_⟩ _;exact ⟨zS (k _ _ nr gr),by simpa using h1⟩
 .rintro i w acc G' hw ⟨ts,rfl,h1,h2,k,D'⟩;rw [Zj] at hw;obtain ⟨x,hx',rfl⟩:=Zq.mp hw;simp only [vU,List.replicate,zzU,zzV,ZT,ZZ,gZ,gS,Z0,Zh,Zs]
  ((try dsimp only [zO,zQ,zL,zD,yX,yP,yN,zM,zU,zK,zT,zY,zP,zN,zH,zJ,yU,zI,gZ,gS,tZ,tS]);try simp only [e10])
  refine ⟨d,l,2,rfl,D',by decide,fun b G2 b0 b1 k2 D2=>?_⟩;simp only [yL,xI]
  by_cases hb:b=1
  .rw [decide_eq_true hb,if_pos rfl];exact ⟨ts++[x],by simp,by simp;omega,bG h2 hx',k.trans k2,D2⟩
  .rw [decide_eq_false hb,if_neg zzN];exact ⟨ts,rfl,by omega,bF h2,k.trans k2,D2⟩
 rintro acc G1 ⟨ts,rfl,h1,h2,k1,D1⟩ p9 hp9;rw [zzM] at h1;have n9:=sS D1 hp9;have k2:zV [d,l] G (put G1 p9 (.lst (ts.map .str))):=k1.trans (zV.new hp9);have D2:=xG (o:=.lst (ts.map .str)) hp9 D1;have g9:(put G1 p9 (.lst (ts.map .str))) p9=some (.lst (ts.map .str)):=zX;generalize put G1 p9 (.lst (ts.map .str))=G2 at k2 D2 g9 ⊢;have gp2:=k2 _ _ np gp;have gl2:=k2 _ _ nl gl;have n9l:p9≠ld:=fun e=>by rw [e,gl2] at g9;cases g9
 refine xY ?_
 (try dsimp only [zO,zQ,zL,zD,yX,yP,yN,zM,zU,zK,zT,zY,zP,zN,zH,zJ,yU,zI,gZ,gS,tZ,tS])
 refine zjg g9 ?_;refine ⟨fun i acc G'=>∃ us:List Str,acc=us.map .str/\us.length<=i/\(us.Sublist (ts.take i)/\∀ x∈us,∀ j∈S,x∈(f j).ns)/\zV [ld] G2 G'/\jY G' ld=some lk,⟨[],rfl,zzR _,by simp,zV.refl,by unfold jY;rw [gl2]⟩,?_,sz _ (by rw [zzM];omega),?_,?_⟩
 .rintro i acc G' ⟨us,rfl,h3,_,k,_⟩ _;exact ⟨zS (k _ _ (by simpa using n9l) g9),by simpa using h3⟩
 .rintro i w acc G' hw ⟨us,rfl,h3,h4,k,hd⟩;rw [Zj] at hw;obtain ⟨x,hx',rfl⟩:=Zq.mp hw;simp only [vU,List.replicate,zzU,zzV,ZT,ZZ,gZ,gS,Z0,Zh,Zs]
  ((try dsimp only [zO,zQ,zL,zD,yX,yP,yN,zM,zU,zK,zT,zY,zP,zN,zH,zJ,yU,zI,gZ,gS,tZ,tS]);try simp only [e2])
  refine zef hd ks ?_;have k3:zV [ld] G2 (put G' ld (.fzd lk)):=k.trans (zV.put (by simp));have g3:(put G' ld (.fzd lk)) ld=some (.fzd lk):=zX;generalize put G' ld (.fzd lk)=G3 at k3 g3 ⊢;have gp3:=k3 _ _ (by simpa using Ne.symm npl) gp2;refine zdV (fun q=>some (.bl ((f (S.getD q 0)).ns.contains x))) (by simp only [tT,zzM];omega) (fun G'' k4=>k4 _ _ (by simp) g3) (fun q u G4 kk hu k4 hk=>?_) (fun G4 r4 k4 hr4=>?_)
  .simp only [tT,Zj] at hu;obtain ⟨j,hj,rfl⟩:=Zq.mp hu;rw [gD hj] at hk;have hjr:=la.rg j (Zv hj);simp only [vU,List.replicate,zzU,zzV,ZT,ZZ,gZ,gS,tZ,tS,Z0,Zh,Zs]
   ((try dsimp only [zO,zQ,zL,zD,yX,yP,yN,zM,zU,zK,zT,zY,zP,zN,zH,zJ,yU,zI,gZ,gS,tZ,tS]);try simp only [if_true])
   simp only [rX,k4 _ _ (by simp) gp3,qC,rw' j (by omega) hjr.2,Wd.w,at_0,yL,sN];refine inS ?_;simp only [zzB,if_false];exact hk G4 k4
  .refine ⟨S.map fun j=>(f j).ns.contains x,?_,?_⟩
   .rw [zS zX,zcy];congr 1;simp only [tT,zzM];rw [ziQ (fun j=>W.bl ((f j).ns.contains x)) 0 S,Zaf];rfl
   .simp only [jF];have k5:zV [ld] G2 (put G4 r4 (.lst ((List.range (tT S).length).filterMap fun q=>some (W.bl ((f (S.getD q 0)).ns.contains x))))):=(k3.trans (zdZ k4)).trans (zV.new hr4)
    have d5:jY (put G4 r4 (.lst ((List.range (tT S).length).filterMap fun q=>some (W.bl ((f (S.getD q 0)).ns.contains x))))) ld=some lk:=by
     unfold jY;have e:=(k4.trans (zV.new (o:=.lst ((List.range (tT S).length).filterMap fun q=>some (W.bl ((f (S.getD q 0)).ns.contains x)))) hr4)) _ _ (by simp) g3;rw [e]
    cases hall:(S.map fun j=>(f j).ns.contains x).all id with
    |true =>
     rw [if_pos rfl];refine ⟨us++[x],by simp,by simp;omega,⟨bG h4.1 hx',fun y hy=>?_⟩,k5,d5⟩;rcases Z3.mp hy with hy|hy
     .exact h4.2 y hy
     .rw [zzO hy];intro j hj;rw [ZbT,ZI] at hall;have:=hall j hj;simpa using this
    |false =>
     rw [if_neg zzN];exact ⟨us,rfl,by omega,⟨bF h4.1,h4.2⟩,k5,d5⟩
 rintro acc G3 ⟨us,rfl,h3,h4,k3,hd⟩ p10 hp10;rw [zzM] at h3;have k4:zV [ld] G2 (put G3 p10 (.lst (us.map .str))):=k3.trans (zV.new hp10);have g10:(put G3 p10 (.lst (us.map .str))) p10=some (.lst (us.map .str)):=zX
 have n10:p10≠ld:=fun e=>by
  unfold jY at hd;rw [← e,hp10] at hd;cases hd
 have d4:jY (put G3 p10 (.lst (us.map .str))) ld=some lk:=by
  unfold jY at hd ⊢;rw [yD (Ne.symm n10)];exact hd
 generalize put G3 p10 (.lst (us.map .str))=G4 at k4 g10 d4 ⊢;refine xY ?_
 ((try dsimp only [zO,zQ,zL,zD,yX,yP,yN,zM,zU,zK,zT,zY,zP,zN,zH,zJ,yU,zI,gZ,gS,tZ,tS]);try simp only [e5,e6])
 refine .inr ⟨us,zS g10,by omega,fun us' pu hs5 r5 hr5=>?_⟩;have k5:zV [] G4 (put G4 r5 (.lst (us'.map .str))):=zV.new hr5;have g5:(put G4 r5 (.lst (us'.map .str))) r5=some (.lst (us'.map .str)):=zX
 have n5:r5≠ld:=fun e=>by
  unfold jY at d4;rw [← e,hr5] at d4;cases d4
 have d5:jY (put G4 r5 (.lst (us'.map .str))) ld=some lk:=by
  unfold jY at d4 ⊢;rw [yD (Ne.symm n5)];exact d4
 generalize put G4 r5 (.lst (us'.map .str))=G5 at k5 g5 d5 ⊢;simp only [tW,xO,zS g5];refine .inl ⟨S.map fun n:Nat=>(n:Int),.inr ⟨ld,lk,rfl,d5,by rw [ks,Zaf];rfl⟩,by rw [zzM];omega,fun ns' pn hs6 r6 hr6=>?_⟩;have ndS:(S.map fun n:Nat=>(n:Int)).Nodup:=List.pairwise_map.mpr (la.nd.imp fun h e=>h (by omega));have upl:upi ns'=true:=zeA zeJ (pn.nodup_iff.mpr ndS) (hs6.imp fun h=>by simp;omega);have upu:ups us'=true:=zeA dR (pu.nodup_iff.mpr (List.Nodup.sublist (h4.1.trans ((Zb5 _ _).trans (h2.trans (Zb5 _ _)))) hxn)) (zbw hs5);obtain ⟨ls,rfl,pl⟩:=zdH pn;have k6:zV [] G5 (put G5 r6 (.lst ((ls.map fun n:Nat=>(n:Int)).map .int))):=zV.new hr6;have g6:(put G5 r6 (.lst ((ls.map fun n:Nat=>(n:Int)).map .int))) r6=some (.lst ((ls.map fun n:Nat=>(n:Int)).map .int)):=zX;generalize put G5 r6 (.lst ((ls.map fun n:Nat=>(n:Int)).map .int))=G6 at k6 g6 ⊢;simp only [zS g6];refine ⟨z2,?_⟩;have kq:zV [ld] G2 G6:=k4.trans (zdZ (k5.trans k6));have gp6:=kq _ _ (by simpa using Ne.symm npl) gp2;simp only [rN,gp6,qC];refine ⟨by rw [ZD];omega,?_⟩;refine vQ ?_;have D6:xQ G6 d l:=uU kq (by simp;intro z;exact nl (by simp [z])) (by simp;intro z;exact nl (by simp [z])) D2
 have ew:(W.tup [.tup (us'.map .str),.tup ((ls.map fun n:Nat=>(n:Int)).map .int)])=Wd.w ⟨us',ls⟩:=by
  simp only [Wd.w,tT,Zaf];rfl
 rw [ew];refine hD _ us' ls _ ?_ (uT np D6) (by rw [pu.length_eq];omega) ⟨upu,upl⟩ (fun x hx j hj=>h4.2 x (pu.mem_iff.mp hx) j hj) pl zX;exact (((k2.mono (by intro x hx;simp at hx ⊢;rcases hx with h|h<;>simp [h])).trans (kq.mono (by intro x hx;simp at hx ⊢;simp [hx]))).trans (zV.put (by simp)))
theorem zfs {n:Nat} (hn:12<=n) {ws:List W} {G:Hw} {Q:Q3} (h:zdk ws G Q XN):yW (yI K C n) XN xF { nx:=fun _ G'=>Q .non G',rt:=Q } (xX sP ws) G:=by
 obtain ⟨d,l,r,m,xs,rfl,D0,nr,gr,hx,hxn,m1,m12,h⟩:=h;have e6:(yI K C n).fn[6]?=some eTup:=qM 6 hn rfl;have e10:(yI K C n).fn[10]?=some tI:=qM 10 hn rfl;have i0:(yI K C n).it[0]?=some mB:=rfl;have s4:(yI K C n).sx[3]?=some ⟨emM,emS⟩:=rfl;show yW (yI K C n) XN xF { nx:=fun _ G'=>Q .non G',rt:=Q } [some (.ref d),some (.ref r),some (.int m),none,none,none,none,none,none,none] G
 have loop:∀ (G2:Hw) (M:Nat) (pr:Addr),1<=M->M<=12->zV [d,l] G G2->xQ G2 d l->pr∉[d,l]->G pr=none->G2 pr=some (.dic [])->G2 r=some (.lst (xs.map .str)) ->
   yW (yI K C n) XN (tl (tl xF)) { nx:=fun _ G'=>Q .non G',rt:=Q } [some (.ref d),some (.ref r),some (.int m),some (.int (M:Nat)),some (.ref pr),none,none,none,none,none] G2:=by
  intro G2 M pr M1 M12 k2 D2 np hpr gp2 gr2;simp only [xF,tl];refine xY ?_
  ((try dsimp only [zO,zQ,zL,zD,yX,yP,yN,zM,zU,zK,zT,zY,zP,zN,zH,zJ,yU,zI,gZ,gS,tZ,tS]);try simp only [i0,jO])
  refine ⟨rfl,⟨by omega,by omega⟩,⟨by decide,by decide⟩,?_⟩;have len:((List.range ((M:Int)-1 - -1).toNat).map fun k:Nat=>W.int ((M:Int)-1-(k:Nat))).length=M:=by simp
  refine ⟨fun i σ G'=>∃ (f:Nat->Wd) (kvs:List (yM×W)) (v5 v6 v7 v8 v9:Option W),σ=[some (.ref d),some (.ref r),some (.int m),some (.int (M:Nat)),some (.ref pr),v5,v6,v7,v8,v9]/\zV [d,l] G G'/\xQ G' d l/\G' pr=some (.dic kvs)/\kvs.length<=i/\Rows f kvs M (M-i)/\Fw f xs M (M-i),
   ⟨fun _=>⟨[],[]⟩,[],none,none,none,none,none,rfl,k2,D2,gp2,zzR _,fun j h1 h2=>by omega,⟨fun j h1 h2=>by omega,fun j h1 h2=>by omega,fun j h1 h2=>by omega,fun j h1 h2=>by omega⟩⟩,fun _ _ _ _ _=>trivial,?_,?_⟩
  .rintro i w σ G3 hw ⟨f,kvs,v5,v6,v7,v8,v9,rfl,k3,D3,gp3,hl3,rw3,fw3⟩;have hi:i<M:=by have:=(Zg.mp hw).1;rwa [len] at this
   have ew:w=.int ((M-1-i:Nat):Int):=by
    rw [Zj] at hw;obtain ⟨q,hq,rfl⟩:=Zq.mp hw
    have:q=i:=by
     have:=(Zg.mp hq).2;rw [ZaH] at this;exact this.symm
    subst this;congr 1;omega
   subst ew;have ha:M-1-i<M:=by omega
   have ha1:M-i=(M-1-i)+1:=by omega
   have ha2:M-(i+1)=M-1-i:=by omega
   rw [ha1] at rw3 fw3;simp only [ha2];generalize M-1-i=a at ha rw3 fw3 ⊢;have gr3:=k3 _ _ nr gr;refine xY ?_
   ((try dsimp only [zO,zQ,zL,zD,yX,yP,yN,zM,zU,zK,zT,zY,zP,zN,zH,zJ,yU,zI,gZ,gS,tZ,tS]);try simp only [s4])
   intro ld hld;have nl:=sS D3 hld;have npl:ld≠pr:=fun e=>by rw [e,gp3] at hld;cases hld
   have hldG:G ld=none:=k3.none nl hld;have k4:zV [d,l] G (put G3 ld (.dic [])):=k3.trans (zV.new hld);have D4:=xG (o:=.dic []) hld D3;have gl4:(put G3 ld (.dic [])) ld=some (.dic []):=zX;have gp4:(put G3 ld (.dic [])) pr=some (.dic kvs):=by rw [yD (Ne.symm npl)];exact gp3
   generalize put G3 ld (.dic [])=G4 at k4 D4 gl4 gp4 ⊢;refine xY ?_;refine zbi hn M12 ha D4 np nl npl gp4 rw3 fw3 gl4 _ fun G5 lk S v7' v8' k5 D5 gp5 gl5 ks5 la5=>?_
   have gr5:G5 r=some (.lst (xs.map .str)):=by
    have e4:=k4 _ _ nr gr
    exact k5 _ _ (by
     simp at nr ⊢;refine ⟨nr.1,nr.2,fun e=>?_⟩;rw [e,hldG] at gr;cases gr) e4
   refine zft hn M12 ha D5 nr np nl npl gr5 hx hxn gp5 (by omega) rw3 gl5 ks5 la5 _ fun G6 us ls v9' k6 D6 u1 u2 u3 pl gp6=>?_;refine ⟨fun j=>if j=a then ⟨us,ls⟩ else f j,_,_,_,_,_,_,rfl,?_,D6,gp6,?_,?_,?_⟩
   .intro x o hx' e;have e4:=k4 x o hx' e;have nld:x≠ld:=fun z=>by rw [z,hldG] at e;cases e
    have npr:x≠pr:=fun z=>by rw [z,hpr] at e;cases e
    simp at hx';exact k6 x o (by simp;exact ⟨hx'.1,hx'.2,nld,npr⟩) (k5 x o (by simp;exact ⟨hx'.1,hx'.2,nld⟩) e4)
   .have:=zer kvs (.inl (a:Int)) (Wd.w ⟨us,ls⟩);omega
   .intro j h1 h2;rw [zes]
    by_cases hj:j=a
    .subst hj;rw [if_pos rfl];show _=some (if j=j then (⟨us,ls⟩:Wd) else f j).w;rw [if_pos rfl]
    .rw [if_neg (fun z=>hj (by have:=Sum.inl.inj z;omega))];show _=some (if j=a then (⟨us,ls⟩:Wd) else f j).w;rw [if_neg hj];exact rw3 j (by omega) h2
   .have old:∀ j,a+1<=j->(if j=a then (⟨us,ls⟩:Wd) else f j)=f j:=fun j hj=>if_neg (by omega);have new:(if a=a then (⟨us,ls⟩:Wd) else f a)=⟨us,ls⟩:=if_pos rfl;refine ⟨fun j h1 h2 q hq=>?_,fun j h1 h2=>?_,fun j h1 h2=>?_,fun j h1 h2=>?_⟩
    .by_cases hj:j=a
     .subst hj;simp only [if_true] at hq ⊢;have hqS:=pl.mem_iff.mp hq;have rq:=la5.rg q hqS;simp only [old q (by omega)];exact ⟨rq.1,rq.2,fun x hx'=>u3 x hx' q hqS,fun p hp=>pl.mem_iff.mpr (la5.cl q hqS p hp)⟩
     .have hj':a+1<=j:=by omega
      simp only [old j hj'] at hq ⊢;have:=fw3.nx j hj' h2 q hq;simp only [old q (by omega)];exact this
    .by_cases hj:j=a
     .subst hj;simp only [if_true];exact u1
     .simp only [old j (by omega)];exact fw3.nl j (by omega) h2
    .by_cases hj:j=a
     .subst hj;simp only [if_true];rw [pl.length_eq];exact la5.len M12
     .simp only [old j (by omega)];exact fw3.ll j (by omega) h2
    .by_cases hj:j=a
     .subst hj;simp only [if_true];exact u2
     .simp only [old j (by omega)];exact fw3.up j (by omega) h2
  .rintro σ G3 ⟨f,kvs,v5,v6,v7,v8,v9,rfl,k3,D3,gp3,hl3,rw3,fw3⟩;rw [len,Nat.sub_self] at rw3 fw3;refine xY ?_
   ((try dsimp only [zO,zQ,zL,zD,yX,yP,yN,zM,zU,zK,zT,zY,zP,zN,zH,zJ,yU,zI,gZ,gS,tZ,tS]);try simp only [e6,i0])
   refine ⟨⟨by omega,by omega⟩,?_⟩;have lenr:((List.range ((M:Nat):Int).toNat).map fun i:Nat=>W.int (i:Int)).length=M:=by simp
   refine zdV (fun i=>some (f i).w) (by rw [lenr];omega) (fun _ _=>trivial) (fun i w G4 k hw k4 hk=>?_) (fun G4 r4 k4 hr4=>?_)
   .have hi:i<M:=by have:=(Zg.mp hw).1;rwa [lenr] at this
    have ew:w=.int (i:Nat):=by
     simp [hi] at hw;exact hw.symm
    subst ew;simp only [vU,List.replicate,zzU,zzV,ZT,ZZ,gZ,gS,tZ,tS,Z0,Zh,Zs]
    ((try dsimp only [zO,zQ,zL,zD,yX,yP,yN,zM,zU,zK,zT,zY,zP,zN,zH,zJ,yU,zI,gZ,gS,tZ,tS]);try simp only [if_true])
    simp only [rX,k4 _ _ (by simp) gp3,qC,rw3 i (ZX _) hi];exact hk G4 k4
   .simp only [tW,xO,zS zX];rw [lenr,zcy];have ew:(List.range M).map (fun i=>(f i).w)=((List.range M).map f).map Wd.w:=by rw [Zaf];rfl
    rw [ew];have k5:zV [] G3 (put G4 r4 (.lst (((List.range M).map f).map Wd.w))):=k4.trans (zV.new hr4)
    have at_:∀ (k:Nat) (v:Wd),((List.range M).map f)[k]?=some v->k<M/\v=f k:=fun k v e=>by
     rw [Zj] at e;obtain ⟨q,hq,rfl⟩:=Zq.mp e;have hk:=(Zg.mp hq).1;have:=(Zg.mp hq).2;rw [ZaH] at this;rw [Zae] at hk;exact ⟨hk,by rw [this]⟩
    have mem_:∀ v∈(List.range M).map f,∃ k,k<M/\v=f k:=fun v hv=>by
     obtain ⟨k,hk,rfl⟩:=zzP hv;exact ⟨k,Zax.mp hk,rfl⟩
    refine h ((List.range M).map f) _ ⟨by simp;exact M12,by simp;exact M1,fun v hv j hj=>?_,fun v hv=>?_,fun v hv=>?_⟩ (fun k v e j hj=>?_) (fun v hv=>?_) (k3.trans (zdZ k5)) (fL k5 D3)
    .obtain ⟨k,hk,rfl⟩:=mem_ v hv;simp only [zzM,Zae];exact (fw3.nx k (ZX _) hk j hj).2.1
    .obtain ⟨k,hk,rfl⟩:=mem_ v hv;exact fw3.nl k (ZX _) hk
    .obtain ⟨k,hk,rfl⟩:=mem_ v hv;exact fw3.ll k (ZX _) hk
    .obtain ⟨hk,rfl⟩:=at_ k v e;obtain ⟨q1,q2,q3,q4⟩:=fw3.nx k (ZX _) hk j hj;exact ⟨q1,f j,by simp [q2],q3,q4⟩
    .obtain ⟨k,hk,rfl⟩:=mem_ v hv;exact fw3.up k (ZX _) hk
 simp only [xF,tl] at loop;simp only [xF];refine xY ?_
 ((try dsimp only [zO,zQ,zL,zD,yX,yP,yN,zM,zU,zK,zT,zY,zP,zN,zH,zJ,yU,zI,gZ,gS,tZ,tS]);try simp only [e10,jO])
 refine ⟨d,l,m,rfl,D0,⟨by omega,by omega⟩,fun q G1 q0 q1 k1 D1=>?_⟩;refine xY ?_
 ((try dsimp only [zO,zQ,zL,zD,yX,yP,yN,zM,zU,zK,zT,zY,zP,zN,zH,zJ,yU,zI,gZ,gS,tZ,tS]);try simp only [s4])
 intro pr hpr;have np:=sS D1 hpr;obtain ⟨M,eM⟩:∃ M:Nat,1+q=(M:Int):=⟨(1+q).toNat,by omega⟩;rw [eM];have k2:zV [d,l] G (put G1 pr (.dic [])):=k1.trans (zV.new hpr);exact loop _ M pr (by omega) (by omega) k2 (xG hpr D1) np (k1.none np hpr) zX (k2 _ _ nr gr)
end
theorem zjK {xs:List Str} {i:Int} (h0:0<=i) (h1:i<xs.length):∃ x∈xs,rR (xs.map W.str) i=some (.str x):=by
 have hi:i.toNat<xs.length:=by omega
 refine ⟨xs[i.toNat],Zau hi,?_⟩;unfold rR cZ;rw [if_pos h0,zzM,if_pos h1];show (xs.map W.str)[i.toNat]?=_;rw [Zj,Ze hi];rfl
theorem zjJ {xs:List Int} {i:Int} (h0:0<=i) (h1:i<xs.length):∃ x∈xs,rR (xs.map W.int) i=some (.int x):=by
 have hi:i.toNat<xs.length:=by omega
 refine ⟨xs[i.toNat],Zau hi,?_⟩;unfold rR cZ;rw [if_pos h0,zzM,if_pos h1];show (xs.map W.int)[i.toNat]?=_;rw [Zj,Ze hi];rfl
theorem uS {α β:Type} (f:α->β) (l:List α) (lo hi:Option Int):tH (l.map f) lo hi=(tH l lo hi).map f:=by
 unfold tH;rw [zzM,← ZcD,← List.map_take]
theorem zcL {α:Type} {l:List α} {j:Int} (h:0<=j):(tH l none (some j)).length<=j.toNat:=by
 unfold tH HT.wY;dsimp only;rw [if_neg (by omega),Zac];omega
theorem zev {α:Type} {l:List α} {j:Int} (h:0<=j):(tH l (some j) none).length<=l.length-j.toNat:=by
 unfold tH HT.wY;dsimp only;rw [if_neg (by omega),Zac,Zav];omega
theorem addT {a b:List W} {G:Hw} {Q:Q3} (h:a.length+b.length<=3000) (q:Q (.tup (a++b)) G):jO .Add (.tup a) (.tup b) G Q:=⟨sz _ h,q⟩
section
variable {K : zA} {C : Nat → Addr}
theorem zhQ {n:Nat} (hn:17<=n) {ws:List W} {G:Hw} {Q:Q3} (h:spSn ws G Q XN):yW (yI K C n) XN xA { nx:=fun _ G'=>Q .non G',rt:=Q } (xX wD ws) G:=by
 obtain ⟨d,l,r,xs,ss,rfl,D,nr,gr,hx,hx5,hs,h⟩:=h;have e1:(yI K C n).fn[1]?=some hZ:=qM 1 hn rfl;have e5:(yI K C n).fn[5]?=some zcF:=qM 5 hn rfl;have e6:(yI K C n).fn[6]?=some eTup:=qM 6 hn rfl;have e10:(yI K C n).fn[10]?=some tI:=qM 10 hn rfl;have s2:(yI K C n).sx[2]?=some ⟨ssM,ss2⟩:=rfl;have s4:(yI K C n).sx[4]?=some ⟨trM,trS⟩:=rfl;have z1:=sz 1 (by decide);have hxl:1<=xs.length:=by cases xs with|nil=>exact absurd rfl hx|cons _ _=>simp
 show yW (yI K C n) XN xA { nx:=fun _ G'=>Q .non G',rt:=Q } [some (.ref d),some (.ref r),some (.tup (ss.map .str)),none,none] G;simp only [xA];refine xY ?_
 ((try dsimp only [zO,zQ,zL,zD,yX,yP,yN,zM,zU,zK,zT,zY,zP,zN,zH,zJ,yU,zI,gZ,gS,tZ,tS]);try simp only [e10])
 refine ⟨d,l,5,rfl,D,by decide,fun way G1 w0 w1 k1 D1=>?_⟩;have gr1:=k1 _ _ nr gr;refine xY ?_
 ((try dsimp only [zO,zQ,zL,zD,yX,yP,yN,zM,zU,zK,zT,zY,zP,zN,zH,zJ,yU,zI,gZ,gS,tZ,tS]);try simp only [e10,e1,uD,uE,gr1,zzM])
 refine ⟨d,l,xs.length,rfl,D1,by omega,fun at' G2 a0 a1 k2 D2=>?_⟩;have gr2:=k2 _ _ nr gr1;obtain ⟨x,hxm,ex⟩:=zjK a0 a1;refine ixL (zS gr2) ?_;rw [ex];have k2:=k1.trans k2;refine xY ?_
 ((try dsimp only [zO,zQ,zL,zD,yX,yP,yN,zM,zU,zK,zT,zY,zP,zN,zH,zJ,yU,zI,gZ,gS,tZ,tS]);try simp only [yL,xI])
 by_cases y0:way=0
 .rw [if_pos (by simpa using y0)];refine xY ?_
  ((try dsimp only [zO,zQ,zL,zD,yX,yP,yN,zM,zU,zK,zT,zY,zP,zN,zH,zJ,yU,zI,gZ,gS,tZ,tS]);try simp only [s4,trS])
  rw [← Zci];exact h _ _ (by rw [Zbh];omega) k2 D2
 rw [if_neg (by simpa using y0)];refine vQ ?_;refine xY ?_
 ((try dsimp only [zO,zQ,zL,zD,yX,yP,yN,zM,zU,zK,zT,zY,zP,zN,zH,zJ,yU,zI,gZ,gS,tZ,tS]);try simp only [yL,xI])
 by_cases y1:way=1
 .rw [if_pos (by simpa using y1)];refine xY ?_
  ((try dsimp only [zO,zQ,zL,zD,yX,yP,yN,zM,zU,zK,zT,zY,zP,zN,zH,zJ,yU,zI,gZ,gS,tZ,tS]);try simp only [e6,e5,slR,uS])
  have hc:=zcL (l:=ss) (j:=1) (by decide);refine addT (by simp only [zzM];omega) ?_;rw [← Zai];refine .inr ⟨ss++tH ss none (some 1),rfl,by rw [zzW];omega,fun us pu _ r5 hr5=>?_⟩;simp only [tW,xO,zS zX];exact h us _ (by rw [pu.length_eq,zzW];omega) (k2.trans (zV.new hr5)) (xG hr5 D2)
 rw [if_neg (by simpa using y1)];refine vQ ?_;refine xY ?_
 ((try dsimp only [zO,zQ,zL,zD,yX,yP,yN,zM,zU,zK,zT,zY,zP,zN,zH,zJ,yU,zI,gZ,gS,tZ,tS]);try simp only [yL,xI])
 by_cases y2:way=2
 .rw [if_pos (by simpa using y2)];refine xY ?_
  ((try dsimp only [zO,zQ,zL,zD,yX,yP,yN,zM,zU,zK,zT,zY,zP,zN,zH,zJ,yU,zI,gZ,gS,tZ,tS]);try simp only [zzC,zzL,zzA,z1,true_and])
  refine addT (by simp only [zzM,Zh,Zs];omega) ?_;exact h (x::ss) _ (by simp) k2 D2
 rw [if_neg (by simpa using y2)];refine vQ ?_;refine xY ?_
 ((try dsimp only [zO,zQ,zL,zD,yX,yP,yN,zM,zU,zK,zT,zY,zP,zN,zH,zJ,yU,zI,gZ,gS,tZ,tS]);try simp only [yL,xI])
 by_cases y3:way=3
 .rw [if_pos (by simpa using y3)];refine xY ?_
  ((try dsimp only [zO,zQ,zL,zD,yX,yP,yN,zM,zU,zK,zT,zY,zP,zN,zH,zJ,yU,zI,gZ,gS,tZ,tS]);try simp only [e6])
  refine rW (dC ss .str (fun y=>!(y==x)) rfl (by omega) (fun _ _=>trivial) ?_ ?_)
  .rintro y hy G3 K3 k3 hk3;simp only [vU,List.replicate,zzV,zzU,ZO,ZT,ZZ,gZ,gS,tZ,tS,Zh,Zs,Z0,yL,cT,jF];exact zgp (hk3 G3 k3)
  intro G3 r3 k3 hr3;simp only [tW,xO,zS zX];have:=Za4 (fun y=>!(y==x)) ss;exact h _ _ (by omega) ((k2.trans (zdZ k3)).trans (zV.new hr3)) (xG hr3 (fL k3 D2))
 rw [if_neg (by simpa using y3)];refine vQ ?_;refine xY ?_
 ((try dsimp only [zO,zQ,zL,zD,yX,yP,yN,zM,zU,zK,zT,zY,zP,zN,zH,zJ,yU,zI,gZ,gS,tZ,tS]);try simp only [e6,s2,zzC,zzL,zzA,z1,true_and])
 refine addT (by simp only [zzM,Zh,Zs];omega) ?_;refine .inl ⟨ss++[x],by rw [Zai];rfl,by rw [zzW];simp;omega,fun us nd hm _ r5 hr5=>?_⟩;simp only [tW,xO,zS zX];have hl:=pE nd fun y hy=>(hm y).mp hy;rw [zzW] at hl;exact h us _ (by simpa using hl) (k2.trans (zV.new hr5)) (xG hr5 D2)
theorem zhT {n:Nat} (hn:18<=n) {ws:List W} {G:Hw} {Q:Q3} (h:spSl ws G Q XN):yW (yI K C n) XN yQ { nx:=fun _ G'=>Q .non G',rt:=Q } (xX wC ws) G:=by
 obtain ⟨d,l,ss,a,m,rfl,D,hs,ha,ham,hm12,h⟩:=h;have e1:(yI K C n).fn[1]?=some hZ:=qM 1 hn rfl;have e5:(yI K C n).fn[5]?=some zcF:=qM 5 hn rfl;have e6:(yI K C n).fn[6]?=some eTup:=qM 6 hn rfl;have e8:(yI K C n).fn[8]?=some eMin:=qM 8 hn rfl;have e10:(yI K C n).fn[10]?=some tI:=qM 10 hn rfl;have s2:(yI K C n).sx[2]?=some ⟨ssM,ss2⟩:=rfl;have s4:(yI K C n).sx[4]?=some ⟨trM,trS⟩:=rfl;have z0:=sz 0 (by decide);have z1:=sz 1 (by decide);have z6:=sz 6 (by decide);show yW (yI K C n) XN yQ { nx:=fun _ G'=>Q .non G',rt:=Q } [some (.ref d),some (.tup (ss.map .int)),some (.int a),some (.int m),none,none] G;simp only [yQ];refine xY ?_
 ((try dsimp only [zO,zQ,zL,zD,yX,yP,yN,zM,zU,zK,zT,zY,zP,zN,zH,zJ,yU,zI,gZ,gS,tZ,tS]);try simp only [e10])
 refine ⟨d,l,7,rfl,D,by decide,fun way G2 w0 w1 k2 D2=>?_⟩;refine xY ?_
 ((try dsimp only [zO,zQ,zL,zD,yX,yP,yN,zM,zU,zK,zT,zY,zP,zN,zH,zJ,yU,zI,gZ,gS,tZ,tS]);try simp only [yL,xI])
 by_cases y0:way=0
 .rw [if_pos (by simpa using y0)];refine xY ?_
  ((try dsimp only [zO,zQ,zL,zD,yX,yP,yN,zM,zU,zK,zT,zY,zP,zN,zH,zJ,yU,zI,gZ,gS,tZ,tS]);try simp only [s4,trS])
  rw [← Zci];exact h _ _ (by rw [Zbh];omega) k2 D2
 rw [if_neg (by simpa using y0)];refine vQ ?_;refine xY ?_
 ((try dsimp only [zO,zQ,zL,zD,yX,yP,yN,zM,zU,zK,zT,zY,zP,zN,zH,zJ,yU,zI,gZ,gS,tZ,tS]);try simp only [yL,xI])
 by_cases y1:way=1
 .rw [if_pos (by simpa using y1)];refine xY ?_
  ((try dsimp only [zO,zQ,zL,zD,yX,yP,yN,zM,zU,zK,zT,zY,zP,zN,zH,zJ,yU,zI,gZ,gS,tZ,tS]);try simp only [e6,e5,slR,uS])
  have hc:=zcL (l:=ss) (j:=1) (by decide);refine addT (by simp only [zzM];omega) ?_;rw [← Zai];refine .inl ⟨ss++tH ss none (some 1),.inl rfl,by rw [zzW];omega,fun us pu _ r5 hr5=>?_⟩;simp only [tW,xO,zS zX];exact h us _ (by rw [pu.length_eq,zzW];omega) (k2.trans (zV.new hr5)) (xG hr5 D2)
 rw [if_neg (by simpa using y1)];refine vQ ?_;refine xY ?_
 ((try dsimp only [zO,zQ,zL,zD,yX,yP,yN,zM,zU,zK,zT,zY,zP,zN,zH,zJ,yU,zI,gZ,gS,tZ,tS]);try simp only [yL,xI])
 by_cases y2:way=2
 .rw [if_pos (by simpa using y2)];refine xY ?_
  ((try dsimp only [zO,zQ,zL,zD,yX,yP,yN,zM,zU,zK,zT,zY,zP,zN,zH,zJ,yU,zI,gZ,gS,tZ,tS]);try simp only [e5,e6,e10,jO,zzC,zzL,zzA,Nat.reduceAdd,z1,z6,true_and])
  refine ⟨⟨by decide,by decide,by decide⟩,fun p hp=>⟨d,l,6,rfl,xG hp D2,by decide,fun b G3 b0 b1 k3 D3=>?_⟩⟩;have gp3:G3 p=some (.lst (([a,a-1,-1,m,m+1,10 ^ Int.toNat 20]:List Int).map .int)):=k3 _ _ (sS D2 hp) zX;obtain ⟨x,_,ex⟩:=zjJ (xs:=[a,a-1,-1,m,m+1,10 ^ Int.toNat 20]) b0 (by simpa using b1);refine ixL (zS gp3) ?_;rw [ex];refine ⟨sz _ (by rw [zzM];omega),.inl ⟨ss++[x],.inl (by rw [Zai];rfl),by rw [zzW];simp;omega,fun us pu _ r5 hr5=>?_⟩⟩;simp only [tW,xO,zS zX];exact h us _ (by rw [pu.length_eq,zzW];simp) (((k2.trans (zV.new hp)).trans k3).trans (zV.new hr5)) (xG hr5 D3)
 rw [if_neg (by simpa using y2)];refine vQ ?_;refine xY ?_
 have e0:bS G2 (.tup (ss.map .int)) (.tup [])=some ss.isEmpty:=by
  simp only [bS,uP,jD,wU,nG,qP];rw [if_pos (by simp)];simp only [vV,nJ,Zbe]
 ((try dsimp only [zO,zQ,zL,zD,yX,yP,yN,zM,zU,zK,zT,zY,zP,zN,zH,zJ,yU,zI,gZ,gS,tZ,tS]);try simp only [yL,xI,e0,Zs,z0,true_and])
 by_cases y3:(way=3/\ss.isEmpty=false)
 .rw [decide_eq_true y3.1,if_pos rfl,y3.2];simp only [Z4,if_true]
  have hss:1<=ss.length:=by
   cases ss with
   |nil=>cases y3.2
   |cons _ _=>simp
  refine xY ?_
  ((try dsimp only [zO,zQ,zL,zD,yX,yP,yN,zM,zU,zK,zT,zY,zP,zN,zH,zJ,yU,zI,gZ,gS,tZ,tS]);try simp only [e10,e1,uD,uE,zzM])
  refine ⟨d,l,ss.length,rfl,D2,by omega,fun j G3 j0 j1 k3 D3=>?_⟩;refine xY ?_
  ((try dsimp only [zO,zQ,zL,zD,yX,yP,yN,zM,zU,zK,zT,zY,zP,zN,zH,zJ,yU,zI,gZ,gS,tZ,tS]);try simp only [slR,uS,jO])
  have c1:=zcL (l:=ss) j0;have c2:=zev (l:=ss) (j:=j+1) (by omega);refine ⟨sz _ (by simp only [zzM];omega),?_⟩;rw [← Zai];exact h _ _ (by rw [zzW];omega) (k2.trans k3) D3
 have go:∀ G3:Hw,G3=G2->yW (yI K C n) XN (tl (tl (tl (tl (tl yQ))))) { nx:=fun _ G'=>Q .non G',rt:=Q } [some (.ref d),some (.tup (ss.map .int)),some (.int a),some (.int m),some (.int way),none] G3:=by
  rintro _ rfl;simp only [yQ,tl];refine xY ?_
  ((try dsimp only [zO,zQ,zL,zD,yX,yP,yN,zM,zU,zK,zT,zY,zP,zN,zH,zJ,yU,zI,gZ,gS,tZ,tS]);try simp only [yL,xI])
  by_cases y4:way=4
  .rw [if_pos (by simpa using y4)];refine xY ?_
   ((try dsimp only [zO,zQ,zL,zD,yX,yP,yN,zM,zU,zK,zT,zY,zP,zN,zH,zJ,yU,zI,gZ,gS,tZ,tS]);try simp only [Zs,z0,true_and])
   exact h [] _ (by simp) k2 D2
  rw [if_neg (by simpa using y4)];refine vQ ?_;refine xY ?_
  ((try dsimp only [zO,zQ,zL,zD,yX,yP,yN,zM,zU,zK,zT,zY,zP,zN,zH,zJ,yU,zI,gZ,gS,tZ,tS]);try simp only [e6,e8,e10,s2,jO,zzC,zzL,zzA,z1,true_and])
  refine ⟨d,l,m,rfl,D2,by omega,fun j G3 j0 j1 k3 D3=>?_⟩;simp only [minS];refine ⟨sz _ (by rw [zzM];omega),.inr ⟨ss++[_],by rw [Zai];rfl,by rw [zzW];simp;omega,fun us nd hm _ r5 hr5=>?_⟩⟩;simp only [tW,xO,zS zX];have hl:=pE nd fun y hy=>(hm y).mp hy;rw [zzW] at hl;exact h us _ (by simpa using hl) ((k2.trans k3).trans (zV.new hr5)) (xG hr5 D3)
 simp only [yQ,tl] at go
 by_cases y5:way=3
 .rw [decide_eq_true y5,if_pos rfl]
  have:ss.isEmpty=true:=by
   cases hse:ss.isEmpty with
   |true=>rfl
   |false=>exact absurd ⟨y5,hse⟩ y3
  rw [this];simp only [ZG,zzB,if_false];exact vQ (go _ rfl)
 .rw [decide_eq_false y5,if_neg zzN,if_neg zzN];exact vQ (go _ rfl)
end
theorem map_set {α β:Type} (f:α->β) (l:List α) (i:Nat) (x:α):(l.map f).set i (f x)=(l.set i x).map f:=(List.map_set).symm
section
variable {K : zA} {C : Nat → Addr}
theorem zhN {n:Nat} (hn:19<=n) {ws:List W} {G:Hw} {Q:Q3} (h:spSp ws G Q XN):yW (yI K C n) XN jH { nx:=fun _ G'=>Q .non G',rt:=Q } (xX kP ws) G:=by
 obtain ⟨d,l,r,xs,web,rfl,D,nr,gr,hx,hx5,wo,w1,h⟩:=h;have e1:(yI K C n).fn[1]?=some hZ:=qM 1 hn rfl;have e3:(yI K C n).fn[3]?=some eLst:=qM 3 hn rfl;have e6:(yI K C n).fn[6]?=some eTup:=qM 6 hn rfl;have e10:(yI K C n).fn[10]?=some tI:=qM 10 hn rfl;have e17:(yI K C n).fn[17]?=some ⟨"_law_spoilt_names", spSn⟩:=qM 17 hn rfl;have e18:(yI K C n).fn[18]?=some ⟨"_law_spoilt_later", spSl⟩:=qM 18 hn rfl;have i0:(yI K C n).it[0]?=some mB:=rfl;have z2:=sz 2 (by decide);have hz:=wo.few;show yW (yI K C n) XN jH { nx:=fun _ G'=>Q .non G',rt:=Q } [some (.ref d),some (.ref r),some (wA web),none,none,none,none,none] G;simp only [jH];refine xY ?_
 ((try dsimp only [zO,zQ,zL,zD,yX,yP,yN,zM,zU,zK,zT,zY,zP,zN,zH,zJ,yU,zI,gZ,gS,tZ,tS]);try simp only [e3,mK,wA,xO])
 intro p hp;have np:=sS D hp;have D1:=xG (o:=.lst (web.map Wi.w)) hp D;have k1:zV [d,l] G (put G p (.lst (web.map Wi.w))):=zV.new hp;have gp1:(put G p (.lst (web.map Wi.w))) p=some (.lst (web.map Wi.w)):=zX;generalize put G p (.lst (web.map Wi.w))=G1 at D1 k1 gp1 ⊢;refine xY ?_
 ((try dsimp only [zO,zQ,zL,zD,yX,yP,yN,zM,zU,zK,zT,zY,zP,zN,zH,zJ,yU,zI,gZ,gS,tZ,tS]);try simp only [i0,e10,jO])
 refine ⟨d,l,2,rfl,D1,by decide,fun b G2 b0 b1 k2 D2=>?_⟩;have gp2:=k2 _ _ np gp1;refine ⟨⟨by omega,by omega⟩,?_⟩;have len:((List.range (1+b).toNat).map fun i:Nat=>W.int (i:Int)).length=(1+b).toNat:=by simp
 refine ⟨fun i σ G'=>∃ (web':List Wi) (v4 v5 v6 v7:Option W),σ=[some (.ref d),some (.ref r),some (wA web),some (.ref p),v4,v5,v6,v7]/\web'.length=web.length/\(∀ v∈web',v.ns.length<=5+i/\v.ls.length<=12+i)/\G' p=some (.lst (web'.map Wi.w))/\zV [d,l] G G'/\xQ G' d l,
  ⟨web,none,none,none,none,rfl,rfl,fun v hv=>⟨wo.nl v hv,wo.ll v hv⟩,gp2,k1.trans k2,D2⟩,fun _ _ _ _ _=>trivial,?_,?_⟩
 .rintro i w σ G3 hw ⟨web',v4,v5,v6,v7,rfl,hl',hb',gp3,k3,D3⟩;have hi:i<2:=by have:=(Zg.mp hw).1;rw [len] at this;omega
  refine xY ?_
  ((try dsimp only [zO,zQ,zL,zD,yX,yP,yN,zM,zU,zK,zT,zY,zP,zN,zH,zJ,yU,zI,gZ,gS,tZ,tS]);try simp only [e10,e1,uD,uE,gp3,zzM])
  refine ⟨d,l,web'.length,rfl,D3,by omega,fun at' G4 a0 a1 k4 D4=>?_⟩;have gp4:=k4 _ _ np gp3;obtain ⟨an,rfl⟩:∃ an:Nat,at'=an:=⟨at'.toNat,by omega⟩;have han:an<web'.length:=by omega
  refine xY ?_
  (try dsimp only [zO,zQ,zL,zD,yX,yP,yN,zM,zU,zK,zT,zY,zP,zN,zH,zJ,yU,zI,gZ,gS,tZ,tS])
  refine ixL (zS gp4) ?_;rw [atN (w:=web'[an].w) (by rw [Zj,Ze han];rfl)];have hm:=Zau han;have hv:=hb' _ hm;generalize hvd:web'[an]=v at *;simp only [Wi.w]
  (try dsimp only [zO,zQ,zL,zD,yX,yP,yN,zM,zU,zK,zT,zY,zP,zN,zH,zJ,yU,zI,gZ,gS,tZ,tS])
  refine xY ?_
  ((try dsimp only [zO,zQ,zL,zD,yX,yP,yN,zM,zU,zK,zT,zY,zP,zN,zH,zJ,yU,zI,gZ,gS,tZ,tS]);try simp only [e10])
  refine ⟨d,l,2,rfl,D4,by decide,fun c G5 c0 c1 k5 D5=>?_⟩;have gp5:=k5 _ _ np gp4;have k5:=(k3.trans k4).trans k5;have gr5:=k5 _ _ nr gr;simp only [yL,xI]
  have fin:∀ (D':End3) (ss:List Str) (ls:List Int) (G6:Hw) (v6 v7:Option W),(∀ σ G',(∃ (web':List Wi) (v4 v5 v6 v7:Option W),σ=[some (.ref d),some (.ref r),some (wA web),some (.ref p),v4,v5,v6,v7]/\web'.length=web.length/\(∀ v∈web',v.ns.length<=5+(i+1)/\v.ls.length<=12+(i+1))/\G' p=some (.lst (web'.map Wi.w))/\zV [d,l] G G'/\xQ G' d l)->D'.nx σ G') ->
    ss.length<=5+(i+1)->ls.length<=12+(i+1)->zV [d,l] G G6->xQ G6 d l->G6 p=some (.lst (web'.map Wi.w))->v6=some (.tup (ss.map .str))->v7=some (.tup (ls.map .int)) ->
    yW (yI K C n) XN (.cons (.asgI (.var 3) (.var 5) (.tup (.cons (.var 6) (.cons (.var 7) .nil)))) .nil) D' [some (.ref d),some (.ref r),some (wA web),some (.ref p),some w,some (.int an),v6,v7] G6:=by
   rintro D' ss ls G6 _ _ hD hs hls k6 D6 gp6 rfl rfl;refine xY ?_
   ((try dsimp only [zO,zQ,zL,zD,yX,yP,yN,zM,zU,zK,zT,zY,zP,zN,zH,zJ,yU,zI,gZ,gS,tZ,tS]);try simp only [zzC,zzL,zzA,Nat.reduceAdd,z2,true_and])
   simp only [rN,gp6]
   have ei:cZ (web'.map Wi.w).length (an:Int)=some an:=by
    unfold cZ;rw [if_pos (by omega),zzM,if_pos (by omega)];rfl
   rw [ei];refine vQ (hD _ _ ⟨web'.set an ⟨ss,ls⟩,_,_,_,_,rfl,by rw [ZbN];exact hl',fun u hu=>?_,by rw [zX];exact congrArg (fun z=>some (O.lst z)) (map_set Wi.w web' an ⟨ss,ls⟩),dA k6 hp,uT np D6⟩);rcases List.mem_or_eq_of_mem_set hu with hu|rfl
   .have:=hb' u hu;omega
   .exact ⟨hs,hls⟩
  by_cases hc:c=0
  .rw [if_pos (by simpa using hc)];refine xY ?_
   ((try dsimp only [zO,zQ,zL,zD,yX,yP,yN,zM,zU,zK,zT,zY,zP,zN,zH,zJ,yU,zI,gZ,gS,tZ,tS]);try simp only [e17])
   refine ⟨d,l,r,xs,v.ns,rfl,D5,nr,gr5,hx,hx5,by omega,fun ss' G6 hs' k6 D6=>?_⟩;refine vQ (fin _ ss' v.ls G6 _ _ (fun _ _ z=>z) (by omega) (by omega) (k5.trans k6) D6 (k6 _ _ np gp5) rfl rfl)
  .rw [if_neg (by simpa using hc)];refine xY ?_
   ((try dsimp only [zO,zQ,zL,zD,yX,yP,yN,zM,zU,zK,zT,zY,zP,zN,zH,zJ,yU,zI,gZ,gS,tZ,tS]);try simp only [e18,e1,uD,uE,gp5,zzM])
   refine ⟨d,l,v.ls,an,web'.length,rfl,D5,by omega,by omega,by omega,by omega,fun ls' G6 hs' k6 D6=>?_⟩;refine vQ (fin _ v.ns ls' G6 _ _ (fun _ _ z=>z) (by omega) (by omega) (k5.trans k6) D6 (k6 _ _ np gp5) rfl rfl)
 .rintro σ G3 ⟨web',v4,v5,v6,v7,rfl,hl',hb',gp3,k3,D3⟩;refine xY ?_
  ((try dsimp only [zO,zQ,zL,zD,yX,yP,yN,zM,zU,zK,zT,zY,zP,zN,zH,zJ,yU,zI,gZ,gS,tZ,tS]);try simp only [e6,tW,xO,zS gp3])
  rw [len] at hb';refine h web' G3 ⟨by omega,fun v hv=>?_,fun v hv=>?_⟩ k3 D3
  .have:=(hb' v hv).1;omega
  .have:=(hb' v hv).2;omega
end
theorem web_i (web:List Wd):webW web=wA (web.map Wd.i):=by
 unfold webW wA;rw [Zaf];congr 1;refine Zbi fun v _=>?_;simp only [Function.comp,Wd.w,Wi.w,Wd.i,tT,Zaf];rfl
theorem ok_i {web:List Wd} (wo:WOk web):IOk 5 12 (web.map Wd.i):=by
 refine ⟨by rw [zzM];exact wo.few,fun v hv=>?_,fun v hv=>?_⟩
 .obtain ⟨u,hu,rfl⟩:=zzP hv;exact wo.nl u hu
 .obtain ⟨u,hu,rfl⟩:=zzP hv;show (u.ls.map _).length<=12;rw [zzM];exact wo.ll u hu
theorem IOk.mono {b c b' c':Nat} {web:List Wi} (h:IOk b c web) (hb:b<=b') (hc:c<=c'):IOk b' c' web:=⟨h.few,fun v hv=>Zy (h.nl v hv) hb,fun v hv=>Zy (h.ll v hv) hc⟩
theorem zh4 {web:List Wd} {k:Nat} {v:Wd} (h:web[k]?=some v):xL (web.map Wd.i) (k:Nat)=v.i:=by
 unfold xL;rw [ZU,Zj,h];rfl
theorem chk_i {web:List Wd} (wo:WOk web) (gw:Good web) (rs:zfd web):chk (web.map Wd.i)=none:=by
 have he:(web.map Wd.i).isEmpty=false:=by
  have:=wo.one
  cases web with
  |nil=>simp at this
  |cons _ _=>rfl
 rw [chk,if_neg (by rw [he];simp),cV]
 .rfl
 intro k hk;rw [zzM] at hk;have hv:=Ze hk;generalize web[k]=v at hv;have hm:=Zv hv;have r:=zh4 hv;unfold kZ;rw [r,Zp,Zp];refine ⟨rs v hm,ZI.mpr fun j hj=>?_⟩;obtain ⟨jn,hjn,rfl⟩:=zzP (show j∈v.ls.map fun n:Nat=>(n:Int) from hj);obtain ⟨h1,u,hu,h2,h3⟩:=gw k v hv jn hjn;have hl:jn<web.length:=(Zg.mp hu).1;rw [zh4 hu,zzM,decide_eq_true (by omega:(k:Int)<(jn:Nat)),decide_eq_true (by omega:((jn:Nat):Int)<(web.length:Nat))];simp only [Zbm];unfold onB;rw [Zp];refine ⟨ZI.mpr fun x hx=>?_,ZI.mpr fun q hq=>?_⟩
 .exact Z2.mpr (h2 x hx)
 .obtain ⟨qn,hqn,rfl⟩:=zzP (show q∈u.ls.map fun n:Nat=>(n:Int) from hq);exact Z2.mpr (List.mem_map.mpr ⟨qn,h3 qn hqn,rfl⟩)
section
variable {K : zA} {C : Nat → Addr}
theorem zgm {n:Nat} (hn:22<=n) {s0:W} {ns:List Int} {G:Hw} {Q:Q3} (sc:dZ G s0 ns) (nl:ns.length<=63) (h:∀ G',Q (.bl true) G'):yW (yI K C n) XN blaw { nx:=fun _ G'=>Q .non G',rt:=Q } (xX nlaw [s0]) G:=by
 have e9:(yI K C n).fn[9]?=some zjA:=qM 9 hn rfl;have e10:(yI K C n).fn[10]?=some tI:=qM 10 hn rfl;have e11:(yI K C n).fn[11]?=some ⟨"_law_names", rD⟩:=qM 11 hn rfl;have e12:(yI K C n).fn[12]?=some ⟨"_law_web", zdk⟩:=qM 12 hn rfl;have e16:(yI K C n).fn[16]?=some ⟨"checked_web", fun ws G Q _=>qI C ws G Q fun _ _=>False⟩:=qM 16 hn rfl;have e19:(yI K C n).fn[19]?=some ⟨"_law_spoilt", spSp⟩:=qM 19 hn rfl;have e20:(yI K C n).fn[20]?=some ⟨"_law_first_bad", spFb⟩:=qM 20 hn rfl;have e21:(yI K C n).fn[21]?=some ⟨"_law_refused", zdl⟩:=qM 21 hn rfl;have i0:(yI K C n).it[0]?=some mB:=rfl;have z0:=sz 0 (by decide);show yW (yI K C n) XN blaw { nx:=fun _ G'=>Q .non G',rt:=Q } [some s0,none,none,none,none,none,none] G;simp only [blaw];refine xY ?_
 ((try dsimp only [zO,zQ,zL,zD,yX,yP,yN,zM,zU,zK,zT,zY,zP,zN,zH,zJ,yU,zI,gZ,gS,tZ,tS]);try simp only [e9])
 refine ⟨s0,0,ns,rfl,sc,nl,by decide,fun d l G1 hd hl k1 D1=>?_⟩;refine xY ?_
 ((try dsimp only [zO,zQ,zL,zD,yX,yP,yN,zM,zU,zK,zT,zY,zP,zN,zH,zJ,yU,zI,gZ,gS,tZ,tS]);try simp only [e11,e10,jO])
 refine ⟨d,l,5,rfl,D1,by decide,fun q2 G2 q20 q21 k2 D2=>?_⟩;refine ⟨d,l,1+q2,rfl,D2,by omega,by omega,fun r xs G3 lx ox nr gr k3 D3=>?_⟩;have hx0:xs≠[]:=fun e=>by rw [e] at lx;simp at lx;omega
 have hx5:xs.length<=5:=by omega
 refine xY ?_
 ((try dsimp only [zO,zQ,zL,zD,yX,yP,yN,zM,zU,zK,zT,zY,zP,zN,zH,zJ,yU,zI,gZ,gS,tZ,tS]);try simp only [e12])
 refine ⟨d,l,r,12,xs,rfl,D3,nr,gr,hx5,ox,by decide,by decide,fun web G4 wo gw rs k4 D4=>?_⟩;have gr4:=k4 _ _ nr gr;have io:=ok_i wo;have ck:=chk_i wo gw rs;have one:1<=(web.map Wd.i).length:=by rw [zzM];exact wo.one
 rw [web_i];generalize web.map Wd.i=web at io ck one ⊢;refine xY ?_
 ((try dsimp only [zO,zQ,zL,zD,yX,yP,yN,zM,zU,zK,zT,zY,zP,zN,zH,zJ,yU,zI,gZ,gS,tZ,tS]);try simp only [e16])
 refine ⟨web,rfl,io.mono (by decide) (by decide),fun G5 k5=>?_⟩;have gr5:=k5 _ _ (by simp) gr4;have D5:=fL k5 D4;rw [ck];simp only [yL,isR,if_true,beq_self_eq_true,ZG,zzB,if_false];refine vQ ?_;refine xY ?_
 ((try dsimp only [zO,zQ,zL,zD,yX,yP,yN,zM,zU,zK,zT,zY,zP,zN,zH,zJ,yU,zI,gZ,gS,tZ,tS]);try simp only [i0])
 refine ⟨⟨by decide,by decide⟩,?_⟩;refine ⟨fun i σ G'=>∃ v4 v5 v6:Option W,σ=[some s0,some (.ref d),some (.ref r),some (wA web),v4,v5,v6]/\G' r=some (.lst (xs.map .str))/\xQ G' d l,⟨none,none,none,rfl,gr5,D5⟩,fun _ _ _ _ _=>trivial,?_,?_⟩
 .rintro i w σ G6 hw ⟨v4,v5,v6,rfl,gr6,D6⟩;refine xY ?_
  ((try dsimp only [zO,zQ,zL,zD,yX,yP,yN,zM,zU,zK,zT,zY,zP,zN,zH,zJ,yU,zI,gZ,gS,tZ,tS]);try simp only [e19])
  refine ⟨d,l,r,xs,web,rfl,D6,nr,gr6,hx0,hx5,io,one,fun web' G7 io' k7 D7=>?_⟩;have gr7:=k7 _ _ nr gr6;refine xY ?_
  ((try dsimp only [zO,zQ,zL,zD,yX,yP,yN,zM,zU,zK,zT,zY,zP,zN,zH,zJ,yU,zI,gZ,gS,tZ,tS]);try simp only [e20])
  refine ⟨web',rfl,io'.mono (by decide) (by decide),fun G8 k8=>?_⟩;have gr8:=k8 _ _ (by simp) gr7;have D8:=fL k8 D7;have io2:=io'.mono (show 7<=100 by decide) (show 14<=100 by decide);refine xY ?_
  cases hc:chk web' with
  |some k =>
   ((try dsimp only [zO,zQ,zL,zD,yX,yP,yN,zM,zU,zK,zT,zY,zP,zN,zH,zJ,yU,zI,gZ,gS,tZ,tS]);try simp only [yL,isR,zzB,if_false])
   refine vQ ?_;refine xY ?_
   ((try dsimp only [zO,zQ,zL,zD,yX,yP,yN,zM,zU,zK,zT,zY,zP,zN,zH,zJ,yU,zI,gZ,gS,tZ,tS]);try simp only [e21])
   refine ⟨web',rfl,io2,fun G9 k9=>?_⟩;rw [hc];simp only [yL,xI,decide_true,ZG,zzB,if_false];refine ⟨web',rfl,io2,fun GA kA=>?_⟩;rw [hc];simp only [yL,xI,decide_true,ZG,zzB,if_false];have kk:=k9.trans kA;refine vQ ⟨_,_,_,rfl,kk _ _ (by simp) gr8,fL kk D8⟩
  |none =>
   ((try dsimp only [zO,zQ,zL,zD,yX,yP,yN,zM,zU,zK,zT,zY,zP,zN,zH,zJ,yU,zI,gZ,gS,tZ,tS]);try simp only [yL,isR,zzB,if_false,if_true])
   refine xY ?_
   (try dsimp only [zO,zQ,zL,zD,yX,yP,yN,zM,zU,zK,zT,zY,zP,zN,zH,zJ,yU,zI,gZ,gS,tZ,tS])
   refine vQ ?_;refine xY ?_
   ((try dsimp only [zO,zQ,zL,zD,yX,yP,yN,zM,zU,zK,zT,zY,zP,zN,zH,zJ,yU,zI,gZ,gS,tZ,tS]);try simp only [e21])
   refine ⟨web',rfl,io2,fun G9 k9=>?_⟩;rw [hc];simp only [yL,cT,beq_self_eq_true,ZG,zzB,if_false];refine ⟨web',rfl,io2,fun GA kA=>?_⟩;rw [hc];simp only [yL,cT,beq_self_eq_true,ZG,zzB,if_false];have kk:=k9.trans kA;refine vQ ⟨_,_,_,rfl,kk _ _ (by simp) gr8,fL kk D8⟩
 .rintro σ G6 ⟨v4,v5,v6,rfl,gr6,D6⟩;refine xY ?_
  ((try dsimp only [zO,zQ,zL,zD,yX,yP,yN,zM,zU,zK,zT,zY,zP,zN,zH,zJ,yU,zI,gZ,gS,tZ,tS]);try simp only [e21,e16,Zs,z0,true_and])
  refine ⟨[],rfl,⟨by simp,fun v hv=>by simp at hv,fun v hv=>by simp at hv⟩,fun G7 k7=>?_⟩;have c0:chk []=some 0:=rfl;rw [c0];simp only [yL,xI,decide_true,if_true];refine ⟨web,rfl,io.mono (by decide) (by decide),fun G8 k8=>?_⟩;rw [ck];simp only [isR,zzB,if_false,beq_self_eq_true];exact h G8
end
structure X1 (K:zA) (C:Addr) (f qual:Str) (st:Stmt):Prop where
 ex:∃ fI,XM K C (.ref fI)/\HD K "__init__" qual st .none fI/\PySem.W.typeIn K (.ref fI)=some (.type "function")
 xi:XI K C f
structure Txt (K:zA) (mg:Str->Option Value) (CQ:Nat->Addr) (T0:Addr):Prop where
 deal:∃ f,mg "_law_deal" = some (.ref f)/\HD K "_law_deal" "_law_deal" wF .none f
 draw:∃ f,mg "_law_draw" = some (.ref f)/\HD K "_law_draw" "_law_draw" wG .none f
 names:∃ f,mg "_law_names" = some (.ref f)/\HD K "_law_names" "_law_names" wV .none f
 web:∃ f,mg "_law_web" = some (.ref f)/\HD K "_law_web" "_law_web" jX .none f
 rise:∃ f,mg "is_rising" = some (.ref f)/\HD K "is_rising" "is_rising" wH .none f
 on:∃ f,mg "goes_on" = some (.ref f)/\HD K "goes_on" "goes_on" jE .none f
 gw:∃ f,mg "is_good_world" = some (.ref f)/\HD K "is_good_world" "is_good_world" xW .none f
 chk:∃ f,mg "checked_web" = some (.ref f)/\HD K "checked_web" "checked_web" xC .none f
 sn:∃ f,mg "_law_spoilt_names" = some (.ref f)/\HD K "_law_spoilt_names" "_law_spoilt_names" yT .none f
 sl:∃ f,mg "_law_spoilt_later" = some (.ref f)/\HD K "_law_spoilt_later" "_law_spoilt_later" yS .none f
 spo:∃ f,mg "_law_spoilt" = some (.ref f)/\HD K "_law_spoilt" "_law_spoilt" xB .none f
 fb:∃ f,mg "_law_first_bad" = some (.ref f)/\HD K "_law_first_bad" "_law_first_bad" yE .none f
 ref:∃ f,mg "_law_refused" = some (.ref f)/\HD K "_law_refused" "_law_refused" xH .none f
 max:mg "max" = none
 len:mg "len" = none
 all:mg "all" = none
 list:mg "list" = none
 isi:mg "isinstance" = none
 srt:mg "sorted" = none
 tup:mg "tuple" = none
 int:mg "int" = none
 min:mg "min" = none
 range:mg "range" = none
 zip:mg "zip" = none
 rev:mg "reversed" = none
 set:mg "set" = none
 bool:mg "bool" = none
 val:mg "ValueError" = none
 cl:Cl K CQ
 mgT:mg "TalkError" = some (.ref T0)
 tr:∃ ini,XM K T0 ini
 sub:fA K (CQ 7) T0
 x7:X1 K (CQ 7) "world" "NoWeb.__init__" jS
 m0:mg "NoText" = some (.ref (CQ 0))
 m1:mg "NoBook" = some (.ref (CQ 1))
 m2:mg "NotLet" = some (.ref (CQ 2))
 m3:mg "NoMove" = some (.ref (CQ 3))
 m4:mg "NoPlan" = some (.ref (CQ 4))
 m5:mg "NoTalker" = some (.ref (CQ 5))
 m6:mg "NoPaper" = some (.ref (CQ 6))
 m7:mg "NoWeb" = some (.ref (CQ 7))
 m8:mg "NoRow" = some (.ref (CQ 8))
 m9:mg "NoName" = some (.ref (CQ 9))
def rk (n:Nat):Nat:=2 * n+4
section
variable {q : Pr} {CQ : Nat → Addr} {T0 : Addr}
def Pn (q:Pr) (CQ:Nat->Addr) (n:Nat):Prop:=∀ A,Room (rk n) A->∀ f∈(fnL q.K CQ).take n,qS (q.at A) f
theorem goodL (T:Txt q.K q.mg CQ T0) {l:List Fn3} {A:Around} (hu:A.units+200<cLine) (h:∀ f∈l,qS (q.at A) f):L3.Good (GamL q.K CQ l) (q.at A) :=
 zgC (Γ:=GamL q.K CQ l) hu h
  (zW (cW T.bool (by decide +kernel)) (zW (cW T.int (by decide +kernel)) (zW (cW T.val (by decide +kernel)) (zW (jW T.m0 (v:=.ref _) rfl fun _=>rfl) (zW (jW T.m1 (v:=.ref _) rfl fun _=>rfl) (zW (jW T.m2 (v:=.ref _) rfl fun _=>rfl) (zW (jW T.m3 (v:=.ref _) rfl fun _=>rfl) (zW (jW T.m4 (v:=.ref _) rfl fun _=>rfl) (zW (jW T.m5 (v:=.ref _) rfl fun _=>rfl) (zW (jW T.m6 (v:=.ref _) rfl fun _=>rfl) (zW (jW T.m7 (v:=.ref _) rfl fun _=>rfl) (zW (jW T.m8 (v:=.ref _) rfl fun _=>rfl) (zW (jW T.m9 (v:=.ref _) rfl fun _=>rfl) xS)))))))))))))
  (zW zgQ (zW zen (zW zgX xS)))
  (zW (zgO T.range) (zW (zgM T.zip) xS))
  xS
  (zW (zgP T.list T.rev) (zW ⟨sx_xf,zc7 _ _⟩ (zW ⟨zhJ T.srt T.set,bE⟩ (zW ⟨sx_em,zeo⟩ (zW ⟨sx_tr T.tup T.rev,bH⟩ xS))))) rfl
theorem zda {k:Nat} {A:Around} (hr:Room k A):A.units+200<cLine:=by have:=hr.un;omega
theorem good (T:Txt q.K q.mg CQ T0) {n:Nat} (h:Pn q CQ n):∀ A,Room (rk n) A->L3.Good (yI q.K CQ n) (q.at A):=fun A hr=>goodL T (zda hr) (h A hr)
theorem next {n:Nat} {e:Fn3} (h:Pn q CQ n) (hk:rk n<=rk (n+1)) (he:(fnL q.K CQ).take (n+1)=(fnL q.K CQ).take n++[e]) (hx:∀ A,Room (rk (n+1)) A->qS (q.at A) e):Pn q CQ (n+1):=fun A hr=>by
 rw [he];exact zaj (h A (hr.mono hk)) (hx A hr)
theorem p9 (T:Txt q.K q.mg CQ T0):Pn q CQ 9:=fun A hr=>zW (zgS T.max) (zW (zgU T.len) (zW (zgY T.all) (zW (zgT T.list) (zW (zgV T.isi) (zW (zem T.srt) (zW (zgN T.tup) (zW (zgW T.int) (zW (zgR T.min) xS))))))))
theorem more {n:Nat} {nm qual:Str} {st:Stmt} {f:Addr} {M:MC} {ps:List Str} {sp:mU} {body:ISs} (T:Txt q.K q.mg CQ T0) (h:Pn q CQ n) (hk:rk n+1<=rk (n+1)) (hm:q.mg nm=some (.ref f)) (hd:HD q.K nm qual st .none f) (S:FnScope M.N ps (zZ st)) (eM:MOk (yI q.K CQ n) M (zZ st)) (look:sM body M (zG st)=true)
  (len:∀ ws G Q,sp ws G Q XN->ws.length=ps.length) (hb:∀ ws G Q,sp ws G Q XN->yW (yI q.K CQ n) XN body { nx:=fun _ G'=>Q .non G',rt:=Q } (xX M.N ws) G) (mono:zc2 ⟨nm,sp⟩)
  (hbind:∀ (kV doc pm:Value) (an:Option Addr) (cdv ct:Value) (us:List Value),us.length=ps.length->bindArgs (fnOf nm qual (yJ st) (zG st) (zZ st) .none kV doc pm an cdv ct) ⟨us,[]⟩=pure (ps.zip us))
  (he:(fnL q.K CQ).take (n+1)=(fnL q.K CQ).take n++[⟨nm,sp⟩]):Pn q CQ (n+1):=by
 obtain ⟨fd,F,_⟩:=hd.fd;have FO:=zcH F S (good T h) eM look len hb;exact next h (by omega) he fun A hr=>zcE FO hm F.kp (tG F hbind) mono hr hk
theorem usS {P:List Value->Prop} {n:Nat} (h:∀ a l,l.length=n->P (a::l)) (us:List Value) (e:us.length=n+1):P us:=by
 cases us with
 |nil=>exact absurd e (Nat.succ_ne_zero n).symm
 |cons a l=>exact h a l (Nat.succ.inj e)
theorem us0 {P:List Value->Prop} (h:P []) (us:List Value) (e:us.length=0):P us:=by
 cases us with
 |nil=>exact h
 |cons a l=>exact absurd e (Nat.succ_ne_zero _)
theorem us1 {P:List Value->Prop} (h:∀ a0,P [a0]):∀ us:List Value,us.length=1->P us:=usS (P:=fun l=>P (l)) (fun a0=>us0 (P:=fun l=>P (a0::l)) (h a0))
theorem us2 {P:List Value->Prop} (h:∀ a0 a1,P [a0,a1]):∀ us:List Value,us.length=2->P us:=usS (P:=fun l=>P (l)) (fun a0=>usS (P:=fun l=>P (a0::l)) (fun a1=>us0 (P:=fun l=>P (a0::a1::l)) (h a0 a1)))
theorem us3 {P:List Value->Prop} (h:∀ a0 a1 a2,P [a0,a1,a2]):∀ us:List Value,us.length=3->P us:=usS (P:=fun l=>P (l)) (fun a0=>usS (P:=fun l=>P (a0::l)) (fun a1=>usS (P:=fun l=>P (a0::a1::l)) (fun a2=>us0 (P:=fun l=>P (a0::a1::a2::l)) (h a0 a1 a2))))
theorem us4 {P:List Value->Prop} (h:∀ a0 a1 a2 a3,P [a0,a1,a2,a3]):∀ us:List Value,us.length=4->P us:=usS (P:=fun l=>P (l)) (fun a0=>usS (P:=fun l=>P (a0::l)) (fun a1=>usS (P:=fun l=>P (a0::a1::l)) (fun a2=>usS (P:=fun l=>P (a0::a1::a2::l)) (fun a3=>us0 (P:=fun l=>P (a0::a1::a2::a3::l)) (h a0 a1 a2 a3)))))
theorem p10 (T:Txt q.K q.mg CQ T0):Pn q CQ 10:=by
 obtain ⟨f,hm,hd⟩:=T.deal
 exact more (sp:=zby) (M:=nW) T (p9 T) (by decide) hm hd zac ⟨rfl,rfl,rfl,rfl,rfl,rfl,rfl,rfl⟩ mF
  (fun ws G Q h=>by obtain ⟨a,b,ns,rfl,_⟩:=h;rfl) (fun ws G Q ⟨a,b,ns,e,h1,h2,h3,h4⟩=>by subst e;exact zet rfl rfl h1 h2 h3 h4) (bC) (fun _ _ _ _ _ _=>us2 (fun _ _=>rfl)) rfl
theorem p11 (T:Txt q.K q.mg CQ T0):Pn q CQ 11:=by
 obtain ⟨f,hm,hd⟩:=T.draw
 exact more (sp:=zbx) (M:=nX) T (p10 T) (by decide) hm hd zab ⟨rfl,rfl,rfl,rfl,rfl,rfl,rfl,rfl⟩ mH
  (fun ws G Q h=>by obtain ⟨a,b,m,rfl,_⟩:=h;rfl) (fun ws G Q ⟨a,b,m,e,h1,h2,h3⟩=>by subst e;exact zeq rfl rfl h1 h2 h3) (bD) (fun _ _ _ _ _ _=>us2 (fun _ _=>rfl)) rfl
theorem p12 (T:Txt q.K q.mg CQ T0):Pn q CQ 12:=by
 obtain ⟨f,hm,hd⟩:=T.names
 exact more (sp:=rD) (M:=sC) T (p11 T) (by decide) hm hd dO ⟨rfl,rfl,rfl,rfl,rfl,rfl,rfl,rfl⟩ nU
  (fun ws G Q h=>by obtain ⟨d,l,m,rfl,_⟩:=h;rfl) (fun ws G Q h=>zb4 (by decide) h) (fun ws G Q Q' E k hh=>by
   obtain ⟨d,l,m,h1,h2,h3,h4,h⟩:=hh;exact ⟨d,l,m,h1,h2,h3,h4,fun u0 u1 G' y0 y1 y2 y3 y4 y5=>k _ _ (h u0 u1 G' y0 y1 y2 y3 y4 y5)⟩) (fun _ _ _ _ _ _=>us2 (fun _ _=>rfl)) rfl
theorem p13 (T:Txt q.K q.mg CQ T0):Pn q CQ 13:=by
 obtain ⟨f,hm,hd⟩:=T.web
 exact more (sp:=zdk) (M:=gB) T (p12 T) (by decide) hm hd zaS ⟨rfl,rfl,rfl,rfl,rfl,rfl,rfl,rfl⟩ dD
  (fun ws G Q h=>by obtain ⟨d,l,r,m,xs,rfl,_⟩:=h;rfl) (fun ws G Q h=>zfs (by decide) h) (fun ws G Q Q' E k hh=>by
   obtain ⟨d,l,r,m,xs,h1,h2,h3,h4,h5,h6,h7,h8,h⟩:=hh;exact ⟨d,l,r,m,xs,h1,h2,h3,h4,h5,h6,h7,h8,fun u0 G' y0 y1 y2 y3 y4=>k _ _ (h u0 G' y0 y1 y2 y3 y4)⟩) (fun _ _ _ _ _ _=>us3 (fun _ _ _=>rfl)) rfl
theorem p14 (T:Txt q.K q.mg CQ T0):Pn q CQ 14:=by
 obtain ⟨f,hm,hd⟩:=T.rise
 exact more (sp:=dU) (M:=nY) T (p13 T) (by decide) hm hd zaa ⟨rfl,rfl,rfl,rfl,rfl,rfl,rfl,rfl⟩ mJ
  (fun ws G Q h=>by rcases h with ⟨_,rfl,_⟩|⟨_,rfl,_⟩<;>rfl) (fun ws G Q h=>zdv (by decide) h) (fun ws G Q Q' E k hh=>by
   rcases hh with ⟨n,h1,h2,h⟩|⟨n,h1,h2,h⟩
   .exact .inl ⟨n,h1,h2,fun G' a=>k _ _ (h G' a)⟩
   .exact .inr ⟨n,h1,h2,fun G' a=>k _ _ (h G' a)⟩) (fun _ _ _ _ _ _=>us1 (fun _=>rfl)) rfl
theorem p15 (T:Txt q.K q.mg CQ T0):Pn q CQ 15:=by
 obtain ⟨f,hm,hd⟩:=T.on
 exact more (sp:=spOn) (M:=zav) T (p14 T) (by decide) hm hd zbH ⟨rfl,rfl,rfl,rfl,rfl,rfl,rfl,rfl⟩ zah
  (fun ws G Q h=>by obtain ⟨v,u,rfl,_⟩:=h;rfl) (fun ws G Q h=>ziF (by decide) h) (fun ws G Q Q' E k hh=>by
   obtain ⟨v,u,h1,h2,h⟩:=hh;exact ⟨v,u,h1,h2,fun  G' y0=>k _ _ (h  G' y0)⟩) (fun _ _ _ _ _ _=>us2 (fun _ _=>rfl)) rfl
theorem p16 (T:Txt q.K q.mg CQ T0):Pn q CQ 16:=by
 obtain ⟨f,hm,hd⟩:=T.gw
 exact more (sp:=dS) (M:=vJ) T (p15 T) (by decide) hm hd rM ⟨rfl,rfl,rfl,rfl,rfl,rfl,rfl,rfl⟩ tM
  (fun ws G Q h=>by obtain ⟨web,c,rfl,_⟩:=h;rfl) (fun ws G Q h=>zed (by decide) h) (fun ws G Q Q' E k hh=>by
   obtain ⟨web,c,h1,h2,h3,h⟩:=hh;exact ⟨web,c,h1,h2,h3,fun  G' y0=>k _ _ (h  G' y0)⟩) (fun _ _ _ _ _ _=>us2 (fun _ _=>rfl)) rfl
theorem nE:mV ⟨"checked_web", qI CQ⟩:=fun ws G Q Q' E E' k k' hh=>by
 obtain ⟨web,h1,h2,h⟩:=hh;refine ⟨web,h1,h2,fun G' kp=>?_⟩;have:=h G' kp
 cases hc:chk web with
 |some v=>rw [hc] at this;exact k' _ _ this
 |none=>rw [hc] at this;exact k _ _ this
theorem ze3 (T:Txt q.K q.mg CQ T0) {l:List Fx3} {A:Around} (hr:Room 4 A) (hl:∀ f∈l,FxE (q.at A) f/\mV f):GoodX (hG CQ l T0) (q.at A):=by
 obtain ⟨fI,xm,hd,hf⟩:=T.x7.ex;obtain ⟨fd,F,_⟩:=hd.fd;have FO:=zc4 (q:=q) (k:=0) ⟨F.ex,F.kp⟩ dN rfl (by decide +kernel) (by decide +kernel) (by decide +kernel) (by decide +kernel);exact ⟨hl,zW (cl_1 xm T.x7.xi FO (hr.mono (by decide)) (tG F fun _ _ _ _ _ _=>us2 fun _ _=>rfl) hf T.m7) xS,zW ⟨T.mgT,T.tr,zW T.sub xS⟩ xS⟩
theorem chkF (T:Txt q.K q.mg CQ T0):∃ f fd,q.mg "checked_web" = some (.ref f)/\keepIn q.K (.ref f)=true/\kY q.K fd ["web"] []/\FnOk q.prog q.w q.K q.mg q.base (CXr q.prog q.w) (rk 16+1) f fd ["web"] (dE q.K (qI CQ)):=by
 obtain ⟨f,hm,hd⟩:=T.chk;obtain ⟨fd,F,_⟩:=hd.fd;exact ⟨f,fd,hm,F.kp,tG F fun _ _ _ _ _ _=>us1 fun _=>rfl,zg3 (k:=rk 16) (Γ:=yI q.K CQ 16) (Δ:=hG CQ [] T0) (M:=tP) (Z:=tY) (sp:=qI CQ) F mP (good T (p16 T)) (fun A hr=>ze3 T (hr.mono (by decide)) xS) ⟨rfl,rfl,rfl,rfl,rfl,rfl,rfl,rfl⟩ ⟨rfl,rfl,rfl⟩ rL (fun ws G Q E h=>by obtain ⟨web,rfl,_⟩:=h;rfl) (fun ws G Q E h=>zha (by decide) h)⟩
theorem chkE (T:Txt q.K q.mg CQ T0):∀ A,Room (rk 17) A->FxE (q.at A) ⟨"checked_web", qI CQ⟩:=fun A hr=>by
 obtain ⟨f,fd,hm,kp,hb,FO⟩:=chkF T;exact zju FO hm kp hb nE (hr.mono (by decide))
theorem p17 (T:Txt q.K q.mg CQ T0):Pn q CQ 17:=by
 exact next (p16 T) (by decide) rfl fun A hr=>zjz (chkE T A hr) nE
theorem p18 (T:Txt q.K q.mg CQ T0):Pn q CQ 18:=by
 obtain ⟨f,hm,hd⟩:=T.sn
 exact more (sp:=spSn) (M:=jA) T (p17 T) (by decide) hm hd uR ⟨rfl,rfl,rfl,rfl,rfl,rfl,rfl,rfl⟩ vX
  (fun ws G Q h=>by obtain ⟨d,l,r,xs,ss,rfl,_⟩:=h;rfl) (fun ws G Q h=>zhQ (by decide) h) (fun ws G Q Q' E k hh=>by
   obtain ⟨d,l,r,xs,ss,h1,h2,h3,h4,h5,h6,h7,h⟩:=hh;exact ⟨d,l,r,xs,ss,h1,h2,h3,h4,h5,h6,h7,fun u0 G' y0 y1 y2=>k _ _ (h u0 G' y0 y1 y2)⟩) (fun _ _ _ _ _ _=>us3 (fun _ _ _=>rfl)) rfl
theorem p19 (T:Txt q.K q.mg CQ T0):Pn q CQ 19:=by
 obtain ⟨f,hm,hd⟩:=T.sl
 exact more (sp:=spSl) (M:=qZ) T (p18 T) (by decide) hm hd uQ ⟨rfl,rfl,rfl,rfl,rfl,rfl,rfl,rfl⟩ vW
  (fun ws G Q h=>by obtain ⟨d,l,ls,a,m,rfl,_⟩:=h;rfl) (fun ws G Q h=>zhT (by decide) h) (fun ws G Q Q' E k hh=>by
   obtain ⟨d,l,ls,a,m,h1,h2,h3,h4,h5,h6,h⟩:=hh;exact ⟨d,l,ls,a,m,h1,h2,h3,h4,h5,h6,fun u0 G' y0 y1 y2=>k _ _ (h u0 G' y0 y1 y2)⟩) (fun _ _ _ _ _ _=>us4 (fun _ _ _ _=>rfl)) rfl
theorem p20 (T:Txt q.K q.mg CQ T0):Pn q CQ 20:=by
 obtain ⟨f,hm,hd⟩:=T.spo
 exact more (sp:=spSp) (M:=tO) T (p19 T) (by decide) hm hd mM ⟨rfl,rfl,rfl,rfl,rfl,rfl,rfl,rfl⟩ rK
  (fun ws G Q h=>by obtain ⟨d,l,r,xs,web,rfl,_⟩:=h;rfl) (fun ws G Q h=>zhN (by decide) h) (fun ws G Q Q' E k hh=>by
   obtain ⟨d,l,r,xs,web,h1,h2,h3,h4,h5,h6,h7,h8,h⟩:=hh;exact ⟨d,l,r,xs,web,h1,h2,h3,h4,h5,h6,h7,h8,fun u0 G' y0 y1 y2=>k _ _ (h u0 G' y0 y1 y2)⟩) (fun _ _ _ _ _ _=>us3 (fun _ _ _=>rfl)) rfl
theorem p21 (T:Txt q.K q.mg CQ T0):Pn q CQ 21:=by
 obtain ⟨f,hm,hd⟩:=T.fb
 exact more (sp:=spFb) (M:=kE) T (p20 T) (by decide) hm hd sV ⟨rfl,rfl,rfl,rfl,rfl,rfl,rfl,rfl⟩ uG
  (fun ws G Q h=>by obtain ⟨web,rfl,_⟩:=h;rfl) (fun ws G Q h=>zjx (by decide) h) (fun ws G Q Q' E k hh=>by
   obtain ⟨web,h1,h2,h⟩:=hh;exact ⟨web,h1,h2,fun  G' y0=>k _ _ (h  G' y0)⟩) (fun _ _ _ _ _ _=>us1 (fun _=>rfl)) rfl
theorem p22 (T:Txt q.K q.mg CQ T0):Pn q CQ 22:=by
 obtain ⟨f,hm,hd⟩:=T.ref;obtain ⟨fd,F,_⟩:=hd.fd;have FO:=zg4 (k:=rk 21) (Γ:=yI q.K CQ 21) (Δ:=hG CQ [⟨"checked_web", qI CQ⟩] T0) (M:=uL) (Z:=uO) (sp:=zdl) F pL (good T (p21 T)) (fun A hr=>ze3 T (hr.mono (by decide)) (zW ⟨chkE T A (hr.mono (by decide)),nE⟩ xS)) ⟨rfl,rfl,rfl,rfl,rfl,rfl,rfl,rfl⟩ ⟨rfl,rfl,rfl⟩ sK (fun ws G Q h=>by obtain ⟨web,rfl,_⟩:=h;rfl) (fun ws G Q h=>zfP (by decide) T.cl h)
 exact next (p21 T) (by decide) rfl fun A hr=>zcE FO hm F.kp (tG F fun _ _ _ _ _ _=>us1 fun _=>rfl) (fun ws G Q Q' E k hh=>by
   obtain ⟨web,h1,h2,h⟩:=hh;exact ⟨web,h1,h2,fun G' a=>k _ _ (h G' a)⟩) hr (by decide)
theorem ziX {P:Program} {w:World} {K:zA} {mg:Str->Option Value} (T:Txt K mg CQ T0) {f:Addr} (hd:HD K "law" "law" slaw .none f):∃ fd:FuncData,(∀ (s:Shared) (u:Value),BindsTo s fd ⟨[u],[]⟩ [("_law_script", u)])/\∀ base:Heap,FnOk P w K mg base CX0 49 f fd ["_law_script"] (uK K gN):=by
 obtain ⟨fd,F,kV,doc,pm,an,cdv,ct,e⟩:=hd.fd;refine ⟨fd,fun s u=>by subst e;exact .of_eq rfl,fun base=>zcH (q:=⟨P,w,K,mg,base⟩) (k:=48) (sp:=gN) (M:=mlaw) F sclaw (good (q:=⟨P,w,K,mg,base⟩) T (p22 T)) ⟨rfl,rfl,rfl,rfl,rfl,rfl,rfl,rfl⟩ zgh (fun ws G Q h=>by obtain ⟨a,ns,rfl,_⟩:=h;rfl) fun ws G Q h=>?_⟩;obtain ⟨a,ns,rfl,hs,hl,h⟩:=h;exact zgm (by decide) hs hl h
end
structure Kc (K:zA) (T C:Addr) (ini:Value):Prop where
 cls:∃ (nm qn:Str) (N:Addr) (bs:List Value) (sn:List Str) (sub:List Value) (ab:Bool) (col:Option Bool) (dd:Option Addr) (k0 k1 k2 k3 k5:Option Value),
  K.lookup C=some (excClassObj nm qn C N bs [.ref T,.type "ValueError", .type "Exception", .type "BaseException", .type "object"] true sn sub ab col dd k0 k1 k2 k3 k5 "ValueError.__new__")
 ga:findIn K (.ref C) "__getattribute__" = some (some (.builtin "BaseException.__getattribute__"))
 gt:findIn K (.ref C) "__getattr__" = some none
 ca:findIn K (.ref C) "__class__" = some (some (.builtin "object.__class__"))
 ini:findIn K (.ref C) "__init__" = some (some ini)
 kp:keepIn K (.ref C)=true
theorem Kc.mk' {K:zA} {T C N:Addr} {ini:Value} {nm qn:Str} {bs:List Value} {sn:List Str} {sub:List Value} {ab:Bool} {col:Option Bool} {dd:Option Addr} {k0 k1 k2 k3 k5:Option Value}
  (l:K.lookup C=some (excClassObj nm qn C N bs [.ref T,.type "ValueError", .type "Exception", .type "BaseException", .type "object"] true sn sub ab col dd k0 k1 k2 k3 k5 "ValueError.__new__"))
  (ga:findIn K (.ref C) "__getattribute__" = some (some (.builtin "BaseException.__getattribute__"))) (gt:findIn K (.ref C) "__getattr__" = some none) (ca:findIn K (.ref C) "__class__" = some (some (.builtin "object.__class__")))
  (ini':findIn K (.ref C) "__init__" = some (some ini)) (kp:keepIn K (.ref C)=true):Kc K T C ini:=⟨⟨nm,qn,N,bs,sn,sub,ab,col,dd,k0,k1,k2,k3,k5,l⟩,ga,gt,ca,ini',kp⟩
section
variable {K : zA} {T C : Addr} {ini : Value}
theorem Kc.cd (k:Kc K T C ini):∃ cd,PySem.W.clsIn K C=some cd/\cd.hasDict=true/\cd.mro=[.ref C,.ref T,.type "ValueError", .type "Exception", .type "BaseException", .type "object"]:=by
 obtain ⟨nm,qn,N,bs,sn,sub,ab,col,dd,k0,k1,k2,k3,k5,l⟩:=k.cls;exact ⟨_,by unfold PySem.W.clsIn;rw [l],rfl,rfl⟩
theorem Kc.ty (k:Kc K T C ini):PySem.W.typeIn K (.ref C)=some (.type "type"):=by
 obtain ⟨nm,qn,N,bs,sn,sub,ab,col,dd,k0,k1,k2,k3,k5,l⟩:=k.cls;show (K.lookup C).map (·.cls)=_;rw [l];rfl
theorem Kc.mro (k:Kc K T C ini) (v:Value):PySem.W.mroIn K C v=some (([.ref C,.ref T,.type "ValueError", .type "Exception", .type "BaseException", .type "object"]:List Value).contains v):=by
 obtain ⟨cd,e,_,m⟩:=k.cd;unfold PySem.W.mroIn;rw [e];show (if cd.mro.isEmpty=true then none else some (cd.mro.contains v))=_;rw [m];rfl
theorem bI {x:String} (C T:Addr) (h:(["ValueError", "Exception", "BaseException", "object"]:List String).contains x=true):([.ref C,.ref T,.type "ValueError", .type "Exception", .type "BaseException", .type "object"]:List Value).contains (.type x)=true:=by
 rw [Z2] at h ⊢;simp only [Zk,Zt,or_false] at h ⊢;rcases h with rfl|rfl|rfl|rfl<;>simp
theorem zbn {x:String} (C T:Addr) (h:(["ValueError", "Exception", "BaseException", "object"]:List String).contains x=false):([.ref C,.ref T,.type "ValueError", .type "Exception", .type "BaseException", .type "object"]:List Value).contains (.type x)=false:=by
 rw [Zb2] at h ⊢;intro e;refine h ?_;rw [Z2] at e ⊢;simp only [Zk,Zt,or_false] at e ⊢;rcases e with e|e|e|e|e|e
 .cases e
 .cases e
 .exact .inl (Zb0 e)
 .exact .inr (.inl (Zb0 e))
 .exact .inr (.inr (.inl (Zb0 e)))
 .exact .inr (.inr (.inr (Zb0 e)))
theorem Kc.xc (k:Kc K T C ini):PySem.W.XC K C where
 cls:=by obtain ⟨cd,e,_⟩:=k.cd;rw [e];rfl
 ga:=k.ga
 gt:=k.gt
 sub:=(k.mro _).trans (by rw [bI C T (by decide)])
 cl:=k.ca
 mro:=(k.mro _).trans (by rw [bI C T (by decide)])
theorem Kc.xm (k:Kc K T C ini):XM K C ini where
 cls:=by
  obtain ⟨nm,qn,N,bs,sn,sub,ab,col,dd,k0,k1,k2,k3,k5,l⟩:=k.cls;exact ⟨nm,qn,N,bs,_,true,sn,sub,ab,col,dd,k0,k1,k2,k3,k5,l,bI C T (by decide),zbn C T (by decide),zbn C T (by decide),bI C T (by decide)⟩
 ini:=k.ini
 kp:=k.kp
theorem Kc.xi {f:Str} (k:Kc K T C ini) (sa:findIn K (.ref C) "__setattr__" = some (some (.builtin "object.__setattr__"))) (no:findIn K (.ref C) f=some none):XI K C f where
 cls:=by
  obtain ⟨cd,e,h,m⟩:=k.cd;exact ⟨cd,e,h,[C,T],m⟩
 sa:=sa
 mro:=k.xc.mro
 no:=no
theorem Kc.hd (k:Kc K T C ini):PySem.W.hasDictIn K C=true:=by
 obtain ⟨cd,e,h,m⟩:=k.cd;unfold PySem.W.hasDictIn;rw [e];exact h
theorem Kc.val (k:Kc K T C ini):PySem.W.kitOne K (.ref C) (.type "ValueError")=some true:=by
 unfold PySem.W.kitOne;rw [if_neg (fun z=>by cases beq_iff_eq.mp z)];unfold PySem.W.kitCls;dsimp only;rw [if_pos (by decide +kernel)];exact (k.mro _).trans (by rw [bI C T (by decide)])
theorem Kc.no {D:Addr} {cd:ClassData} (k:Kc K T C ini) (hc:PySem.W.clsIn K D=some cd) (ht:PySem.W.typeIn K (.ref D)=some (.type "type")) (hn:D≠C/\D≠T):PySem.W.kitOne K (.ref C) (.ref D)=some false:=by
 unfold PySem.W.kitOne;rw [if_neg (fun z=>hn.1 (Zcc (beq_iff_eq.mp z)).symm)];unfold PySem.W.kitCls;dsimp only;rw [if_pos (by rw [hc,ht];rfl)];refine (k.mro _).trans ?_;congr 1;rw [Zb2];intro z;rw [Z2] at z;simp only [Zk,Zt,or_false] at z;rcases z with z|z|z|z|z|z
 .exact hn.1 (Zcc z)
 .exact hn.2 (Zcc z)
 .cases z
 .cases z
 .cases z
 .cases z
theorem zbm {x:String} (T:Addr) (h:(["ValueError", "Exception", "BaseException", "object"]:List String).contains x=false):([.ref T,.type "ValueError", .type "Exception", .type "BaseException", .type "object"]:List Value).contains (.type x)=false:=by
 have:=zbn T T h;rw [List.contains_cons] at this;exact (Bool.or_eq_false_iff.mp this).2
end
def cs (c0 c1 c2 c3 c4 c5 c6 c7 c8 c9:Addr):Nat->Addr
 | 0=>c0
 | 1=>c1
 | 2=>c2
 | 3=>c3
 | 4=>c4
 | 5=>c5
 | 6=>c6
 | 7=>c7
 | 8=>c8
 |_=>c9
theorem all_mk {l:PySem.W.OpenLaw} {w:World} {K:zA} {h:Heap} {mg:Str->Option Value} {fa T0 f1 f2 f3 f4 f5 f6 f7 f8 f9 f10 f11 f12 f13 f14:Addr} (X:K.In h) (G:h.Ns mainGlobals mg) (hfa:mg "law" = some (.ref fa))
  {od1 an1 od2 an2 od3 an3 od4 an4 od5 an5 od6 an6 od7 an7 od8 an8 od9 an9 od10 an10 od11 an11 od12 an12 od13 an13 od14 an14:Option Addr} {sl1 sl2 sl3 sl4 sl5 sl6 sl7 sl8 sl9 sl10 sl11 sl12 sl13 sl14:Array (Option Value)} {oc1 kV1 dc1 pm1 cd1 ct1 oc2 kV2 dc2 pm2 cd2 ct2 oc3 kV3 dc3 pm3 cd3 ct3 oc4 kV4 dc4 pm4 cd4 ct4 oc5 kV5 dc5 pm5 cd5 ct5 oc6 kV6 dc6 pm6 cd6 ct6 oc7 kV7 dc7 pm7 cd7 ct7 oc8 kV8 dc8 pm8 cd8 ct8 oc9 kV9 dc9 pm9 cd9 ct9 oc10 kV10 dc10 pm10 cd10 ct10 oc11 kV11 dc11 pm11 cd11 ct11 oc12 kV12 dc12 pm12 cd12 ct12 oc13 kV13 dc13 pm13 cd13 ct13 oc14 kV14 dc14 pm14 cd14 ct14:Value} {C0 C1 C2 C3 C4 C5 C6 C7 C8 C9 g7 N7 NT:Addr} {nm7 qn7 nmT qnT:Str} {bs7 sub7 bsT subT:List Value} {sn7 snT:List Str} {ab7 abT:Bool} {col7 colT:Option Bool} {dd7 ddT odI7 anI7:Option Addr} {ka7 kb7 kc7 kd7 ke7 kaT kbT kcT kdT keT:Option Value} {slI7:Array (Option Value)} {ocI7 kVI7 dcI7 pmI7 cdI7 ctI7:Value} {cz0 cz1 cz2 cz3 cz4 cz5 cz6 cz8 cz9:ClassData}
  (a1:nsIn K mainGlobals "_law_deal" = some (some (.ref f1))) (l1:K.lookup f1=some ⟨oc1,od1,.func (fnOf "_law_deal" "_law_deal" (yJ wF) (zG wF) (zZ wF) .none kV1 dc1 pm1 an1 cd1 ct1),sl1⟩) (c1:codeIn K cd1 "_law_deal" = true) (k1:keepIn K (.ref f1)=true)
  (a2:nsIn K mainGlobals "_law_draw" = some (some (.ref f2))) (l2:K.lookup f2=some ⟨oc2,od2,.func (fnOf "_law_draw" "_law_draw" (yJ wG) (zG wG) (zZ wG) .none kV2 dc2 pm2 an2 cd2 ct2),sl2⟩) (c2:codeIn K cd2 "_law_draw" = true) (k2:keepIn K (.ref f2)=true)
  (a3:nsIn K mainGlobals "_law_names" = some (some (.ref f3))) (l3:K.lookup f3=some ⟨oc3,od3,.func (fnOf "_law_names" "_law_names" (yJ wV) (zG wV) (zZ wV) .none kV3 dc3 pm3 an3 cd3 ct3),sl3⟩) (c3:codeIn K cd3 "_law_names" = true) (k3:keepIn K (.ref f3)=true)
  (a4:nsIn K mainGlobals "_law_web" = some (some (.ref f4))) (l4:K.lookup f4=some ⟨oc4,od4,.func (fnOf "_law_web" "_law_web" (yJ jX) (zG jX) (zZ jX) .none kV4 dc4 pm4 an4 cd4 ct4),sl4⟩) (c4:codeIn K cd4 "_law_web" = true) (k4:keepIn K (.ref f4)=true)
  (a5:nsIn K mainGlobals "is_rising" = some (some (.ref f5))) (l5:K.lookup f5=some ⟨oc5,od5,.func (fnOf "is_rising" "is_rising" (yJ wH) (zG wH) (zZ wH) .none kV5 dc5 pm5 an5 cd5 ct5),sl5⟩) (c5:codeIn K cd5 "is_rising" = true) (k5:keepIn K (.ref f5)=true)
  (a6:nsIn K mainGlobals "goes_on" = some (some (.ref f6))) (l6:K.lookup f6=some ⟨oc6,od6,.func (fnOf "goes_on" "goes_on" (yJ jE) (zG jE) (zZ jE) .none kV6 dc6 pm6 an6 cd6 ct6),sl6⟩) (c6:codeIn K cd6 "goes_on" = true) (k6:keepIn K (.ref f6)=true)
  (a7:nsIn K mainGlobals "is_good_world" = some (some (.ref f7))) (l7:K.lookup f7=some ⟨oc7,od7,.func (fnOf "is_good_world" "is_good_world" (yJ xW) (zG xW) (zZ xW) .none kV7 dc7 pm7 an7 cd7 ct7),sl7⟩) (c7:codeIn K cd7 "is_good_world" = true) (k7:keepIn K (.ref f7)=true)
  (a8:nsIn K mainGlobals "checked_web" = some (some (.ref f8))) (l8:K.lookup f8=some ⟨oc8,od8,.func (fnOf "checked_web" "checked_web" (yJ xC) (zG xC) (zZ xC) .none kV8 dc8 pm8 an8 cd8 ct8),sl8⟩) (c8:codeIn K cd8 "checked_web" = true) (k8:keepIn K (.ref f8)=true)
  (a9:nsIn K mainGlobals "_law_spoilt_names" = some (some (.ref f9))) (l9:K.lookup f9=some ⟨oc9,od9,.func (fnOf "_law_spoilt_names" "_law_spoilt_names" (yJ yT) (zG yT) (zZ yT) .none kV9 dc9 pm9 an9 cd9 ct9),sl9⟩) (c9:codeIn K cd9 "_law_spoilt_names" = true) (k9:keepIn K (.ref f9)=true)
  (a10:nsIn K mainGlobals "_law_spoilt_later" = some (some (.ref f10))) (l10:K.lookup f10=some ⟨oc10,od10,.func (fnOf "_law_spoilt_later" "_law_spoilt_later" (yJ yS) (zG yS) (zZ yS) .none kV10 dc10 pm10 an10 cd10 ct10),sl10⟩) (c10:codeIn K cd10 "_law_spoilt_later" = true) (k10:keepIn K (.ref f10)=true)
  (a11:nsIn K mainGlobals "_law_spoilt" = some (some (.ref f11))) (l11:K.lookup f11=some ⟨oc11,od11,.func (fnOf "_law_spoilt" "_law_spoilt" (yJ xB) (zG xB) (zZ xB) .none kV11 dc11 pm11 an11 cd11 ct11),sl11⟩) (c11:codeIn K cd11 "_law_spoilt" = true) (k11:keepIn K (.ref f11)=true)
  (a12:nsIn K mainGlobals "_law_first_bad" = some (some (.ref f12))) (l12:K.lookup f12=some ⟨oc12,od12,.func (fnOf "_law_first_bad" "_law_first_bad" (yJ yE) (zG yE) (zZ yE) .none kV12 dc12 pm12 an12 cd12 ct12),sl12⟩) (c12:codeIn K cd12 "_law_first_bad" = true) (k12:keepIn K (.ref f12)=true)
  (a13:nsIn K mainGlobals "_law_refused" = some (some (.ref f13))) (l13:K.lookup f13=some ⟨oc13,od13,.func (fnOf "_law_refused" "_law_refused" (yJ xH) (zG xH) (zZ xH) .none kV13 dc13 pm13 an13 cd13 ct13),sl13⟩) (c13:codeIn K cd13 "_law_refused" = true) (k13:keepIn K (.ref f13)=true)
  (a14:nsIn K mainGlobals "law" = some (some (.ref f14))) (l14:K.lookup f14=some ⟨oc14,od14,.func (fnOf "law" "law" (yJ slaw) (zG slaw) (zZ slaw) .none kV14 dc14 pm14 an14 cd14 ct14),sl14⟩) (c14:codeIn K cd14 "law" = true) (k14:keepIn K (.ref f14)=true)
  (z0:nsIn K mainGlobals "max" = some none)
  (z1:nsIn K mainGlobals "len" = some none)
  (z2:nsIn K mainGlobals "all" = some none)
  (z3:nsIn K mainGlobals "list" = some none)
  (z4:nsIn K mainGlobals "isinstance" = some none)
  (z5:nsIn K mainGlobals "sorted" = some none)
  (z6:nsIn K mainGlobals "tuple" = some none)
  (z7:nsIn K mainGlobals "int" = some none)
  (z8:nsIn K mainGlobals "min" = some none)
  (z9:nsIn K mainGlobals "range" = some none)
  (z10:nsIn K mainGlobals "zip" = some none)
  (z11:nsIn K mainGlobals "reversed" = some none)
  (z12:nsIn K mainGlobals "set" = some none)
  (z13:nsIn K mainGlobals "bool" = some none)
  (z14:nsIn K mainGlobals "ValueError" = some none)
  (A0:nsIn K mainGlobals "NoText" = some (some (.ref C0)))
  (A1:nsIn K mainGlobals "NoBook" = some (some (.ref C1)))
  (A2:nsIn K mainGlobals "NotLet" = some (some (.ref C2)))
  (A3:nsIn K mainGlobals "NoMove" = some (some (.ref C3)))
  (A4:nsIn K mainGlobals "NoPlan" = some (some (.ref C4)))
  (A5:nsIn K mainGlobals "NoTalker" = some (some (.ref C5)))
  (A6:nsIn K mainGlobals "NoPaper" = some (some (.ref C6)))
  (A7:nsIn K mainGlobals "NoWeb" = some (some (.ref C7)))
  (A8:nsIn K mainGlobals "NoRow" = some (some (.ref C8)))
  (A9:nsIn K mainGlobals "NoName" = some (some (.ref C9)))
  (aT:nsIn K mainGlobals "TalkError" = some (some (.ref T0)))
  (L7:K.lookup C7=some (excClassObj nm7 qn7 C7 N7 bs7 [.ref T0,.type "ValueError", .type "Exception", .type "BaseException", .type "object"] true sn7 sub7 ab7 col7 dd7 ka7 kb7 kc7 kd7 ke7 "ValueError.__new__"))
  (G7:findIn K (.ref C7) "__getattribute__" = some (some (.builtin "BaseException.__getattribute__")))
  (H7:findIn K (.ref C7) "__getattr__" = some none)
  (J7:findIn K (.ref C7) "__class__" = some (some (.builtin "object.__class__")))
  (I7:findIn K (.ref C7) "__init__" = some (some (.ref g7)))
  (K7:keepIn K (.ref C7)=true)
  (S7:findIn K (.ref C7) "__setattr__" = some (some (.builtin "object.__setattr__")))
  (F7:findIn K (.ref C7) "world" = some none)
  (P7:K.lookup g7=some ⟨ocI7,odI7,.func (fnOf "__init__" "NoWeb.__init__" (yJ jS) (zG jS) (zZ jS) .none kVI7 dcI7 pmI7 anI7 cdI7 ctI7),slI7⟩)
  (Q7:codeIn K cdI7 "NoWeb.__init__" = true)
  (R7:keepIn K (.ref g7)=true)
  (T7:PySem.W.typeIn K (.ref g7)=some (.type "function"))
  (LT:K.lookup T0=some (excClassObj nmT qnT T0 NT bsT [.type "ValueError", .type "Exception", .type "BaseException", .type "object"] true snT subT abT colT ddT kaT kbT kcT kdT keT "ValueError.__new__"))
  (IT:findIn K (.ref T0) "__init__" = some (some (.builtin "ValueError.__init__")))
  (KT:keepIn K (.ref T0)=true)
  (xg:PySem.W.specialIn K (.builtin "object.__class__") "__get__" = some (some (.builtin "getset_descriptor.__get__")))
  (xt:PySem.W.takesIn K (.builtin "object.__class__")=some true)
  (D0:PySem.W.clsIn K C0=some cz0)
  (E0:PySem.W.typeIn K (.ref C0)=some (.type "type"))
  (D1:PySem.W.clsIn K C1=some cz1)
  (E1:PySem.W.typeIn K (.ref C1)=some (.type "type"))
  (D2:PySem.W.clsIn K C2=some cz2)
  (E2:PySem.W.typeIn K (.ref C2)=some (.type "type"))
  (D3:PySem.W.clsIn K C3=some cz3)
  (E3:PySem.W.typeIn K (.ref C3)=some (.type "type"))
  (D4:PySem.W.clsIn K C4=some cz4)
  (E4:PySem.W.typeIn K (.ref C4)=some (.type "type"))
  (D5:PySem.W.clsIn K C5=some cz5)
  (E5:PySem.W.typeIn K (.ref C5)=some (.type "type"))
  (D6:PySem.W.clsIn K C6=some cz6)
  (E6:PySem.W.typeIn K (.ref C6)=some (.type "type"))
  (D8:PySem.W.clsIn K C8=some cz8)
  (E8:PySem.W.typeIn K (.ref C8)=some (.type "type"))
  (D9:PySem.W.clsIn K C9=some cz9)
  (E9:PySem.W.typeIn K (.ref C9)=some (.type "type"))
  (hw1:∀ d∈[C0,C1,C2,C3,C4,C5,C6,C8,C9],d≠C7/\d≠T0) :
  ∃ fd:FuncData,(∀ (s:Shared) (u:Value),BindsTo s fd ⟨[u],[]⟩ [("_law_script", u)])/\∀ base:Heap,K.In base->base.Ns mainGlobals mg->FnOk l.prog w K mg base CX0 49 fa fd ["_law_script"] (uK K gN):=by
 have e:=hfa.symm.trans (mg_of X G a14);cases e;have y7:=Kc.mk' L7 G7 H7 J7 I7 K7
 have v1:PySem.W.kitAny K (.ref C7) [.ref C0,.ref C1,.ref C2,.ref C3,.ref C4]=some false:=by
  simp only [PySem.W.kitAny,y7.no D0 E0 (hw1 C0 (by simp)),y7.no D1 E1 (hw1 C1 (by simp)),y7.no D2 E2 (hw1 C2 (by simp)),y7.no D3 E3 (hw1 C3 (by simp)),y7.no D4 E4 (hw1 C4 (by simp))]
 have v2:PySem.W.kitAny K (.ref C7) [.ref C5,.ref C6,.ref C8,.ref C9]=some false:=by
  simp only [PySem.W.kitAny,y7.no D5 E5 (hw1 C5 (by simp)),y7.no D6 E6 (hw1 C6 (by simp)),y7.no D8 E8 (hw1 C8 (by simp)),y7.no D9 E9 (hw1 C9 (by simp))]
 have c:Cl K (cs C0 C1 C2 C3 C4 C5 C6 C7 C8 C9):=⟨⟨xg,xt⟩,y7.xc,by unfold PySem.W.kitOne;rw [if_pos (beq_self_eq_true _)],v1,v2,y7.val,y7.hd,F7,rfl,rfl⟩;have xT:XM K T0 (.builtin "ValueError.__init__"):=⟨⟨_,_,_,_,_,_,_,_,_,_,_,_,_,_,_,_,LT,by rw [Z2];simp,zbm T0 (by decide),zbm T0 (by decide),by rw [Z2];simp⟩,IT,KT⟩;have sb:fA K C7 T0:=⟨_,_,_,_,_,_,_,_,_,_,_,_,_,_,_,_,L7,by rw [Z2];simp⟩
 have T:Txt K mg (cs C0 C1 C2 C3 C4 C5 C6 C7 C8 C9) T0:={
  deal:=⟨f1,mg_of X G a1,HD.mk' l1 c1 k1⟩
  draw:=⟨f2,mg_of X G a2,HD.mk' l2 c2 k2⟩
  names:=⟨f3,mg_of X G a3,HD.mk' l3 c3 k3⟩
  web:=⟨f4,mg_of X G a4,HD.mk' l4 c4 k4⟩
  rise:=⟨f5,mg_of X G a5,HD.mk' l5 c5 k5⟩
  on:=⟨f6,mg_of X G a6,HD.mk' l6 c6 k6⟩
  gw:=⟨f7,mg_of X G a7,HD.mk' l7 c7 k7⟩
  chk:=⟨f8,mg_of X G a8,HD.mk' l8 c8 k8⟩
  sn:=⟨f9,mg_of X G a9,HD.mk' l9 c9 k9⟩
  sl:=⟨f10,mg_of X G a10,HD.mk' l10 c10 k10⟩
  spo:=⟨f11,mg_of X G a11,HD.mk' l11 c11 k11⟩
  fb:=⟨f12,mg_of X G a12,HD.mk' l12 c12 k12⟩
  ref:=⟨f13,mg_of X G a13,HD.mk' l13 c13 k13⟩
  max:=Zap X G z0
  len:=Zap X G z1
  all:=Zap X G z2
  list:=Zap X G z3
  isi:=Zap X G z4
  srt:=Zap X G z5
  tup:=Zap X G z6
  int:=Zap X G z7
  min:=Zap X G z8
  range:=Zap X G z9
  zip:=Zap X G z10
  rev:=Zap X G z11
  set:=Zap X G z12
  bool:=Zap X G z13
  val:=Zap X G z14
  cl:=c
  mgT:=mg_of X G aT
  tr:=⟨_,xT⟩
  sub:=sb
  x7:=⟨⟨g7,y7.xm,HD.mk' P7 Q7 R7,T7⟩,y7.xi S7 F7⟩
  m0:=mg_of X G A0
  m1:=mg_of X G A1
  m2:=mg_of X G A2
  m3:=mg_of X G A3
  m4:=mg_of X G A4
  m5:=mg_of X G A5
  m6:=mg_of X G A6
  m7:=mg_of X G A7
  m8:=mg_of X G A8
  m9:=mg_of X G A9 }
 obtain ⟨fd,hb,hF⟩:=ziX (P:=l.prog) (w:=w) T (HD.mk' l14 c14 k14);exact ⟨fd,hb,fun base _ _=>hF base⟩
end K67
namespace PySem.W.Fast
def tw6762866840600835186:=0
def tw15596563433553657705:=0
def tw3928591323321207946:=0
def tw16068943077294585785:=0
def tw7124368362990463684:=0
def tw9627797744429659087:=0
def tw9521363458452094669:=0
def tw3209625071798664808:=0
def tw9287239369682256660:=0
def tw15953217404082295353:=0
def tw17239028037690635023:=0
def tw1698955677158843036:=0
def tw9207959732939140233:=0
def tw3608054301208428911:=0
def tw163848747446662702:=0
def tw7677730645030312898:=0
def tw5467930637185344645:=0
def tw11326794305205274790:=0
def tw7020889647776109492:=0
def tw11623563793849420766:=0
def tw16916398674384865529:=0
def tw15332881923523676728:=0
def tw14554489634784461791:=0
def tw5883098355209644769:=0
def tw7046913434699574834:=0
def tw13305332945794812137:=0
def tw3479018736297590023:=0
def tw7086134203082156174:=0
def tw143050694622249502:=0
def tw11639790745595421464:=0
def tw2208830900667170516:=0
def tw13864255239949412997:=0
def tw6763371480217497379:=0
def tw14519472518734911943:=0
def tw13774989206972935845:=0
def tw4982248200797549624:=0
def tw17856853229070506816:=0
def tw1491577403596249811:=0
def tw5899183239929395401:=0
def tw17081989568987345717:=0
def tw1897267095148565802:=0
def tw8959847294750086625:=0
def tw8144129527649224282:=0
def tw5272335037358343540:=0
def tw11764586742937288252:=0
def tw14399979324714036445:=0
def tw10755096016204541355:=0
def tw1139580498209885526:=0
def tw1067101672832461504:=0
def tw16699149884097165351:=0
def tw17090765671231833814:=0
def tw5639119803614923647:=0
def tw1295424157569143610:=0
def tw1801377981624285626:=0
def tw979795860533618644:=0
def tw5317835341785400148:=0
def tw16557586241943492325:=0
def tw5122722483308938174:=0
def tw16424681045893285305:=0
def tw15926276809908062335:=0
def tw6322430610108492102:=0
def tw15948854679345324662:=0
def tw6510446090520906746:=0
def tw17714307998867388375:=0
def tw17884845556837325803:=0
def tw11916213077773169268:=0
def tw8137274088379797519:=0
def tw4204543317354666449:=0
def tw10845377919569758944:=0
def tw7046364705353196980:=0
def tw11885402962157446805:=0
def tw10092793894071946818:=0
def tw10079010558926643014:=0
def tw9772396320029733677:=0
def tw226154850358516242:=0
def tw2182804019180690870:=0
def tw16728837560111017532:=0
def tw6193357641852039061:=0
def tw16196829786215843447:=0
def tw7933592622661291968:=0
def tw745098131267296012:=0
def tw4771100255847223954:=0
def tw1610957536709666933:=0
def tw13810644121300666935:=0
def tw1309831726173547275:=0
def tw12461058716177920764:=0
def tw6285151038627591210:=0
def tw1420918556302486841:=0
def tw3063817631080454062:=0
def tw3456595511594835519:=0
def tw9958147249016847619:=0
def tw742465670267517145:=0
def tw12177371984034967610:=0
def tw10298893477009983250:=0
def tw9810586904128576289:=0
def tw15873601427778983153:=0
def tw14898480265937572569:=0
def tw10233893979019919156:=0
def tw1850916052328826047:=0
def tw1929651976637593290:=0
def tw8245459281135192466:=0
def tw16783236654271103452:=0
def tw14223149236723512841:=0
def tw2927960498397053685:=0
def tw15896280328252200529:=0
def tw10419142862489943988:=0
def tw4674035245061033172:=0
def tw3879981543389643426:=0
def tw8672435960939974584:=0
def tw4519915015339098087:=0
def tw9981936666092105481:=0
def tw16417663485183778596:=0
def tw7285824510260855248:=0
def tw10545850990793620404:=0
def tw3533569859247214826:=0
def tw6556373299921061465:=0
def tw5230680523387852031:=0
def tw14738670838533553941:=0
def tw2282837964860707667:=0
def tw1165142212737747445:=0
def tw17342406015963680543:=0
def tw3692179886858669696:=0
def tw9950336406198982272:=0
def tw3514270474404094328:=0
def tw4471129221452816638:=0
def tw16329998177839962758:=0
def tw6693484883635013368:=0
def tw6272601770234347260:=0
def tw4743731523250465091:=0
def tw4767475992824322601:=0
def tw8051475539678129600:=0
def tw16212520299247672428:=0
def tw2826498396652269863:=0
def tw15405491731154056015:=0
def tw1541583486504775561:=0
def tw10382884427816754132:=0
def tw1710654291354721967:=0
def tw6790962554357324666:=0
def tw7607278613810168190:=0
def tw17344583590092733339:=0
def tw16341026646275542150:=0
def tw16778728833266221306:=0
def tw13124385892094244931:=0
def tw7958472782761517481:=0
def tw13205001986043971453:=0
def tw8419205533895882518:=0
def tw9784816161076310806:=0
def tw6133068344099848560:=0
def tw10228098235209765126:=0
def tw10128198109961206988:=0
def tw12222131186663128351:=0
def tw9612510115396721329:=0
def tw11332141271643488492:=0
def tw1056966172595623926:=0
def tw8637537636778240526:=0
def tw10345176527093296566:=0
def tw16380558794454347937:=0
def tw492165963695748460:=0
def tw16448999882398439170:=0
def tw11003949662956842265:=0
def tw4213303798414956230:=0
def tw8990555718107606668:=0
def tw624819580603760660:=0
def tw5252968412835173915:=0
def tw5003521674042449063:=0
def tw3967390567237187110:=0
def tw3547000755451496321:=0
def tw1886228818452103990:=0
def tw17495596705219766016:=0
def tw16763906750145535309:=0
def tw14748928072783689595:=0
def tw14362222782164580481:=0
def tw7955123124431849034:=0
def tw3316290896491381221:=0
def tw13281143391364992435:=0
def tw4390582080698140969:=0
def tw11628102214428396061:=0
def tw5915067172189262272:=0
def tw17584236594404364925:=0
def tw10322829907250394243:=0
def tw9322045949042621112:=0
def tw10339100402267800937:=0
def tw16326766478840759283:=0
def tw2441287056295492071:=0
def tw12778483414075410570:=0
def tw10354609112751854381:=0
def tw1907598490826235135:=0
def tw15501415007455883563:=0
def tw15371298487832759720:=0
def tw18289387840145432711:=0
def tw9654116125066402080:=0
def tw9458508060020490024:=0
def tw5981034820532756753:=0
def tw5753387822444155514:=0
def tw5707537186750641277:=0
def tw3935051195641592291:=0
def tw17893747401940608972:=0
def tw1538750648382538916:=0
def tw14592806089113360999:=0
def tw13251474743575582703:=0
def tw12314532752892467028:=0
def tw8897636933738761961:=0
def tw8517098904163193460:=0
def tw7149514580558820569:=0
def tw6585553563806897632:=0
def tw6511425641505627519:=0
def tw5225321486763390115:=0
def tw3765251017408424778:=0
def tw2364942121515250702:=0
def tw17905525887684323617:=0
def tw15203087053149438990:=0
def tw14672675567585080196:=0
def tw959654349655005361:=0
def tw8872354011270062048:=0
def tw8135734100432926316:=0
def tw7140572416769891356:=0
def tw6891880723120084688:=0
def tw3355103709120730155:=0
def tw15080277640587002442:=0
def tw13543703643627168117:=0
def tw13513440023951727438:=0
def tw11867263985387521244:=0
def tw10785805699500775106:=0
def tw7199177144267599087:=0
def tw7191534193311646949:=0
def tw4013018481231051525:=0
def tw3716737069849912482:=0
def tw17046655171346495259:=0
def tw16651838357196217012:=0
def tw13483477551559484313:=0
def tw13000892555976263364:=0
def tw12863219382028022098:=0
def tw1034585406300600497:=0
def tw1018369763364959598:=0
def tw9800751737979577606:=0
def tw9754042510825430293:=0
def tw8683585587118351277:=0
def tw8510353773085410365:=0
def tw7890656226163822453:=0
def tw7721117039883103787:=0
def tw7576832967960940378:=0
def tw7110553526633743938:=0
def tw6997126819123349164:=0
def tw6835957806832864099:=0
def tw6578666202396735071:=0
def tw5625907121872428799:=0
def tw4233231975956010974:=0
def tw3673032180350636829:=0
def tw3441656925606395743:=0
def tw3402410710933847949:=0
def tw2995581989466392877:=0
def tw2930837662430129823:=0
def tw2695342609076104738:=0
def tw2510570479815624180:=0
def tw240404216321158864:=0
def tw2371568708428656419:=0
def tw2046009155077073110:=0
def tw1900865556483401698:=0
def tw1869734478419069237:=0
def tw18397878074147343173:=0
def tw17372865091820789071:=0
def tw16930885869390608051:=0
def tw16812594476366383373:=0
def tw16710832241173253594:=0
def tw16479784407742398765:=0
def tw16239516124190984365:=0
def tw15654876274059052025:=0
def tw15231062266945967385:=0
def tw14588759375280846827:=0
def tw14301496385765253415:=0
def tw14277991347828651140:=0
def tw13680508978832093560:=0
def tw13391311935107050810:=0
def tw13311050887504969772:=0
def tw12673998670355431468:=0
def tw12179927691767766970:=0
def tw1180683849375867706:=0
def tw11714982414159992412:=0
def tw11443873427465470953:=0
def tw11371754725253184183:=0
def tw11238815285786893803:=0
def tw10771140315209260637:=0
def tw10422557621381076346:=0
end PySem.W.Fast
open PySem PySem.W PyProof.Rows
set_option maxRecDepth 100000 in
set_option maxHeartbeats 0 in
theorem PySem.Challenge.cw_talkcourt_k67_webs_good_and_spoilt_holds : PySem.Challenge.rw_talkcourt_k67_webs_good_and_spoilt.Holds := by
 w_on;o_law;k_head;(case hw=>w_witness2)
 k_fill
 refine L3.walk3 (l:=PySem.Challenge.rw_talkcourt_k67_webs_good_and_spoilt) (k:=49) rfl rfl ⟨rfl,rfl,by decide,by decide⟩ (fun w h Y=>PySem.W.kIn_of Y) ?F
 case F =>
  intro w mg fa h KX G hmg;refine' K67.all_mk KX G hmg ?a1 ?l1 ?c1 ?k1 ?a2 ?l2 ?c2 ?k2 ?a3 ?l3 ?c3 ?k3 ?a4 ?l4 ?c4 ?k4 ?a5 ?l5 ?c5 ?k5 ?a6 ?l6 ?c6 ?k6 ?a7 ?l7 ?c7 ?k7 ?a8 ?l8 ?c8 ?k8 ?a9 ?l9 ?c9 ?k9 ?a10 ?l10 ?c10 ?k10 ?a11 ?l11 ?c11 ?k11 ?a12 ?l12 ?c12 ?k12 ?a13 ?l13 ?c13 ?k13 ?a14 ?l14 ?c14 ?k14 ?z0 ?z1 ?z2 ?z3 ?z4 ?z5 ?z6 ?z7 ?z8 ?z9 ?z10 ?z11 ?z12 ?z13 ?z14 ?A0 ?A1 ?A2 ?A3 ?A4 ?A5 ?A6 ?A7 ?A8 ?A9 ?aT ?L7 ?G7 ?H7 ?J7 ?I7 ?K7 ?S7 ?F7 ?P7 ?Q7 ?R7 ?T7 ?LT ?IT ?KT ?xg ?xt ?D0 ?E0 ?D1 ?E1 ?D2 ?E2 ?D3 ?E3 ?D4 ?E4 ?D5 ?E5 ?D6 ?E6 ?D8 ?E8 ?D9 ?E9 ?hw1
  case a1|l1|c1|k1|a2|l2|c2|k2|a3|l3|c3|k3|a4|l4|c4|k4|a5|l5|c5|k5|a6|l6|c6|k6|a7|l7|c7|k7|a8|l8|c8|k8|a9|l9|c9|k9|a10|l10|c10|k10|a11|l11|c11|k11|a12|l12|c12|k12|a13|l13|c13|k13|a14|l14|c14|k14|z0|z1|z2|z3|z4|z5|z6|z7|z8|z9|z10|z11|z12|z13|z14|A0|A1|A2|A3|A4|A5|A6|A7|A8|A9|aT|L7|G7|H7|J7|I7|K7|S7|F7|P7|Q7|R7|T7|LT|IT|KT|xg|xt|D0|E0|D1|E1|D2|E2|D3|E3|D4|E4|D5|E5|D6|E6|D8|E8|D9|E9=>k_is
  case hw1=>first|k_is|decide|rfl
