import PyProof.Rows.All
import Wide.All
import OpenK.AllK
import Wide.FinOn
import Lean
import PyProof.EqAt
import PyProof.EqKinds
import PyProof.TupleCall
import PySem.Challenge.RW_talkcourt_k70_webs_written_and_read
set_option Elab.async false
set_option linter.all false
set_option maxRecDepth 100000
set_option maxHeartbeats 8000000
theorem zzN:¬ (false=true):=Bool.false_ne_true
theorem zzB:(false=true)=False:=Bool.false_eq_true
theorem zzC {α:Type _} {a:α} {l:List α}:(a::l).length=l.length+1:=rfl
theorem zzL {α:Type _}:([]:List α).length=0:=rfl
theorem zzA (n:Nat):0+n=n:=Nat.zero_add n
theorem zzM {α β:Type _} {l:List α} {f:α->β}:(l.map f).length=l.length:=List.length_map f
theorem zzP {α β:Type _} {b:β} {l:List α} {f:α->β} (h:b∈l.map f):∃ a,a∈l/\f a=b:=List.mem_map.mp h
theorem zzS {α:Type _} {l:List α}:l.toArray.size=l.length:=List.size_toArray
theorem zzR (n:Nat):n<=n:=Nat.le_refl n
theorem zzO {α:Type _} {a b:α} (h:a∈[b]):a=b:=List.mem_singleton.mp h
theorem zzT {α:Type _} {a:α} {l:List α}:a∈a::l:=List.mem_cons_self
theorem zzU {α β:Type _} {a:α} {l:List α} {f:α->β}:(a::l).map f=f a::l.map f:=rfl
theorem zzV {α β:Type _} {f:α->β}:([]:List α).map f=[]:=rfl
theorem zzW {α:Type _} {l l':List α}:(l++l').length=l.length+l'.length:=List.length_append
open PySem renaming wpAny_bind→Za, wpAny_pure→Zc, sizeLine_eq→Zt, wpAny_field→ZF, wpAny_call_entry→ZM, wpAny_newObj_type→ZN, wpAny_Call_Name_kw→ZP, wpAny_callSpecial?_slot→ZQ, wpAny_holding→ZR, builtinLookup_eq_fast→ZW, wpAny_loadPart_at→Z1, wpAny_mono→Z2, wpAny_truthy_bool→Z3, wpAny_isSubtype_exc→Zah, typeLookup_type→Zaj, wpAny_specialOf→Zak, wpAny_setField_rec→Zam, call_meets→Zav, wpAny_setField→ZaD, wpAny_loadPart'→ZaM, wpAny_passesOwn→ZaN, mem_of_lookup→ZaR, plainId_quiet→ZaS, strLen_append→ZaT, wpAny_attempt→ZaU, wpAny_getItem_str_slice→ZaV, wpAny_updateSeq→Za3, isSubtype_type→Za8, wpAny_binaryOp_repeat_ref→Za9, wpAny_isInstance→Zbc, wpAny_of_eq→Zbe, wpAny_comprehension_free→Zbg, wpAny_typeOf→Zbh, codeAny_builtin→Zbm, tupleKind_room_in1→Zbn, wpAny_pyIter_list→Zbs, wpAny_sequenceKey→Zbt, codeAny_mono→Zbw, wpAny_standAt→ZbE, typeIs_int→ZbF, wpAny_rule→ZbG, length_partsBetween→ZbL, post_val_or_str→ZbM, pushCells_keeps→ZbN, wpAny_execs_nil→ZbO, typeIs_str→Zb6, noFill_tuple_add→Zch, codeAny_of_tree→Zct, wpAny_call→Zcu, callType_codes→Zcw, evalPart_none→ZcA, seq_tuple_add→ZcB, wpAny_load→ZcE
open PySem.Heap renaming get?_push_of_some→Zb, lt_size→Zd, get?_push_size→Zg, get?_update_other→Zq, get?_update_self→ZD, size_push→Zaa
open Nat renaming lt_of_lt_of_le→Ze, ne_of_lt→Zj, le_trans→Zn, succ_pos→ZI, ne_of_gt→Z8, zero_add→Z9, lt_irrefl→Zai, zero_le→Zan, lt_succ_of_lt→ZaK, le_of_lt→ZaO, le_of_not_lt→Zba, mul_le_mul→ZbX, lt_succ_self→Zcf, min_le_right→Zcg, min_eq_left→Zcp, not_lt_zero→Zcq, le_succ→Zcx
open List renaming length_cons→Zf, getElem?_eq_some_iff→Zi, mem_cons_of_mem→Zk, getElem?_eq_getElem→Zl, getElem?_map→Zm, length_nil→Zo, mem_cons→Zp, mem_of_getElem?→Zr, mem_append_right→Zv, append_nil→Zw, all_eq_true→ZC, mem_append→ZE, mem_singleton→ZG, mem_range→ZH, getElem_mem→ZJ, lookup_cons→ZK, not_mem_nil→ZL, map_map→ZO, take_succ_eq_append_getElem→ZS, mem_append_left→ZT, contains_iff_mem→ZV, getElem?_cons_zero→ZY, find?_cons→ZZ, length_drop→Z0, length_take→Z5, length_reverse→Z7, getElem?_cons_succ→Zab, getElem?_append_right→Zac, take_of_length_le→Zad, map_congr_left→Zaf, replicate_succ→Zag, set_cons_zero→Zal, getElem?_set_ne→Zao, reverse_cons→Zaq, filterMap_cons→Zas, getElem?_set_self→Zat, cons_append→Zau, all_cons→Zax, any_cons→Zay, filterMap_append→Zaz, getElem?_append_left→ZaB, mem_of_mem_drop→ZaF, flatten_cons→ZaH, length_filterMap_le→ZaI, map_append→ZaJ, set_cons_succ→ZaX, getElem?_eq_none→Za0, nil_append→Za1, nodup_cons→Za2, getElem?_replicate→Zbi, getElem_range→Zbj, zip_cons_cons→Zbk, find?_cons_of_neg→Zbo, append_assoc→Zbq, length_range→Zbr, getElem?_reverse→Zbu, length_replicate→Zbv, filter_cons→Zbz, take_length→ZbA, length_dropLast→ZbB, mem_of_mem_take→ZbC, length_set→ZbI, count_pos_iff→ZbR, filterMap_map→ZbS, mem_filterMap→ZbT, mem_map→ZbU, all_eq_false→Zb4, any_eq_true→Zcc, isEmpty_map→Zcd, mem_reverse→Zce, any_map→Zcm, mem_filter→Zcn, of_mem_zip→Zco, drop_zero→Zcv
open Bool renaming and_eq_true→Zh, not_true→Zu, not_false→ZA, and_false→Z4, false_and→Z6, not_eq_true'→ZaG, true_and→ZaP, not_eq_true→Zbx, eq_false_iff→Zb0, eq_iff_iff→Zci, and_self→Zcy, false_or→Zcz
open Option renaming map_eq_some_iff→Zs, isSome_iff_exists→ZaL, join_some→Zbb, isSome_map→Zb5
open Option.some renaming inj→Zx
open PyProof.Rows renaming slot_tuple_getitem→Zy, callWith_type1→ZU, entry_tuple_getitem→ZbK, args_tuple_getitem→ZbW, slicePart_none→ZbZ, tail_any→ZcC, tupleItemsOf_→ZcD
open PySem.Str renaming length_append→Zz, cps_append→ZaW
open Array renaming length_toList→ZB, getElem?_eq_some_iff→ZX, toList_append→Zae, getElem?_toList→ZaY, getElem?_eq_getElem→Za7
open PySem.List renaming filterMap_getElem?_range_length→Zap
open PySem.W renaming mg_none_of→Zar, callWith_K0→ZbJ, callWith_K→ZbV, kia_one→Zcs
open PySem.F renaming slot_enumerate_next→Zaw, slot_dict_getitem→ZaC, plainAttrs_list→ZaQ, slot_int_rmul→ZaZ, slot_dict_contains→Za5, plain_extend_loop→Zbd, args_tuple_add_2→Zbf, entry_tuple_add→Zbl, slot_tuple_add→Zbp, slot_tuple_mul→Zby, called_tuple→ZbD, args_str_split_2→ZbQ, args_int_rmul_2→Zb2, entry_str_split→Zb3, entry_int_rmul→Zb9, slot_int_index→Zca, slot_str_split→Zcb, fills_int_mul→Zcj
open PySem.StrLaws renaming glued_eq_join→ZaA, lt_cons_cons→Za6
open PySem.Around renaming under_plainId→ZaE
open Int renaming toNat_natCast→Za4, ediv_one→Zck
open PySem.Heap.SameBut renaming update→ZbH
open PySem.Calls renaming spliced_cons→ZbP, spliced_nil→Zb1
open PySem.Value.type renaming inj→ZbY
open PySem.Paired renaming length→Zb7
open PySem.Value.ref renaming inj→Zb8
open PyProof.Rows.IsTup renaming new→Zcl
open PySem.PassesOwn renaming never→Zcr
noncomputable section
set_option hygiene false
local macro_rules|`('a')=>`((model X.prog X.w))
local macro_rules|`(tactic|erw[$[$t:term],*])=>`(tactic|((try dsimp only [zQ,zS,zP,zH,zD,zA,yZ,zM,zU,zL,zT,zZ,zR,zO,zN,zK,zB,zJ,gZ,gS,tZ,tS]);try simp only [$[$t:term],*]))
namespace L2
open PySem
theorem zax {M:Model} {Γ:Ctx} {p:Pos} {t:Sem Fin} {fs:List Frame} {s s':Shared} {e:End} (h:Runs M Γ p t fs s e s'):s.toks<=s'.toks:=by
 induction h<;>(try simp only[Shared.setGen] at *)<;>omega
theorem zea {M:Model} {Γ:Ctx} {p:Pos} {g:Nat} {r:Resume} {s s':Shared} {res:GenResult} (h:Wakes M Γ p g r s res s'):s.toks<=s'.toks:=by
 unfold Wakes at h
 split at h
 .exact h.elim
 .split at h
  .obtain ⟨e,s1,h,_,_,rfl⟩:=h;have:=zax h;exact this
  .rw[h.2];exact zzR _
  .rw[h.2];exact zzR _
 .obtain ⟨e,s1,h,_,_,rfl⟩:=h;have:=zax h;exact this
 .rw[h.2];exact zzR _
 .rw[h.2];exact zzR _
theorem wp_up {α:Type} {M:Model} {Γ:Ctx} {n:Nat}:∀ (t:Sem α) (Q:α->Pos->Shared->Prop) (E:Value->Pos->Shared->Prop) (p:Pos) (s:Shared),n<=s.toks ->
  Sem.wp M Γ t (fun a p' s'=>n<=s'.toks->Q a p' s') (fun e p' s'=>n<=s'.toks->E e p' s') p s->Sem.wp M Γ t Q E p s:=by
 intro t
 induction t with
 |pure a=>intro Q E p s h z;rw[Sem.wp] at z ⊢;exact z h
 |raise e=>intro Q E p s h z;rw[Sem.wp] at z ⊢;exact z h
 |unsupported _=>intro Q E p s h z;rw[Sem.wp] at z;exact z.elim
 |finish _=>intro Q E p s h z;rw[Sem.wp] at z;exact z.elim
 |register _ _ _=>intro Q E p s h z;rw[Sem.wp] at z;exact z.elim
 | «yield» _ _ _ _ _=>intro Q E p s h z;rw[Sem.wp] at z;exact z.elim
 |load a part k ih=>intro Q E p s h z;rw[Sem.wp] at z ⊢;obtain ⟨o,e,z⟩:=z;exact ⟨o,e,ih o Q E p s h z⟩
 |update a part f k ih=>intro Q E p s h z;rw[Sem.wp] at z ⊢;exact ⟨z.1,ih () Q E p _ h z.2⟩
 |fresh k ih=>intro Q E p s h z;rw[Sem.wp] at z ⊢;exact ih _ Q E p _ (Nat.le_succ_of_le h) z
 |choose src m k ih=>intro Q E p s h z;rw[Sem.wp] at z ⊢;exact ⟨z.1,ih _ Q E p _ h z.2⟩
 |genState g k ih=>intro Q E p s h z;rw[Sem.wp] at z ⊢;obtain ⟨st,e,z⟩:=z;exact ⟨st,e,ih _ Q E p s h z⟩
 |resume g r l k ih=>intro Q E p s h z;rw[Sem.wp] at z ⊢;obtain ⟨res,s',w,z⟩:=z;exact ⟨res,s',w,ih _ Q E p s' (Zn h (zea w)) z⟩
 |call c hd g l k ih=>intro Q E p s h z;rw[Sem.wp] at z ⊢;obtain ⟨r,s',w,z⟩:=z;exact ⟨r,s',w,ih _ Q E p s' (Zn h (zax w)) z⟩
 |_=>first|(intro Q E p s h z;rw[Sem.wp] at z;exact z.elim)|(rename_i ih;intro Q E p s h z;rw[Sem.wp] at z ⊢;exact ih _ Q E _ _ h z)
theorem wE {α:Type} {M:Model} {A:Around} {t:Sem α} {Q:α->Shared->Prop} {E:Value->Shared->Prop} {s:Shared} (h:0<s.toks) (w:wpAny M A t (fun a s'=>0<s'.toks->Q a s') E s):wpAny M A t Q E s:=fun Γ p hΓ =>
 wp_up (n:=1) t _ _ p s h (Sem.wp_mono M Γ t (post':=fun a _ s'=>1<=s'.toks->Q a s') (exc':=fun e _ s'=>1<=s'.toks->E e s') (fun _ _ _ z=>z) (fun _ _ _ z _=>z) p s (w Γ p hΓ))
theorem zbR {M:Model} {A:Around} {E:Value->Shared->Prop} {s:Shared} {scope:Scope} {gl:Addr} {x:Str} {u:Value} {qual:Str} {fn:Option Addr} {code:Value} {bl:Addr} {Q:Env->Shared->Prop}
  (hk:scope.kind=.function) (hx:scope.names.lookup x=some .local)
  (hQ:∀ env,env=newEnv scope s.heap.objs.size gl (cellsFrom (s.heap.objs.size+1) scope.names []) qual fn code none bl ->
   ∀ s',InCallC s env.locals (bindL env.kindOf [(x,u)] fun _=>none) env.cells (bindC env.kindOf [(x,u)] fun _=>none) s'->0<s'.toks->Q env s') :
  wpAny M A (newFunctionEnv scope gl [] [(x,u)] qual fn code none bl) Q E s:=by
 simp only[newFunctionEnv,Option.isSome_none,zzB,if_false];refine Za (wpAny_alloc (Za (wpAny_layCells _ (fun name kind cells=>by cases h:kind==NameKind.cell<;>simp[h]) _ _ _ _ ?_)));have ok:=cellsFrom_ok scope.names (s.heap.push { cls:=.type "frame", data:=.dict #[] }) (s.heap.objs.size+1) [] ⟨fun _ _ z=>(nomatch z),List.Pairwise.nil⟩ (by rw[Zaa];exact zzR _);rw[Zaa] at ok;rw[show ({ s with heap:=s.heap.push { cls:=.type "frame", data:=.dict #[] } }:Shared).heap.objs.size=s.heap.objs.size+1 from Zaa ..];have ns:=(Heap.Ns.new s.heap (.type "frame")).keeps (ZbN scope.names (s.heap.push { cls:=.type "frame", data:=.dict #[] }));rw[List.forIn_cons];refine Za (Za (Za (wpAny_storeName_local (env:=newEnv scope s.heap.objs.size gl (cellsFrom (s.heap.objs.size+1) scope.names []) qual fn code none bl) hx ns (fun h' hn' hs'=>Zc ?_) (by show (scope.kind==ScopeKind.class || (scope.kind==ScopeKind.module&&(s.heap.objs.size != gl)))=false;rw[hk];rfl))));show wpAny M A (forIn [] _ _) _ _ _;rw[List.forIn_nil];refine Zc (Zc (hQ _ rfl _ ⟨⟨⟨h',_,rfl⟩,?_,fun b o e=>?_,zzR _⟩,fun n c hc=>?_,ok.apart,fun n c hm=>(ok.empty n c hm).2⟩ (ZI _)))
 .have e:(newEnv scope s.heap.objs.size gl (cellsFrom (s.heap.objs.size+1) scope.names []) qual fn code none bl).kindOf x=some .local:=hx;unfold bindL bindL;rw[if_pos e];exact hn'
 .exact (hs'.2 b (Zj (Zd e))).trans (ZbN _ _ b o (Zb _ e))
 .have e:(newEnv scope s.heap.objs.size gl (cellsFrom (s.heap.objs.size+1) scope.names []) qual fn code none bl).kindOf x=some .local:=hx;unfold bindC bindC;rw[if_pos e];have q:=ok.empty n c (mem_of_lookup hc);exact q.1.sameBut hs' (Z8 q.2)
theorem zbQ {M:Model} {A:Around} {E:Value->Shared->Prop} {s:Shared} {scope:Scope} {gl:Addr} {ps:List Str} {us:List Value} {qual:Str} {fn:Option Addr} {code:Value} {bl:Addr} {Q:Env->Shared->Prop}
  (hk:scope.kind=.function) (hkind:∀ x∈ps.zip us,scope.names.lookup x.1=some .local\/(scope.names.lookup x.1=some .cell/\((cellsFrom (s.heap.objs.size+1) scope.names []).lookup x.1).isSome=true))
  (hl:us.length=ps.length) (hp:0<s.toks\/∃ x,ps=[x]/\scope.names.lookup x=some .local)
  (hQ:∀ env,env=newEnv scope s.heap.objs.size gl (cellsFrom (s.heap.objs.size+1) scope.names []) qual fn code none bl ->
   ∀ s',InCallC s env.locals (bindL env.kindOf (ps.zip us) fun _=>none) env.cells (bindC env.kindOf (ps.zip us) fun _=>none) s'->0<s'.toks->Q env s') :
  wpAny M A (newFunctionEnv scope gl [] (ps.zip us) qual fn code none bl) Q E s:=by
 rcases hp with hp|⟨x,rfl,hx⟩
 .exact wE hp (wpAny_newFunctionEnv_cells hk hkind hQ)
 .cases us with
  |nil=>cases hl
  |cons u r =>
   cases r with
   |nil=>exact zbR hk hx hQ
   |cons _ _=>cases hl
end L2
namespace L2
open PySem PySem.Spec PyProof.Rows
abbrev yM:=Sum Int Str
def pF:yM->Value->Bool
 | .inl k,v=>Value.isInt k v
 | .inr x,v=>Value.isStrOf x v
def keyH (w:World):yM->Int
 | .inl k=>hashInt k
 | .inr x=>hashStr w x
theorem yC:∀ {k:yM} {v:Value},pF k v=true->(∃ i t,k=Sum.inl i/\v=Value.int i t)\/(∃ x t,k=Sum.inr x/\v=Value.str x t)
 | .inl i,v,h=>by
  obtain ⟨t,e⟩:=Value.isInt_shape (k:=i) (v:=v) h;exact .inl ⟨i,t,rfl,e⟩
 | .inr x,v,h=>by
  obtain ⟨t,e⟩:=Value.isStrOf_shape (x:=x) (v:=v) h;exact .inr ⟨x,t,rfl,e⟩
theorem zdd (i:Int) (t:Tok):pF (.inl i) (.int i t)=true:=by simp[pF,Value.isInt]
theorem zdb (x:Str) (t:Tok):pF (.inr x) (.str x t)=true:=by simp[pF,Value.isStrOf]
theorem zj0 (a b:Int):decide ((Sum.inl a:yM)=Sum.inl b)=(a==b):=by
 by_cases e:a=b
 .subst e;simp
 .have h:¬ (Sum.inl a:yM)=Sum.inl b:=fun q=>e (Sum.inl.inj q);rw[decide_eq_false h];exact (beq_eq_false_iff_ne.mpr e).symm
theorem zjX (a b:Str):decide ((Sum.inr a:yM)=Sum.inr b)=decide (a=b):=by
 by_cases e:a=b
 .subst e;simp
 .have h:¬ (Sum.inr a:yM)=Sum.inr b:=fun q=>e (Sum.inr.inj q);rw[decide_eq_false h,decide_eq_false e]
theorem zjZ (a:Int) (b:Str):decide ((Sum.inl a:yM)=Sum.inr b)=false:=decide_eq_false (fun q=>nomatch q)
theorem zjY (a:Str) (b:Int):decide ((Sum.inr a:yM)=Sum.inl b)=false:=decide_eq_false (fun q=>nomatch q)
def xN (prog:Program) (w:World):PySem.KeyKind prog w yM where
 is:=pF
 hash:=keyH w
 inj:=fun v a b ha hb=>by
  rcases yC ha with ⟨i,t,rfl,rfl⟩|⟨x,t,rfl,rfl⟩
  .rcases yC hb with ⟨j,u,rfl,e⟩|⟨y,u,rfl,e⟩
   .injection e with e1 _;rw[e1]
   .exact nomatch e
  .rcases yC hb with ⟨j,u,rfl,e⟩|⟨y,u,rfl,e⟩
   .exact nomatch e
   .injection e with e1 _;rw[e1]
 byValue:=fun k v h=>by
  rcases yC h with ⟨i,t,rfl,rfl⟩|⟨x,t,rfl,rfl⟩<;>rfl
 pyHash:=fun hv h=>by
  rcases yC hv with ⟨i,t,rfl,rfl⟩|⟨x,t,rfl,rfl⟩
  .exact wpAny_pyHash_int h
  .exact wpAny_pyHash_str h
 eqBool:=fun hu hv h=>by
  rcases yC hu with ⟨i,t,rfl,rfl⟩|⟨x,t,rfl,rfl⟩
  .rcases yC hv with ⟨j,u,rfl,rfl⟩|⟨y,u,rfl,rfl⟩
   .rw[zj0] at h;exact wpAny_eqBool_int h
   .rw[zjZ] at h;exact SeqAt.EqAt.int_str i t y u _ _ _ _ h
  .rcases yC hv with ⟨j,u,rfl,rfl⟩|⟨y,u,rfl,rfl⟩
   .rw[zjY] at h;exact SeqAt.EqAt.str_int x t j u _ _ _ _ h
   .rw[zjX] at h;exact wpAny_eqBool_str h
 «strs»:=fun k x t v h=>by
  rcases yC h with ⟨i,u,rfl,e⟩|⟨y,u,rfl,e⟩
  .exact nomatch e
  .injection e with e1 _
   subst e1;cases v<;>rfl
theorem zaC (prog:Program) (w:World) (i:Int) (t:Tok):(xN prog w).is (.inl i) (.int i t)=true:=zdd i t
theorem zaB (prog:Program) (w:World) (x:Str) (t:Tok):(xN prog w).is (.inr x) (.str x t)=true:=zdb x t
end L2
namespace L2
open PySem PySem.Spec PyProof.Rows
inductive V where
 |non|bl (b:Bool)|int (i:Int)|str (x:Str)|byt (b:Array UInt8)|flt (b:UInt64)|ref (a:Addr)|ty (n:String)
 deriving DecidableEq
def yY:V->Value->Prop
 | .non,u=>u=Value.none
 | .bl b,u=>u=Value.bool b
 | .int i,u=>∃ t,u=Value.int i t
 | .str x,u=>∃ t,u=Value.str x t
 | .byt b,u=>∃ t,u=Value.bytes b t
 | .flt b,u=>∃ t,u=Value.float b t
 | .ref a,u=>u=Value.ref a
 | .ty n,u=>u=Value.type n
abbrev zF:List V->List Value->Prop:=Paired yY
theorem zF.length {xs:List V} {us:List Value} (r:zF xs us):xs.length=us.length:=Zb7 r
theorem zF.get:∀ {xs:List V} {us:List Value} {i:Nat} {x:V},zF xs us->xs[i]?=some x->∃ u,us[i]?=some u/\yY x u
 |_,_,_,_,.nil,e=>by simp at e
 |_,_,0,_,.cons r _,e=>by simp at e;subst e;exact ⟨_,rfl,r⟩
 |_,_,i+1,x,.cons _ t,e=>by
  obtain ⟨u,h1,h2⟩:=zF.get (i:=i) (x:=x) t (by simpa using e);exact ⟨u,by simpa using h1,h2⟩
theorem zF.set {x:V} {u:Value} (r:yY x u):∀ {xs:List V} {us:List Value} (i:Nat),zF xs us->zF (xs.set i x) (us.set i u)
 |_,_,_,.nil=>.nil
 |_,_,0,.cons _ t=>.cons r t
 |_,_,i+1,.cons q t=>.cons q (zF.set r i t)
theorem zF.append:∀ {xs ys:List V} {us ws:List Value},zF xs us->zF ys ws->zF (xs++ys) (us++ws)
 |_,_,_,_,.nil,s=>s
 |_,_,_,_,.cons r t,s=>.cons r (zF.append t s)
theorem zF.take:∀ {xs:List V} {us:List Value} (n:Nat),zF xs us->zF (xs.take n) (us.take n)
 |_,_,0,_=>.nil
 |_,_,_+1,.nil=>.nil
 |_,_,n+1,.cons r t=>.cons r (zF.take n t)
theorem zF.drop:∀ {xs:List V} {us:List Value} (n:Nat),zF xs us->zF (xs.drop n) (us.drop n)
 |_,_,0,r=>r
 |_,_,_+1,.nil=>.nil
 |_,_,n+1,.cons _ t=>zF.drop n t
def dN:Option V->Option Value->Prop
 |some v,some u=>yY v u
 |none,none=>True
 |_,_=>False
def KV {κ:Type}:List (κ×V)->List (κ×Value)->Prop:=Paired fun (p:κ×V) (q:κ×Value)=>p.1=q.1/\yY p.2 q.2
def kV:yM->V
 | .inl i=>.int i
 | .inr x=>.str x
inductive HO where
  |lst (xs:List V)
  |tup (xs:List V)
  |dK (kvs:List (yM×V))|dT (kvs:List (List yM×V))
  |set (S:Int->Bool) (n:Nat)
  |ins (C dx:Addr) (fs:List (Str×V))
  |own (x:Addr)
  |xd (fs:List (Str×V))
  |met (f x:Addr)
  |rng (lo hi:Int)
  |frz (o:Obj) (u:HO)
  |tbl (ps:Array Value)
  |ext (φ:Heap->Prop)
abbrev Hp:=Addr->Option HO
def xP (H:Hp) (a:Addr) (o:HO):Hp:=fun b=>if b=a then some o else H b
theorem yD {H:Hp} {a:Addr} {o:HO}:xP H a o a=some o:=by unfold xP;rw[if_pos rfl]
theorem zE {H:Hp} {a b:Addr} {o:HO} (h:b≠a):xP H a o b=H b:=by unfold xP;rw[if_neg h]
theorem zgB {H:Hp} {a:Addr} {o u:HO}:xP (xP H a o) a u=xP H a u:=by
 funext b;unfold xP;split<;>rfl
theorem ne_of {H:Hp} {a b:Addr} {o u:HO} (h:H a=some o) (h':H b=some u) (d:o≠u):a≠b:=by
 intro e;subst e;rw[h] at h';exact d (Zx h')
theorem yK {H:Hp} {a b:Addr} {o:HO} (h:H a=some o) (h':H b=none):a≠b:=by
 intro e;subst e;rw[h] at h';cases h'
section
variable (P:Program) (w:World)
def xM (H:Hp) (h:Heap) (a:Addr):HO->Prop
 | .lst xs=>xs.length<=sizeLine/\∃ (its:List Value) (n:Nat),zF xs its/\h.get? a=some { cls:=.type "list", data:=.seq its.toArray n }
 | .tup xs=>xs.length<=sizeLine/\∃ its:List Value,zF xs its/\IsTup h a its.toArray
 | .dK kvs=>kvs.length<=sizeLine/\(a==sysModules)=false/\∃ vs,KV kvs vs/\h.DictOf (xN P w) a vs
 | .dT kvs=>kvs.length<=sizeLine/\(a==sysModules)=false/\∃ xs:List (List yM×Addr×Value),
   Paired (fun (p:List yM×V) (q:List yM×Addr×Value)=>p.1=q.1/\H q.2.1=some (.tup (p.1.map kV))/\yY p.2 q.2.2) kvs xs /\
   ∃ o es ep,h.get? a=some o/\o.ExactDict/\o.data=.dict es ep/\es.toList=xs.map (entryOfKey (tupleKind (xN P w)))/\(xs.map (·.1)).Nodup
 | .set S n=>h.SetOf (intKind P w) a S n
 | .ins C dx fs=>H dx=some (.own a)/\fs.length<=1000/\dx≠a/\h.get? a=some (PySem.W.instObj C dx) /\
   ∃ mA,h.Ns1 dx mA/\(∀ f,dN (fs.lookup f) (mA f))/\PySem.Within mA (fs.map (·.1))
 | .own _=>∃ o,h.get? a=some o
 | .xd fs=>∃ mA,h.Ns1 a mA/\∀ f,dN (fs.lookup f) (mA f)
 | .rng lo hi=>∃ t u v,h.get? a=some { cls:=.type "range", data:=.fields #[.int lo t,.int hi u,.int 1 v] }
 | .frz o u=>h.get? a=some o/\xM H h a u
 | .tbl ps=>h.get? a=some { cls:=.none,data:=.fields ps }
 | .met f x=>h.get? a=some (PySem.W.methodObj (.ref f) (.ref x))
 | .ext φ=>φ h/\(∃ o,h.get? a=some o)/\∀ h1 h2:Heap,φ h1->(∀ o,h1.get? a=some o->h2.get? a=some o)->φ h2
def uK (H:Hp) (h:Heap):Prop:=∀ a o,H a=some o->xM P w H h a o
end
section
variable {P:Program} {w:World} {H H':Hp} {h h':Heap} {a:Addr} {o:HO}
theorem xM.lt (x:xM P w H h a o):a<h.objs.size:=by
 cases o with
 |lst xs=>obtain ⟨_,_,_,_,e⟩:=x;exact Zd e
 |tup xs=>obtain ⟨_,_,_,p⟩:=x;exact p.lt
 |dK kvs=>obtain ⟨_,_,_,_,o,_,_,e,_⟩:=x;exact Zd e
 |dT kvs=>obtain ⟨_,_,_,_,o,_,_,e,_⟩:=x;exact Zd e
 |set S n=>obtain ⟨o,_,_,_,e,_⟩:=x;exact Zd e
 |ins C dx fs=>obtain ⟨_,_,_,e,_⟩:=x;exact Zd e
 |own y=>obtain ⟨_,e⟩:=x;exact Zd e
 |xd fs=>obtain ⟨_,⟨_,_,_,e,_⟩,_⟩:=x;exact Zd e
 |rng lo hi=>obtain ⟨_,_,_,e⟩:=x;exact Zd e
 |frz ob u=>obtain ⟨e,_⟩:=x;exact Zd e
 |tbl ps=>exact Zd (show h.get? a=some _ from x)
 |met f y=>exact Zd (show h.get? a=some _ from x)
 |ext φ=>obtain ⟨_,⟨_,e⟩,_⟩:=x;exact Zd e
theorem Paired.mapP {α β:Type} {F G:α->β->Prop}:∀ {l₁:List α} {l₂:List β},Paired F l₁ l₂->(∀ a b,F a b->G a b)->Paired G l₁ l₂
 |_,_,.nil,_=>.nil
 |_,_,.cons r t,f=>.cons (f _ _ r) (Paired.mapP t f)
theorem xM.stay (x:xM P w H h a o) (k:∀ b u,(b=a\/H b=some (.own a))->h.get? b=some u->h'.get? b=some u)
  (ho:∀ b,H b=some (.own a)->H' b=some (.own a)) (ht:∀ b xs,H b=some (.tup xs)->H' b=some (.tup xs)):xM P w H' h' a o:=by
 induction o with
 |lst xs=>obtain ⟨z,its,n,r,e⟩:=x;exact ⟨z,its,n,r,k _ _ (.inl rfl) e⟩
 |tup xs=>obtain ⟨z,its,r,ob,e,c⟩:=x;exact ⟨z,its,r,ob,k _ _ (.inl rfl) e,c⟩
 |dK kvs=>obtain ⟨z,y,vs,r,ob,es,ep,e,c⟩:=x;exact ⟨z,y,vs,r,ob,es,ep,k _ _ (.inl rfl) e,c⟩
 |dT kvs =>
  obtain ⟨z,y,xs,r,ob,es,ep,e,c⟩:=x;exact ⟨z,y,xs,Paired.mapP r fun p q z=>⟨z.1,ht _ _ z.2.1,z.2.2⟩,ob,es,ep,k _ _ (.inl rfl) e,c⟩
 |set S n=>obtain ⟨ob,es,ep,t,e,c⟩:=x;exact ⟨ob,es,ep,t,k _ _ (.inl rfl) e,c⟩
 |ins C dx fs =>
  obtain ⟨d,z,ne,e,mA,⟨od,es,ep,e2,c⟩,r⟩:=x;exact ⟨ho _ d,z,ne,k _ _ (.inl rfl) e,mA,⟨od,es,ep,k _ _ (.inr d) e2,c⟩,r⟩
 |own y=>obtain ⟨ob,e⟩:=x;exact ⟨ob,k _ _ (.inl rfl) e⟩
 |xd fs=>obtain ⟨mA,⟨od,es,ep,e,c⟩,r⟩:=x;exact ⟨mA,⟨od,es,ep,k _ _ (.inl rfl) e,c⟩,r⟩
 |rng lo hi=>obtain ⟨t,u,v,e⟩:=x;exact ⟨t,u,v,k _ _ (.inl rfl) e⟩
 |frz ob u ih=>obtain ⟨e,q⟩:=x;exact ⟨k _ _ (.inl rfl) e,ih q⟩
 |tbl ps =>
  have e:h.get? a=some { cls:=.none,data:=.fields ps }:=x;show h'.get? a=some { cls:=.none,data:=.fields ps };exact k a _ (.inl rfl) e
 |met f y =>
  have e:h.get? a=some (PySem.W.methodObj (.ref f) (.ref y)):=x;show h'.get? a=some (PySem.W.methodObj (.ref f) (.ref y));exact k a _ (.inl rfl) e
 |ext φ=>obtain ⟨p,⟨o,e⟩,st⟩:=x;exact ⟨st _ _ p fun o q=>k _ _ (.inl rfl) q,⟨o,k _ _ (.inl rfl) e⟩,st⟩
theorem uK.lt (x:uK P w H h) (e:H a=some o):a<h.objs.size:=(x a o e).lt
theorem uK.fresh (x:uK P w H h) (e:h.objs.size<=a):H a=none:=by
 cases q:H a with
 |none=>rfl
 |some u=>exact absurd (Ze (x.lt q) e) (Zai _)
theorem uK.kept (x:uK P w H h) (k:∀ b u,h.get? b=some u->h'.get? b=some u):uK P w H h':=fun a o e =>
 (x a o e).stay (fun b u _ q=>k b u q) (fun _ q=>q) fun _ _ q=>q
theorem uK.laid (x:uK P w H h) (k:∀ b u,h.get? b=some u->h'.get? b=some u) (hp:h.objs.size<=a) (new:xM P w (xP H a o) h' a o):uK P w (xP H a o) h':=fun b u e=>by
 have hn:=x.fresh hp
 by_cases hb:b=a
 .subst hb;rw[yD] at e;cases e;exact new
 .rw[zE hb] at e;exact (x b u e).stay (fun c v _ q=>k c v q) (fun c q=>by rw[zE (yK q hn)];exact q) fun c xs q=>by rw[zE (yK q hn)];exact q
end
def Rd (H:Hp) (a:Addr) (u:HO):Prop:=H a=some u\/∃ o,H a=some (.frz o u)
theorem Rd.ok {P:Program} {w:World} {H:Hp} {h:Heap} {a:Addr} {u:HO} (r:Rd H a u) (x:uK P w H h):xM P w H h a u:=by
 rcases r with r|⟨o,r⟩
 .exact x a u r
 .obtain ⟨_,q⟩:=x a _ r;exact q
def Mut:Option HO->Prop
 |some (.lst _)=>True
 |some (.dK _)=>True
 |some (.dT _)=>True
 |some (.set _ _)=>True
 |some (.ins _ _ _)=>True
 |some (.ext _)=>True
 |_=>False
section
variable {P:Program} {w:World} {H:Hp} {h h':Heap} {x e:Addr} {o':HO}
theorem uK.write (ok:uK P w H h) (mu:Mut (H x)) (he:e=x\/H e=some (.own x)) (k:∀ b u,b≠e->h.get? b=some u->h'.get? b=some u) (heo:∃ u,h'.get? e=some u)
  (new:xM P w (xP H x o') h' x o'):uK P w (xP H x o') h':=fun b u q=>by
 have nown:∀ c y,H c=some (.own y)->c≠x:=fun c y r z=>by subst z;rw[r] at mu;exact mu
 have ntup:∀ c xs,H c=some (.tup xs)->c≠x:=fun c xs r z=>by subst z;rw[r] at mu;exact mu
 by_cases hb:b=x
 .subst hb;rw[yD] at q;cases q;exact new
 .rw[zE hb] at q
  by_cases hbe:b=e
  .have q':H b=some (.own x):=by
    rcases he with z|z
    .exact absurd (hbe.trans z) hb
    .rw[hbe];exact z
   rw[q] at q';cases q';obtain ⟨v,hv⟩:=heo;exact ⟨v,by rw[hbe];exact hv⟩
  .refine (ok b u q).stay (fun c v hc r=>k c v ?_ r) (fun c r=>by rw[zE (nown c b r)];exact r) fun c xs r=>by rw[zE (ntup c xs r)];exact r
   rcases hc with rfl|hc
   .exact hbe
   .rintro rfl;rcases he with z|z
    .exact nown c b hc z
    .rw[hc] at z;cases z;exact hb rfl
end
structure Un (fs ex:List Addr) (H H':Hp) (h h':Heap):Prop where
 keep:∀ b o,h.get? b=some o->H b=none->b∉fs->b∉ex->h'.get? b=some o
 slot:∀ b o,h.get? b=some o->H b=none->b∈fs->b∉ex->∃ sl,h'.get? b=some { o with slots:=sl }
 free:∀ b o,h.get? b=some o->H b=none->b∉ex->H' b=none
 there:∀ b o,h.get? b=some o->b∉ex->∃ o',h'.get? b=some o'
 tups:∀ b xs,H b=some (.tup xs)->H' b=some (.tup xs)
 frzs:∀ b o u,H b=some (.frz o u)->H' b=some (.frz o u)
 tbls:∀ b ps,H b=some (.tbl ps)->∃ more,H' b=some (.tbl (ps++more))
section
variable {fs fs' ex ex':List Addr} {H H1 H2:Hp} {h h1 h2 h':Heap} {a x e:Addr} {o:HO}
theorem Un.any (u:Un fs ex H H1 h h1) {b:Addr} {ob:Obj} (q:h.get? b=some ob) (n:H b=none) (hx:b∉ex):∃ sl,h1.get? b=some { ob with slots:=sl }:=by
 by_cases hb:b∈fs
 .exact u.slot b ob q n hb hx
 .exact ⟨ob.slots,u.keep b ob q n hb hx⟩
theorem Un.kept (k:∀ b u,h.get? b=some u->h'.get? b=some u):Un fs ex H H h h' :=
 ⟨fun b ob q _ _ _=>k b ob q,fun b ob q _ _ _=>⟨ob.slots,k b ob q⟩,fun _ _ _ n _=>n,fun b ob q _=>⟨ob,k b ob q⟩,fun _ _ q=>q,fun _ _ _ q=>q,fun _ ps q=>⟨#[],by rw[q];simp⟩⟩
theorem Un.refl:Un fs ex H H h h:=Un.kept fun _ _ q=>q
theorem Un.laid (k:∀ b u,h.get? b=some u->h'.get? b=some u) (hp:h.objs.size<=a) (hn:H a=none):Un fs ex H (xP H a o) h h' where
 keep:=fun b u q _ _ _=>k b u q
 slot:=fun b u q _ _ _=>⟨u.slots,k b u q⟩
 free:=fun b u q n _=>by rw[zE (Zj (Ze (Zd q) hp))];exact n
 there:=fun b u q _=>⟨u,k b u q⟩
 tups:=fun b xs q=>by rw[zE (yK q hn)];exact q
 frzs:=fun b u xs q=>by rw[zE (yK q hn)];exact q
 tbls:=fun b ps q=>⟨#[],by rw[zE (yK q hn),q];simp⟩
theorem Un.write (mu:Mut (H x)) (he:e=x\/H e=some (.own x)) (k:∀ b u,b≠e->h.get? b=some u->h'.get? b=some u) (heo:∃ u,h'.get? e=some u):Un fs ex H (xP H x o) h h':=by
 have hx:∀ b,H b=none->b≠x:=fun b n z=>by subst z;rw[n] at mu;exact mu
 have hb:∀ b,H b=none->b≠e:=fun b n z=>by
  subst z;rcases he with r|r
  .exact hx b n r
  .rw[n] at r;cases r
 have hm:∀ b u,H b=some u->¬ Mut (some u)->b≠x:=fun b u q nm z=>by subst z;rw[q] at mu;exact nm mu
 refine ⟨fun b u q n _ _=>k b u (hb b n) q,fun b u q n _ _=>⟨u.slots,k b u (hb b n) q⟩,fun b u q n _=>by rw[zE (hx b n)];exact n,fun b u q _=>?_,
  fun b xs q=>by rw[zE (hm b _ q fun z=>z)];exact q,fun b u xs q=>by rw[zE (hm b _ q fun z=>z)];exact q,fun b ps q=>⟨#[],by rw[zE (hm b _ q fun z=>z),q];simp⟩⟩
 by_cases hbe:b=e
 .subst hbe;exact heo
 .exact ⟨u,k b u hbe q⟩
end
def trk (h:Heap) (H:Hp):List Addr:=(List.range h.objs.size).filter fun a=>(H a).isSome
def hidT (h:Heap) (H:Hp):Heap:=PySem.W.hideAll h (trk h H)
theorem zdk (h:Heap) (H:Hp):(hidT h H).objs.size=h.objs.size:=PySem.W.hideAll_size _ _
theorem zfh {h:Heap} {H:Hp} {b:Addr} {o:Obj} (e:h.get? b=some o) (n:H b=none):(hidT h H).get? b=some o :=
 PySem.W.hideAll_get _ e fun hm=>by
  have q:(H b).isSome=true:=(Zcn.mp hm).2;rw[n] at q;simp at q
theorem zhk {h:Heap} {H:Hp} {b:Addr} {o:Obj} (e:(hidT h H).get? b=some o):h.get? b=some o/\H b=none:=by
 have e':h.get? b=some o:=PySem.W.of_hideAll (trk h H) e;refine ⟨e',?_⟩
 cases q:H b with
 |none=>rfl
 |some x =>
  have hm:b∈trk h H:=Zcn.mpr ⟨ZH.mpr (Zd e'),by simp[q]⟩;have z:(hidT h H).get? b=none:=PySem.W.hideAll_none (trk h H) hm;rw[z] at e;cases e
def zij (g h:Heap) (L:Addr):List (Addr×Obj):=(List.range h.objs.size).filterMap fun a=>if a=L\/(g.get? a).isSome=true then none else (h.get? a).map fun o=>(a,o)
def rest (g h:Heap) (L d:Addr):List (Addr×Obj):=(zij g h L).filter fun p=>decide (p.1≠d)
end L2
namespace L2
open PySem PySem.Spec PyProof.Rows
structure Mod (K:PySem.W.Frag) (mg:Str->Option Value) (base:Heap):Prop where
 kin:K.In base
 glob:base.Ns mainGlobals mg
 blt:∃ mb,base.Ns builtinsNs mb/\∀ x:Str,x ≠ "__name__" -> mb x=bootBuiltins x
 nolimit:base.NoLimit
structure Cx where
 prog:Program
 w:World
 K:PySem.W.Frag
 mg:Str->Option Value
 base:Heap
 A:Around
 N:List Str
 s₀:Shared
 H₀:Hp
 env:Env
 outer:List Env
 stack:List Env
 ex:List Addr
 fn:Str->Bool
 calm:Bool
 pn:List (Addr×Obj)
 xe:Value->Shared->Prop
def pW (l:List Env):List Addr:=l.filterMap (·.frame)
abbrev Cx.fs (X:Cx):List Addr:=pW X.outer
def Vis (sc:Scope) (x:Str):Prop:=sc.names.lookup x=some .local\/sc.names.lookup x=some .cell\/sc.names.lookup x=some .free
def Loc (sc:Scope) (x:Str):Prop:=sc.names.lookup x=some .local\/sc.names.lookup x=some .cell
def Look (env:Env) (h:Heap) (m:Str->Option Value) (x:Str) (u:Value):Prop :=
 (env.kindOf x=some .local/\m x=some u)\/((env.kindOf x=some .cell\/env.kindOf x=some .free)/\∃ c,env.cells.lookup x=some c/\h.IsCell c (some u))
structure Cx.Ok (X:Cx):Prop where
 mod:Mod X.K X.mg X.base
 kind:X.env.scope.kind=.function
 glob:X.env.globals=mainGlobals
 blt:X.env.builtins=builtinsNs
 above:X.s₀.heap.objs.size<=X.env.locals
 inj:∀ x y c,X.env.cells.lookup x=some c->X.env.cells.lookup y=some c->x=y
 has:∀ x,(X.env.kindOf x=some .cell\/X.env.kindOf x=some .free)->∃ c,X.env.cells.lookup x=some c
 cab:∀ x c,X.fn x=true->X.env.cells.lookup x=some c->X.s₀.heap.objs.size<=c
 hd:X.calm=true->X.A.handled=none
 frames:X.A.frames=some X.stack
 stk:X.stack=X.outer\/(X.stack=X.env::X.outer/\X.env.frame=some X.env.locals)
 exf:∀ b∈X.ex,b≠X.env.locals/\∀ x c,X.env.cells.lookup x=some c->c≠b
 bs:∀ b o,X.base.get? b=some o->X.s₀.heap.get? b=some o/\X.H₀ b=none
 bsz:X.base.objs.size<=X.s₀.heap.objs.size
 noex:∀ b o,X.base.get? b=some o->b∉X.ex
 exfs:∀ b∈X.ex,b∉X.fs
 funs:X.s₀.heap.FunFrames X.base X.outer
 frf:∀ b∈X.fs,X.H₀ b=none
structure Inv (X:Cx) (pins:List (Addr×Obj)) (σ:List (Option V)) (H:Hp) (s:Shared):Prop where
 ok:X.Ok
 os:s.os=X.s₀.os
 bare:AllBare s.gens
 base:Un X.fs X.ex X.H₀ H X.s₀.heap s.heap
 loc:∃ m,s.heap.Ns X.env.locals m/\∀ (i:Nat) (x:Str) (v:V),X.N[i]?=some x->σ[i]?=some (some v)->Vis X.env.scope x->∃ u,yY v u/\Look X.env s.heap m x u
 cell:∀ x c,X.env.cells.lookup x=some c->∃ v,s.heap.IsCell c v
 free:H X.env.locals=none
 freeC:∀ x c,X.env.cells.lookup x=some c->H c=none
 pin:∀ p∈X.pn++pins,s.heap.get? p.1=some p.2/\H p.1=none/\p.1≠X.env.locals/\p.1∉X.fs/\∀ v,p.2.data≠.cell v
 hok:uK X.prog X.w H s.heap
 len:σ.length=X.N.length
 tk:0<s.toks
section
variable {X:Cx} {pins:List (Addr×Obj)} {σ:List (Option V)} {H H':Hp} {s:Shared} {h':Heap}
theorem Cx.Ok.nofr (ok:X.Ok) {b:Addr} {o:Obj} (e:X.base.get? b=some o):b∉X.fs:=fun hb=>by
 have:=(ok.funs.mem hb).1;rw[e] at this;cases this
theorem Inv.bs (I:Inv X pins σ H s):∀ b o,X.base.get? b=some o->s.heap.get? b=some o/\H b=none:=fun b o e =>
 ⟨I.base.keep b o (I.ok.bs b o e).1 (I.ok.bs b o e).2 (I.ok.nofr e) (I.ok.noex b o e),I.base.free b o (I.ok.bs b o e).1 (I.ok.bs b o e).2 (I.ok.noex b o e)⟩
theorem Inv.bk (I:Inv X pins σ H s):∀ b o,X.base.get? b=some o->s.heap.get? b=some o:=fun b o e=>(I.bs b o e).1
theorem Inv.mod (I:Inv X pins σ H s):Mod X.K X.mg X.base:=I.ok.mod
theorem Inv.kIn (I:Inv X pins σ H s):X.K.In s.heap:=I.ok.mod.kin.keeps I.bk
theorem Inv.lt (I:Inv X pins σ H s):X.env.locals<s.heap.objs.size:=let ⟨_,hn,_⟩:=I.loc;hn.lt
theorem Inv.sz (I:Inv X pins σ H s):X.s₀.heap.objs.size<=s.heap.objs.size:=Zn I.ok.above (ZaO I.lt)
theorem Inv.nofs (I:Inv X pins σ H s) {a:Addr} (h:s.heap.objs.size<=a):a∉X.fs:=fun hb=>by
 obtain ⟨_,o,ho,_⟩:=I.ok.funs.mem hb;exact absurd (Ze (Zd ho) (Zn I.sz h)) (Zai _)
theorem Inv.cne (I:Inv X pins σ H s):∀ x c,X.env.cells.lookup x=some c->c≠X.env.locals:=fun x c e z=>by
 obtain ⟨v,o,ho,hd⟩:=I.cell x c e;obtain ⟨m,⟨o',es,ep,ho',hd',_⟩,_⟩:=I.loc;rw[z,ho'] at ho;cases ho;rw[hd'] at hd;cases hd
theorem Inv.funs (I:Inv X pins σ H s):s.heap.FunFrames X.base X.outer:=by
 have all:∀ (l:List Env),(∀ b∈pW l,b∈X.fs)->X.s₀.heap.FunFrames X.base l->s.heap.FunFrames X.base l:=by
  intro l
  induction l with
  |nil=>intro _ _;trivial
  |cons env r ih =>
   intro hs hl;obtain ⟨hk,⟨L,o,hf,hn,ho,hd⟩,hr⟩:=hl;have hL:L∈X.fs:=hs L (by unfold pW;rw[Zas,hf];exact zzT);obtain ⟨sl,e⟩:=I.base.slot L o ho (I.ok.frf L hL) hL fun z=>I.ok.exfs L z hL;exact ⟨hk,⟨L,_,hf,hn,e,hd⟩,ih (fun b hb=>hs b (by unfold pW;rw[Zas,hf];exact Zk _ hb)) hr⟩
 exact all X.outer (fun _ hb=>hb) I.ok.funs
theorem Inv.stack (I:Inv X pins σ H s):s.heap.FunFrames X.base X.stack:=by
 rcases I.ok.stk with e|⟨e,hf⟩
 .rw[e];exact I.funs
 .rw[e];obtain ⟨m,hn,_⟩:=I.loc;refine .cons (by rw[I.ok.kind];decide) hf hn ?_ I.funs;exact Heap.get?_none_of_le (Zn I.ok.bsz I.ok.above)
theorem Inv.stkSub (I:Inv X pins σ H s):∀ b∈pW X.stack,b∈X.env.locals::X.fs:=fun b hb=>by
 rcases I.ok.stk with e|⟨e,hf⟩
 .rw[e] at hb;exact Zk _ hb
 .rw[e] at hb;unfold pW at hb;rw[Zas,hf] at hb;exact hb
theorem Inv.stkFree (I:Inv X pins σ H s):∀ b∈pW X.stack,H b=none:=fun b hb=>by
 rcases Zp.mp (I.stkSub b hb) with e|hb
 .rw[e];exact I.free
 .obtain ⟨_,o,ho,_⟩:=I.ok.funs.mem hb;exact I.base.free b o ho (I.ok.frf b hb) fun z=>I.ok.exfs b z hb
theorem Inv.step {g':Array GenState} {t':Nat} {d':Drawn} {ch:List Addr} (I:Inv X pins σ H s)
  (hch:∀ b∈ch,(b∈X.ex\/X.s₀.heap.objs.size<=b)/\b≠X.env.locals/\(∀ x c,X.env.cells.lookup x=some c->c≠b)/\∀ p∈X.pn++pins,p.1≠b)
  (keep:∀ b o,b≠X.env.locals->b∉X.fs->b∉ch->s.heap.get? b=some o->H b=none->h'.get? b=some o)
  (slot:∀ b o,b≠X.env.locals->b∈X.fs->b∉ch->s.heap.get? b=some o->H b=none->∃ sl,h'.get? b=some { o with slots:=sl }) (free:∀ b o,b∉ch->s.heap.get? b=some o->H b=none->H' b=none)
  (there:∀ b o,b∉ch->s.heap.get? b=some o->∃ o',h'.get? b=some o')
  (tups:∀ b xs,H b=some (.tup xs)->H' b=some (.tup xs)) (frzs:∀ b o u,H b=some (.frz o u)->H' b=some (.frz o u)) (tbls:∀ b ps,H b=some (.tbl ps)->∃ more,H' b=some (.tbl (ps++more)))
  (ns:∀ m,s.heap.Ns X.env.locals m->h'.Ns X.env.locals m) (hok:uK X.prog X.w H' h') (hg:AllBare g') (ht:0<t':=by first|exact ZI _|exact L2.Inv.tk (by assumption)|exact L2.Inv.tk ‹L2.Inv _ _ _ _ _› | assumption|omega) :
  Inv X pins σ H' { s with heap:=h',gens:=g',drawn:=d',toks:=t' }:=by
 have neL:∀ b o,X.s₀.heap.get? b=some o->b≠X.env.locals:=fun b o e=>Zj (Ze (Zd e) I.ok.above)
 have neC:∀ b o,X.s₀.heap.get? b=some o->b∉X.ex->b∉ch:=fun b o e hx hb=>by
  rcases (hch b hb).1 with z|z
  .exact hx z
  .exact absurd (Ze (Zd e) z) (Zai _)
 have cellK:∀ x c,X.env.cells.lookup x=some c->∀ v,s.heap.IsCell c v->h'.IsCell c v:=fun x c e v ⟨o,ho,hd⟩=>by
  have nch:c∉ch:=fun z=>(hch c z).2.2.1 x c e rfl
  by_cases hc:c∈X.fs
  .obtain ⟨sl,q⟩:=slot c o (I.cne x c e) hc nch ho (I.freeC x c e);exact ⟨_,q,hd⟩
  .exact ⟨o,keep c o (I.cne x c e) hc nch ho (I.freeC x c e),hd⟩
 refine ⟨I.ok,I.os,hg,⟨fun b o e n hb hx=>?_,fun b o e n hb hx=>?_,fun b o e n hx=>?_,fun b o e hx=>?_,fun b xs e=>tups b xs (I.base.tups b xs e),fun b o xs e=>frzs b o xs (I.base.frzs b o xs e),fun b ps e=>?_⟩,?_,fun x c e=>?_,?_,fun x c e=>?_,fun p hp=>?_,hok,I.len,ht⟩
 .exact keep b o (neL b o e) hb (neC b o e hx) (I.base.keep b o e n hb hx) (I.base.free b o e n hx)
 .obtain ⟨sl,e1⟩:=I.base.slot b o e n hb hx;obtain ⟨sl',e2⟩:=slot b _ (neL b o e) hb (neC b o e hx) e1 (I.base.free b o e n hx);exact ⟨sl',e2⟩
 .obtain ⟨o',e1⟩:=I.base.there b o e hx;exact free b o' (neC b o e hx) e1 (I.base.free b o e n hx)
 .obtain ⟨o',e1⟩:=I.base.there b o e hx;exact there b o' (neC b o e hx) e1
 .obtain ⟨m1,e1⟩:=I.base.tbls b ps e;obtain ⟨m2,e2⟩:=tbls b _ e1;exact ⟨m1++m2,by rw[e2,Array.append_assoc]⟩
 .obtain ⟨m,hn,hl⟩:=I.loc;refine ⟨m,ns m hn,fun i x v e1 e2 e3=>?_⟩;obtain ⟨u,r,l⟩:=hl i x v e1 e2 e3;refine ⟨u,r,?_⟩;rcases l with l|⟨k,c,e,z⟩
  .exact .inl l
  .exact .inr ⟨k,c,e,cellK x c e _ z⟩
 .obtain ⟨v,z⟩:=I.cell x c e;exact ⟨v,cellK x c e v z⟩
 .obtain ⟨m,⟨o,_,_,ho,_⟩,_⟩:=I.loc;exact free _ o (fun z=>(hch _ z).2.1 rfl) ho I.free
 .obtain ⟨v,o,ho,hd⟩:=I.cell x c e;exact free c o (fun z=>(hch c z).2.2.1 x c e rfl) ho (I.freeC x c e)
 .obtain ⟨e,n,ne,nf,d⟩:=I.pin p hp;have nch:p.1∉ch:=fun z=>(hch p.1 z).2.2.2 p hp rfl;exact ⟨keep p.1 p.2 ne nf nch e n,free p.1 p.2 nch e n,ne,nf,d⟩
theorem Inv.un {t':Nat} (I:Inv X pins σ H s) (u:Un X.fs [] H H' s.heap h') (hok:uK X.prog X.w H' h') (ht:0<t':=by first|exact ZI _|exact L2.Inv.tk (by assumption)|exact L2.Inv.tk ‹L2.Inv _ _ _ _ _› | assumption|omega):Inv X pins σ H' { s with heap:=h',toks:=t' }:=by
 obtain ⟨m,⟨o,es,ep,ho,r⟩,_⟩:=id I.loc;obtain ⟨sl,hL⟩:=u.any ho I.free (by simp)
 exact I.step (g':=s.gens) (d':=s.drawn) (ch:=[]) (fun _ z=>nomatch z) (fun b o _ hb _ e n=>u.keep b o e n hb (by simp)) (fun b o _ hb _ e n=>u.slot b o e n hb (by simp)) (fun b o _ e n=>u.free b o e n (by simp)) (fun b o _ e=>u.there b o e (by simp)) u.tups u.frzs u.tbls (fun m' hm=>by
  obtain ⟨o',es',ep',ho',r'⟩:=hm;rw[ho] at ho';cases ho';exact ⟨_,es',ep',hL,r'⟩) hok I.bare
theorem Inv.call {g':Array GenState} {t':Nat} {d':Drawn} {ch:List Addr} (I:Inv X pins σ H s) (u:Un (pW X.stack) ch H H' s.heap h') (hok:uK X.prog X.w H' h') (hg:AllBare g')
  (hch:∀ b∈ch,(b∈X.ex\/X.s₀.heap.objs.size<=b)/\b≠X.env.locals/\(∀ x c,X.env.cells.lookup x=some c->c≠b)/\∀ p∈X.pn++pins,p.1≠b) (ht:0<t':=by first|exact ZI _|exact L2.Inv.tk (by assumption)|exact L2.Inv.tk ‹L2.Inv _ _ _ _ _› | assumption|omega) :
  Inv X pins σ H' { s with heap:=h',gens:=g',drawn:=d',toks:=t' }:=by
 obtain ⟨m,⟨o,es,ep,ho,r⟩,_⟩:=id I.loc;obtain ⟨sl,hL⟩:=u.any ho I.free fun z=>(hch _ z).2.1 rfl
 exact I.step (ch:=ch) hch (fun b o hL hb hc e n=>u.keep b o e n (fun z=>(Zp.mp (I.stkSub b z)).elim hL hb) hc) (fun b o _ _ hc e n=>u.any e n hc) (fun b o hc e n=>u.free b o e n hc) (fun b o hc e=>u.there b o e hc) u.tups u.frzs u.tbls (fun m' hm=>by
  obtain ⟨o',es',ep',ho',r'⟩:=hm;rw[ho] at ho';cases ho';exact ⟨_,es',ep',hL,r'⟩) hok hg
theorem Inv.turned {t':Nat} {it:Addr} (I:Inv X pins σ H s) (k:∀ b o,b≠it->s.heap.get? b=some o->h'.get? b=some o) (hn:H it=none) (hL:it≠X.env.locals)
  (h1:it∈X.ex\/X.s₀.heap.objs.size<=it) (h2:∀ x c,X.env.cells.lookup x=some c->c≠it) (h3:∀ p∈X.pn++pins,p.1≠it) (ht:0<t':=by first|exact ZI _|exact L2.Inv.tk (by assumption)|exact L2.Inv.tk ‹L2.Inv _ _ _ _ _› | assumption|omega):Inv X pins σ H { s with heap:=h',toks:=t' }:=by
 have nit:∀ b u,H b=some u->b≠it:=fun b u e z=>by rw[z,hn] at e;cases e
 refine I.step (g':=s.gens) (d':=s.drawn) (ch:=[it]) (fun b hb=>?_) (fun b o _ _ hc e _=>k b o (fun z=>hc (by simp[z])) e) (fun b o _ _ hc e _=>⟨o.slots,k b o (fun z=>hc (by simp[z])) e⟩) (fun _ _ _ _ n=>n)
  (fun b o hc e=>⟨o,k b o (fun z=>hc (by simp[z])) e⟩) (fun _ _ e=>e) (fun _ _ _ e=>e) (fun b ps e=>⟨#[],by rw[e];simp⟩) (fun m hm=>?_) (fun b u e=>?_) I.bare
 .have e:b=it:=by simpa using hb
  subst e;exact ⟨h1,hL,h2,h3⟩
 .obtain ⟨o,es,ep,ho,r⟩:=hm;exact ⟨o,es,ep,k _ o (Ne.symm hL) ho,r⟩
 .refine (I.hok b u e).stay (fun c v hc q=>k c v ?_ q) (fun _ q=>q) fun _ _ q=>q;rcases hc with z|z
  .rw[z];exact nit b u e
  .exact nit c _ z
theorem Inv.tok (I:Inv X pins σ H s) (t:Nat) (ht:0<t:=by first|exact ZI _|exact L2.Inv.tk (by assumption)|exact L2.Inv.tk ‹L2.Inv _ _ _ _ _› | assumption|omega):Inv X pins σ H { s with toks:=t }:=I.un (h':=s.heap) (t':=t) Un.refl I.hok
theorem Inv.kept {t':Nat} (I:Inv X pins σ H s) (k:∀ b u,s.heap.get? b=some u->h'.get? b=some u) (ht:0<t':=by first|exact ZI _|exact L2.Inv.tk (by assumption)|exact L2.Inv.tk ‹L2.Inv _ _ _ _ _› | assumption|omega):Inv X pins σ H { s with heap:=h',toks:=t' }:=I.un (Un.kept k) (I.hok.kept k)
theorem Inv.laid {a:Addr} {o:HO} {t':Nat} (I:Inv X pins σ H s) (k:∀ b u,s.heap.get? b=some u->h'.get? b=some u) (hp:s.heap.objs.size<=a) (new:xM X.prog X.w (xP H a o) h' a o) (ht:0<t':=by first|exact ZI _|exact L2.Inv.tk (by assumption)|exact L2.Inv.tk ‹L2.Inv _ _ _ _ _› | assumption|omega) :
  Inv X pins σ (xP H a o) { s with heap:=h',toks:=t' }:=I.un (Un.laid k hp (I.hok.fresh hp)) (I.hok.laid k hp new)
theorem Inv.write {x e:Addr} {o:HO} {t':Nat} (I:Inv X pins σ H s) (mu:Mut (H x)) (he:e=x\/H e=some (.own x)) (k:∀ b u,b≠e->s.heap.get? b=some u->h'.get? b=some u) (heo:∃ u,h'.get? e=some u)
  (new:xM X.prog X.w (xP H x o) h' x o) (ht:0<t':=by first|exact ZI _|exact L2.Inv.tk (by assumption)|exact L2.Inv.tk ‹L2.Inv _ _ _ _ _› | assumption|omega):Inv X pins σ (xP H x o) { s with heap:=h',toks:=t' }:=I.un (Un.write mu he k heo) (I.hok.write mu he k heo new)
theorem Inv.pins_of {pins':List (Addr×Obj)} (I:Inv X pins σ H s) (h:∀ p∈pins',s.heap.get? p.1=some p.2/\H p.1=none/\p.1≠X.env.locals/\p.1∉X.fs/\∀ v,p.2.data≠.cell v):Inv X pins' σ H s :=
 ⟨I.ok,I.os,I.bare,I.base,I.loc,I.cell,I.free,I.freeC,fun p hp=>(ZE.mp hp).elim (fun z=>I.pin p (ZT _ z)) (h p),I.hok,I.len,I.tk⟩
theorem gR {N:List Str} (hN:N.Nodup) {i j:Nat} {x:Str} (a:N[i]?=some x) (b:N[j]?=some x):i=j:=by
 obtain ⟨h1,e1⟩:=Zi.mp a;obtain ⟨h2,e2⟩:=Zi.mp b;exact (List.getElem_inj hN).mp (e1.trans e2.symm)
theorem dB {M:Model} {A:Around} {E:Value->Shared->Prop} {i:Nat} {x:Str} {v:V} {u:Value} {Q:Unit->Shared->Prop} (I:Inv X pins σ H s) (hN:X.N.Nodup) (hi:X.N[i]?=some x) (hx:Loc X.env.scope x) (r:yY v u)
  (h:∀ s',Inv X pins (σ.set i (some v)) H s'->(∃ a,Heap.SameBut a s.heap s'.heap/\(a=X.env.locals\/X.env.cells.lookup x=some a))->Q () s') (hf:X.fn x=true\/X.env.scope.names.lookup x=some .local:=by first|exact .inl rfl|exact .inr rfl|assumption):wpAny M A (storeName X.env x u) Q E s:=by
 obtain ⟨m,hn,hl⟩:=id I.loc;have hcls:(X.env.scope.kind==.class || (X.env.scope.kind==.module&&X.env.locals != X.env.globals))=false:=by rw[I.ok.kind];rfl
 have hiσ:i<σ.length:=by rw[I.len];exact (Zi.mp hi).1
 have cne:=I.cne
 have tracked:∀ {a:Addr} {h':Heap},(∃ o,s.heap.get? a=some o/\H a=none)->Heap.SameBut a s.heap h'->uK X.prog X.w H h':=fun {a h'} ha hs b ob e=>by
  obtain ⟨_,_,hfree⟩:=ha;refine (I.hok b ob e).stay (fun c w' hc q=>(hs.2 c ?_).trans q) (fun _ q=>q) fun _ _ q=>q;rintro rfl;rcases hc with rfl|hc
  .rw[hfree] at e;cases e
  .rw[hfree] at hc;cases hc
 rcases hx with hk|hk
 .refine wpAny_storeName_local hk hn (fun h' hn' hs=>?_) hcls;obtain ⟨oL,_,_,hoL,_⟩:=id hn;refine h _ ⟨I.ok,I.os,I.bare,⟨fun b o e n hb hx=>?_,fun b o e n hb hx=>?_,I.base.free,fun b o e hx=>?_,I.base.tups,I.base.frzs,I.base.tbls⟩,⟨_,hn',fun j y v' e1 e2 e3=>?_⟩,fun y c e=>?_,I.free,I.freeC,fun p hp=>?_,tracked ⟨oL,hoL,I.free⟩ hs,by simpa using I.len,ZI _⟩ ⟨_,hs,.inl rfl⟩
  .exact (hs.2 b (Zj (Ze (Zd e) I.ok.above))).trans (I.base.keep b o e n hb hx)
  .obtain ⟨sl,e1⟩:=I.base.slot b o e n hb hx;exact ⟨sl,(hs.2 b (Zj (Ze (Zd e) I.ok.above))).trans e1⟩
  .obtain ⟨o',e1⟩:=I.base.there b o e hx;exact ⟨o',(hs.2 b (Zj (Ze (Zd e) I.ok.above))).trans e1⟩
  .by_cases hj:j=i
   .subst hj;rw[hi] at e1;cases e1;rw[Zat hiσ] at e2;cases e2;exact ⟨u,r,.inl ⟨hk,by simp⟩⟩
   .rw[Zao (Ne.symm hj)] at e2;obtain ⟨u',r',q⟩:=hl j y v' e1 e2 e3;refine ⟨u',r',?_⟩;rcases q with ⟨k,e⟩|⟨k,c,e,z⟩
    .refine .inl ⟨k,?_⟩;have:y≠x:=fun e=>hj (gR hN e1 (e▸hi));simp[this,e]
    .exact .inr ⟨k,c,e,z.sameBut hs (cne y c e)⟩
  .obtain ⟨w',z⟩:=I.cell y c e;exact ⟨w',z.sameBut hs (cne y c e)⟩
  .obtain ⟨e,n,ne,nf,d⟩:=I.pin p hp;exact ⟨(hs.2 p.1 ne).trans e,n,ne,nf,d⟩
 .have hfn:X.fn x=true:=by
   rcases hf with z|z
   .exact z
   .rw[z] at hk;cases hk
  obtain ⟨c,hc⟩:=I.ok.has x (.inl hk);obtain ⟨w',z⟩:=I.cell x c hc;refine wpAny_storeName_cell I.ok.kind hk hc z (fun h' hc' hs=>?_);obtain ⟨oc,hoc,hocd⟩:=id z;refine h { s with heap:=h' } ⟨I.ok,I.os,I.bare,⟨fun b o e n hb hx=>?_,fun b o e n hb hx=>?_,I.base.free,fun b o e hx=>?_,I.base.tups,I.base.frzs,I.base.tbls⟩,⟨m,hn.sameBut hs (Ne.symm (cne x c hc)),fun j y v' e1 e2 e3=>?_⟩,fun y c' e=>?_,I.free,I.freeC,fun p hp=>?_,tracked ⟨oc,hoc,I.freeC x c hc⟩ hs,by simpa using I.len,I.tk⟩ ⟨c,hs,.inr hc⟩
  .exact (hs.2 b (Zj (Ze (Zd e) (I.ok.cab x c hfn hc)))).trans (I.base.keep b o e n hb hx)
  .obtain ⟨sl,e1⟩:=I.base.slot b o e n hb hx;exact ⟨sl,(hs.2 b (Zj (Ze (Zd e) (I.ok.cab x c hfn hc)))).trans e1⟩
  .obtain ⟨o',e1⟩:=I.base.there b o e hx;exact ⟨o',(hs.2 b (Zj (Ze (Zd e) (I.ok.cab x c hfn hc)))).trans e1⟩
  .by_cases hj:j=i
   .subst hj;rw[hi] at e1;cases e1;rw[Zat hiσ] at e2;cases e2;exact ⟨u,r,.inr ⟨.inl hk,c,hc,hc'⟩⟩
   .rw[Zao (Ne.symm hj)] at e2;obtain ⟨u',r',q⟩:=hl j y v' e1 e2 e3;refine ⟨u',r',?_⟩;rcases q with q|⟨k,c',e,z'⟩
    .exact .inl q
    .refine .inr ⟨k,c',e,z'.sameBut hs ?_⟩;rintro rfl;exact hj (gR hN e1 (I.ok.inj _ _ _ e hc▸hi))
  .by_cases hcc:c'=c
   .subst hcc;exact ⟨_,hc'⟩
   .obtain ⟨w2,z2⟩:=I.cell y c' e;exact ⟨w2,z2.sameBut hs hcc⟩
  .obtain ⟨e,n,ne,nf,d⟩:=I.pin p hp;refine ⟨(hs.2 p.1 ?_).trans e,n,ne,nf,d⟩;intro q;rw[q,hoc] at e;have q':oc=p.2:=Zx e;exact d w' (by rw[← q'];exact hocd)
theorem mP {M:Model} {A:Around} {E:Value->Shared->Prop} {i:Nat} {x:Str} {v:V} {u:Value} {Q:Unit->Shared->Prop} (I:Inv X pins σ H s) (hN:X.N.Nodup) (hi:X.N[i]?=some x) (hx:Loc X.env.scope x) (r:yY v u)
  (h:∀ s',Inv X pins (σ.set i (some v)) H s'->Q () s') (hf:X.fn x=true\/X.env.scope.names.lookup x=some .local:=by first|exact .inl rfl|exact .inr rfl|assumption):wpAny M A (storeName X.env x u) Q E s :=
 dB I hN hi hx r (fun s' I' _=>h s' I') hf
theorem Inv.call' {s':Shared} {ch:List Addr} (I:Inv X pins σ H s) (ho:s'.os=s.os) (u:Un (pW X.stack) ch H H' s.heap s'.heap) (hok:uK X.prog X.w H' s'.heap) (hg:AllBare s'.gens)
  (hch:∀ b∈ch,(b∈X.ex\/X.s₀.heap.objs.size<=b)/\b≠X.env.locals/\(∀ x c,X.env.cells.lookup x=some c->c≠b)/\∀ p∈X.pn++pins,p.1≠b) (ht:0<s'.toks):Inv X pins σ H' s':=by
 obtain ⟨h',g',d',t',o'⟩:=s';have e:o'=s.os:=ho;subst e;exact I.call (g':=g') (t':=t') (d':=d') u hok hg hch
end
abbrev XK:=Value->Option Addr->Hp->Prop
abbrev St:=List (Option V)
abbrev VK:=V->Hp->Prop
abbrev TE:=St->Hp->VK->Prop
abbrev TT:=St->Hp->(Bool->Hp->Prop)->Prop
abbrev TA:=St->Hp->(List V->Hp->Prop)->Prop
structure Ends where
 nx:St->Hp->Prop
 rt:VK
 bk:St->Hp->Prop:=fun _ _=>False
 ct:St->Hp->Prop:=fun _ _=>False
abbrev TS:=Ends->St->Hp->Prop
def EP (X:Cx) (pins:List (Addr×Obj)) (σ:St) (Q:VK) (u:Value) (s':Shared):Prop:=∃ v H',Inv X pins σ H' s'/\yY v u/\Q v H'
def TP (X:Cx) (pins:List (Addr×Obj)) (σ:St) (Q:Bool->Hp->Prop) (b:Bool) (s':Shared):Prop:=∃ H',Inv X pins σ H' s'/\Q b H'
def AP (X:Cx) (pins:List (Addr×Obj)) (σ:St) (Q:List V->Hp->Prop) (us:List Value) (s':Shared):Prop:=∃ vs H',Inv X pins σ H' s'/\zF vs us/\Q vs H'
def SP (X:Cx) (pins:List (Addr×Obj)) (D:Ends) (f:Flow) (s':Shared):Prop :=
 match f with
 | .next=>∃ σ' H',Inv X pins σ' H' s'/\D.nx σ' H'
 | .brk=>∃ σ' H',Inv X pins σ' H' s'/\D.bk σ' H'
 | .cont=>∃ σ' H',Inv X pins σ' H' s'/\D.ct σ' H'
 | .ret u=>∃ v σ' H',Inv X pins σ' H' s'/\yY v u/\D.rt v H'
def PE (X:Cx) (e:Expr) (t:TE):Prop :=
 ∀ (pins:List (Addr×Obj)) (s:Shared) (σ:St) (H:Hp) (Q:VK),Inv X pins σ H s->t σ H Q->wpAny 'a' X.A (eval e X.env) (EP X pins σ Q) X.xe s
def PT (X:Cx) (e:Expr) (t:TT):Prop :=
 ∀ (pins:List (Addr×Obj)) (s:Shared) (σ:St) (H:Hp) (Q:Bool->Hp->Prop),Inv X pins σ H s->t σ H Q->wpAny 'a' X.A (isTrue e X.env (eval e X.env)) (TP X pins σ Q) X.xe s
def PW (X:Cx) (e:Expr) (t:TT):Prop :=
 ∀ (whole:Sem Value) (pins:List (Addr×Obj)) (s:Shared) (σ:St) (H:Hp) (Q:Bool->Hp->Prop),Inv X pins σ H s->t σ H Q->wpAny 'a' X.A (isTrue e X.env whole) (TP X pins σ Q) X.xe s
theorem PW.pt {X:Cx} {e:Expr} {t:TT} (h:PW X e t):PT X e t:=h _
def PA (X:Cx) (es:List Expr) (t:TA):Prop :=
 ∀ (pos:Pos) (pins:List (Addr×Obj)) (s:Shared) (σ:St) (H:Hp) (Q:List V->Hp->Prop),Inv X pins σ H s->t σ H Q->wpAny 'a' X.A (spliced (backTo pos (starEach es X.env))) (AP X pins σ Q) X.xe s
def PS (X:Cx) (st:Stmt) (t:TS):Prop :=
 ∀ (pins:List (Addr×Obj)) (s:Shared) (σ:St) (H:Hp) (D:Ends),Inv X pins σ H s->t D σ H->wpAny 'a' X.A (exec st X.env) (SP X pins D) X.xe s
def dM (X:Cx) (st:List Stmt) (t:TS):Prop :=
 ∀ (pins:List (Addr×Obj)) (s:Shared) (σ:St) (H:Hp) (D:Ends),Inv X pins σ H s->t D σ H->wpAny 'a' X.A (execs st X.env) (SP X pins D) X.xe s
theorem xQ {α:Type} {t:Sem α} {Q Q':α->Shared->Prop} {M:Model} {A:Around} {E:Value->Shared->Prop} {s:Shared} (h:wpAny M A t Q E s) (hQ:∀ a s,Q a s->Q' a s):wpAny M A t Q' E s:=Z2 h hQ fun _ _ x=>x
end L2
namespace L2
open PySem PySem.Spec PyProof.Rows
section
variable {X:Cx}
theorem bin {a b:Expr} {ta tb:TE} (ha:PE X a ta) (hb:PE X b tb) {pins:List (Addr×Obj)} {s:Shared} {σ:St} {H:Hp} {R:V->V->Hp->Prop} (I:Inv X pins σ H s) (h:ta σ H fun x H1=>tb σ H1 fun y H2=>R x y H2)
  {α:Type} {Q:α->Shared->Prop} {f:Value->Value->Sem α}
  (hf:∀ v u s2 x y H2,Inv X pins σ H2 s2->yY x v->yY y u->R x y H2->wpAny 'a' X.A (f v u) Q X.xe s2) :
  wpAny 'a' X.A (eval a X.env) (fun v s₁=>wpAny 'a' X.A (eval b X.env) (fun u s₂=>wpAny 'a' X.A (f v u) Q X.xe s₂) X.xe s₁) X.xe s:=by
 refine xQ (ha pins s σ H _ I h) fun v s1 ⟨x,H1,I1,r1,q1⟩=>?_;refine xQ (hb pins s1 σ H1 _ I1 q1) fun u s2 ⟨y,H2,I2,r2,q2⟩=>?_;exact hf v u s2 x y H2 I2 r1 r2 q2
def tVar (i:Nat):TE:=fun σ H Q=>∃ v,σ[i]?=some (some v)/\Q v H
def tC (v:V):TE:=fun _ H Q=>Q v H
theorem zf1 {i:Nat} {x:Str} {pos:Pos} (hN:X.N[i]?=some x) (hv:Vis X.env.scope x) (hd:(x==("__debug__" : Str))=false:=by decide) (hcd:(x==("__classdict__" : Str))=false:=by decide):PE X (.Name x pos) (tVar i):=by
 intro pins s σ H Q I h;obtain ⟨v,e,h⟩:=h;obtain ⟨m,hn,hl⟩:=I.loc;obtain ⟨u,r,l⟩:=hl i x v hN e hv;have fin:EP X pins σ Q u s:=⟨v,H,I,r,h⟩;rcases l with ⟨hk,hm⟩|⟨hk,c,hc,hcell⟩
 .exact wpAny_Name (wpAny_loadName_local I.ok.kind hk hn hm fin) hd
 .rcases hk with hk|hk
  .exact wpAny_Name (wpAny_loadName_cell I.ok.kind hk hc hcell fin) hd
  .exact wpAny_Name (wpAny_loadName_free I.ok.kind hk hc hcell fin hcd) hd
theorem zf5 {i j pos}:PE X (.Constant (.int i) j pos) (tC (.int i)):=fun _ _ _ H _ I h=>wpAny_Constant_int ⟨.int i,H,I.tok _,⟨_,rfl⟩,h⟩
theorem pe_bl {b j pos}:PE X (.Constant (.bool b) j pos) (tC (.bl b)):=fun _ _ _ H _ I h=>Constant_bool ⟨.bl b,H,I,rfl,h⟩
theorem zjo {j pos}:PE X (.Constant .none j pos) (tC .non):=fun _ _ _ H _ I h=>Constant_none ⟨.non,H,I,rfl,h⟩
theorem zf3 {x j pos}:PE X (.Constant (.str x) j pos) (tC (.str x)):=fun _ _ _ H _ I h=>Calls.Constant_str ⟨.str x,H,I.tok _,⟨_,rfl⟩,h⟩
def Gl (X:Cx) (x:Str):Prop:=X.env.kindOf x=some .globalImplicit
theorem kZ {E:Value->Shared->Prop} {pins:List (Addr×Obj)} {s:Shared} {σ:St} {H:Hp} {x:Str} {u:Value} {pos:Pos} {Q:Value->Shared->Prop} (I:Inv X pins σ H s) (hg:Gl X x) (hm:X.mg x=some u) (h:Q u s)
  (hd:(x==("__debug__" : Str))=false:=by decide):wpAny 'a' X.A (eval (.Name x pos) X.env) Q E s :=
 Calls.Name_function_global I.ok.kind hg (Calls.loadGlobal_global (by rw[I.ok.glob];exact I.mod.glob.keeps I.bk) hm h) hd
theorem vQ {E:Value->Shared->Prop} {pins:List (Addr×Obj)} {s:Shared} {σ:St} {H:Hp} {x:Str} {u:Value} {pos:Pos} {Q:Value->Shared->Prop} (I:Inv X pins σ H s) (hg:Gl X x) (hm:X.mg x=none) (hv:bootBuiltins x=some u) (h:Q u s)
  (hn:x ≠ "__name__" := by decide) (hd:(x==("__debug__" : Str))=false:=by decide):wpAny 'a' X.A (eval (.Name x pos) X.env) Q E s:=by
 obtain ⟨mb,h1,h2⟩:=I.mod.blt;exact Calls.Name_function_global I.ok.kind hg (Calls.loadGlobal_builtin (by rw[I.ok.glob];exact I.mod.glob.keeps I.bk) hm (by rw[I.ok.blt];exact h1.keeps I.bk) ((h2 x hn).trans hv) h) hd
theorem zha {x:Str} {v:V} {u:Value} {pos:Pos} (hg:Gl X x) (hm:X.mg x=some u) (r:yY v u) (hd:(x==("__debug__" : Str))=false:=by decide):PE X (.Name x pos) (tC v) :=
 fun _ _ _ H _ I h=>kZ I hg hm ⟨v,H,I,r,h⟩ hd
theorem zhe {x:Str} {v:V} {u:Value} {pos:Pos} (hg:Gl X x) (hm:X.mg x=none) (hv:bootBuiltins x=some u) (r:yY v u) (hn:x ≠ "__name__" := by decide) (hd:(x==("__debug__" : Str))=false:=by decide):PE X (.Name x pos) (tC v) :=
 fun _ _ _ H _ I h=>vQ I hg hm hv ⟨v,H,I,r,h⟩ hn hd
variable {a b:Expr} {ta tb:TE} {pos:Pos}
variable {tA tB':TT} {rest:List Expr}
def tAnd (t u:TT):TT:=fun σ H Q=>t σ H fun c H1=>if c=true then u σ H1 Q else Q false H1
def tOr (t u:TT):TT:=fun σ H Q=>t σ H fun c H1=>if c=true then Q true H1 else u σ H1 Q
def tNot (t:TT):TT:=fun σ H Q=>t σ H fun c H1=>Q (!c) H1
theorem zgY (ha:PT X a tA):PW X (.BoolOp .And [a] pos) tA:=by
 intro wh pins s σ H Q I h;refine isTrue_and (xQ (ha pins s σ H Q I h) fun c s1 e=>?_)
 cases c with
 |true=>exact isTrue_and_nil e
 |false=>exact e
theorem zja (ha:PT X a tA):PW X (.BoolOp .Or [a] pos) tA:=by
 intro wh pins s σ H Q I h;refine isTrue_or (xQ (ha pins s σ H Q I h) fun c s1 e=>?_)
 cases c with
 |false=>exact isTrue_or_nil e
 |true=>exact e
theorem zfZ (ha:PT X a tA) (hb:PW X (.BoolOp .And (b::rest) pos) tB'):PW X (.BoolOp .And (a::b::rest) pos) (tAnd tA tB'):=by
 intro wh pins s σ H Q I h;refine isTrue_and (xQ (ha pins s σ H _ I h) fun c s1 ⟨H1,I1,q1⟩=>?_)
 cases c with
 |true=>exact hb wh pins s1 σ H1 Q I1 q1
 |false=>exact ⟨H1,I1,q1⟩
theorem zjb (ha:PT X a tA) (hb:PW X (.BoolOp .Or (b::rest) pos) tB'):PW X (.BoolOp .Or (a::b::rest) pos) (tOr tA tB'):=by
 intro wh pins s σ H Q I h;refine isTrue_or (xQ (ha pins s σ H _ I h) fun c s1 ⟨H1,I1,q1⟩=>?_)
 cases c with
 |true=>exact ⟨H1,I1,q1⟩
 |false=>exact hb wh pins s1 σ H1 Q I1 q1
theorem zjd (ha:PT X a tA):PT X (.UnaryOp .Not a pos) (tNot tA):=by
 intro pins s σ H Q I h;exact isTrue_not (ha pins s σ H (fun c H1=>Q (!c) H1) I h)
def ziG (ta tb:TE):TE:=fun σ H Q=>ta σ H fun x H1=>∃ c,x=.bl c/\if c=true then tb σ H1 Q else Q (.bl false) H1
def tOrV (ta tb:TE):TE:=fun σ H Q=>ta σ H fun x H1=>∃ c,x=.bl c/\if c=true then Q (.bl true) H1 else tb σ H1 Q
def tNotV (ta:TE):TE:=fun σ H Q=>ta σ H fun x H1=>∃ c,x=.bl c/\Q (.bl (!c)) H1
theorem zf4 {op} {t:TE} (h:PE X a t):PE X (.BoolOp op [a] pos) t:=fun pins s σ H Q I hw=>BoolOp_one (h pins s σ H Q I hw)
theorem zf6 (ha:PE X a ta) (hb:PE X (.BoolOp .And (b::rest) pos) tb):PE X (.BoolOp .And (a::b::rest) pos) (ziG ta tb):=by
 intro pins s σ H Q I h;refine BoolOp_and (xQ (ha pins s σ H _ I h) fun v s1 ⟨x,H1,I1,r1,q1⟩=>?_);obtain ⟨c,rfl,q1⟩:=q1;cases r1;refine Z3 ?_
 cases c with
 |true=>exact hb pins s1 σ H1 Q I1 q1
 |false=>exact ⟨.bl false,H1,I1,rfl,q1⟩
theorem zjm (ha:PE X a ta) (hb:PE X (.BoolOp .Or (b::rest) pos) tb):PE X (.BoolOp .Or (a::b::rest) pos) (tOrV ta tb):=by
 intro pins s σ H Q I h;refine BoolOp_or (xQ (ha pins s σ H _ I h) fun v s1 ⟨x,H1,I1,r1,q1⟩=>?_);obtain ⟨c,rfl,q1⟩:=q1;cases r1;refine Z3 ?_
 cases c with
 |false=>exact hb pins s1 σ H1 Q I1 q1
 |true=>exact ⟨.bl true,H1,I1,rfl,q1⟩
theorem zjn (ha:PE X a ta):PE X (.UnaryOp .Not a pos) (tNotV ta):=by
 intro pins s σ H Q I h;refine UnaryOp_ (xQ (ha pins s σ H _ I h) fun v s1 ⟨x,H1,I1,r1,q1⟩=>?_);obtain ⟨c,rfl,q1⟩:=q1;cases r1;exact not_of (Z3 ⟨.bl (!c),H1,I1,rfl,q1⟩)
end
end L2
namespace L2
open PySem PySem.Spec PyProof.Rows
def rW (K:PySem.W.Frag) (H:Hp) (a:Addr) (xs:List V):Prop :=
 Rd H a (.lst xs) \/
  ∃ (o:Obj) (its:Array Value) (n:Nat),K.lookup a=some o/\o.cls=.type "list" /\ o.dict=none/\o.data=.seq its n/\its.size<=sizeLine/\zF xs its.toList
def sP (K:PySem.W.Frag) (H:Hp) (a:Addr) (xs:List V):Prop :=
 Rd H a (.tup xs) \/
  ∃ (o:Obj) (its:Array Value) (n:Nat),K.lookup a=some o/\o.cls=.type "tuple" /\ o.data=.seq its n/\its.size<=sizeLine/\zF xs its.toList
def absV:Value->Option V
 | .none=>some .non
 | .bool b=>some (.bl b)
 | .int i _=>some (.int i)
 | .str x _=>some (.str x)
 | .bytes b _=>some (.byt b)
 | .float b _=>some (.flt b)
 | .ref a=>some (.ref a)
 | .type n=>some (.ty n)
 |_=>none
theorem yY.abs {x:V} {u:Value} (r:yY x u):absV u=some x:=by
 cases x with
 |non=>cases r;rfl
 |bl _=>cases r;rfl
 |int _=>obtain ⟨t,rfl⟩:=r;rfl
 |str _=>obtain ⟨t,rfl⟩:=r;rfl
 |byt _=>obtain ⟨t,rfl⟩:=r;rfl
 |flt _=>obtain ⟨t,rfl⟩:=r;rfl
 |ref _=>cases r;rfl
 |ty _=>cases r;rfl
theorem yY.inj {x y:V} {u:Value} (r:yY x u) (q:yY y u):x=y:=Zx (r.abs.symm.trans q.abs)
theorem zF.inj:∀ {xs ys:List V} {us:List Value},zF xs us->zF ys us->xs=ys
 |_,_,_,.nil,.nil=>rfl
 |_,_,_,.cons r t,.cons r' t'=>by rw[r.inj r',zF.inj t t']
section
variable {X:Cx} {pins:List (Addr×Obj)} {σ:St} {H:Hp} {s:Shared} {a:Addr} {xs ys:List V}
theorem rW.of {K:PySem.W.Frag} (h:H a=some (.lst xs)):rW K H a xs:=.inl (.inl h)
theorem sP.of {K:PySem.W.Frag} (h:H a=some (.tup xs)):sP K H a xs:=.inl (.inl h)
theorem Inv.list (I:Inv X pins σ H s) (h:rW X.K H a xs):∃ its:List Value,zF xs its/\PlainL s.heap a its.toArray/\xs.length<=sizeLine:=by
 rcases h with h|⟨o,its,n,hk,hc,hd,hs,hz,r⟩
 .obtain ⟨z,its,n,r,e⟩:=h.ok I.hok;exact ⟨its,r,⟨_,n,e,rfl,rfl,rfl⟩,z⟩
 .refine ⟨its.toList,r,⟨o,n,I.kIn a o hk,hc,hd,by simpa using hs⟩,?_⟩;have e:=r.length;simp only[ZB] at e;omega
theorem Inv.tuple (I:Inv X pins σ H s) (h:sP X.K H a xs):∃ its:List Value,zF xs its/\IsTup s.heap a its.toArray/\xs.length<=sizeLine:=by
 rcases h with h|⟨o,its,n,hk,hc,hs,hz,r⟩
 .obtain ⟨z,its,r,p⟩:=h.ok I.hok;exact ⟨its,r,p,z⟩
 .refine ⟨its.toList,r,⟨o,I.kIn a o hk,hc,n,by simpa using hs⟩,?_⟩;have e:=r.length;simp only[ZB] at e;omega
theorem Inv.list_inj (I:Inv X pins σ H s) (h:rW X.K H a xs) (h':rW X.K H a ys):xs=ys:=by
 obtain ⟨its,r,⟨o,n,e,_,_,d⟩,_⟩:=I.list h;obtain ⟨its',r',⟨o',n',e',_,_,d'⟩,_⟩:=I.list h';rw[e] at e';cases e';rw[d] at d'
 injection d' with d1 _
 have:its=its':=by simpa using congrArg Array.toList d1
 subst this;exact r.inj r'
theorem Inv.tuple_inj (I:Inv X pins σ H s) (h:sP X.K H a xs) (h':sP X.K H a ys):xs=ys:=by
 obtain ⟨its,r,⟨o,e,_,n,d⟩,_⟩:=I.tuple h;obtain ⟨its',r',⟨o',e',_,n',d'⟩,_⟩:=I.tuple h';rw[e] at e';cases e';rw[d] at d'
 injection d' with d1 _
 have:its=its':=by simpa using congrArg Array.toList d1
 subst this;exact r.inj r'
end
abbrev Cx.wish (X:Cx) (E:Value->Shared->Prop):Cx:={ X with xe:=E }
abbrev Cx.nox (X:Cx):Cx:=X.wish fun _ _=>False
theorem Cx.Ok.wish {X:Cx} (ok:X.Ok) (E:Value->Shared->Prop):(X.wish E).Ok :=
 ⟨ok.mod,ok.kind,ok.glob,ok.blt,ok.above,ok.inj,ok.has,ok.cab,ok.hd,ok.frames,ok.stk,ok.exf,ok.bs,ok.bsz,ok.noex,ok.exfs,ok.funs,ok.frf⟩
theorem Cx.Ok.unwish {X:Cx} {E:Value->Shared->Prop} (ok:(X.wish E).Ok):X.Ok :=
 ⟨ok.mod,ok.kind,ok.glob,ok.blt,ok.above,ok.inj,ok.has,ok.cab,ok.hd,ok.frames,ok.stk,ok.exf,ok.bs,ok.bsz,ok.noex,ok.exfs,ok.funs,ok.frf⟩
section
variable {X:Cx} {pins:List (Addr×Obj)} {σ:St} {H:Hp} {s:Shared} {E:Value->Shared->Prop}
theorem Inv.wish (I:Inv X pins σ H s) (E:Value->Shared->Prop):Inv (X.wish E) pins σ H s:=⟨I.ok.wish E,I.os,I.bare,I.base,I.loc,I.cell,I.free,I.freeC,I.pin,I.hok,I.len,I.tk⟩
theorem Inv.unwish (I:Inv (X.wish E) pins σ H s):Inv X pins σ H s:=⟨I.ok.unwish,I.os,I.bare,I.base,I.loc,I.cell,I.free,I.freeC,I.pin,I.hok,I.len,I.tk⟩
theorem SP.unwish {D:Ends} {f:Flow} {s':Shared} (h:SP (X.wish E) pins D f s'):SP X pins D f s':=by
 cases f with
 |next=>obtain ⟨σ',H',I,q⟩:=h;exact ⟨σ',H',I.unwish,q⟩
 |brk=>obtain ⟨σ',H',I,q⟩:=h;exact ⟨σ',H',I.unwish,q⟩
 |cont=>obtain ⟨σ',H',I,q⟩:=h;exact ⟨σ',H',I.unwish,q⟩
 |ret u=>obtain ⟨v,σ',H',I,r,q⟩:=h;exact ⟨v,σ',H',I.unwish,r,q⟩
theorem PE.nox {e:Expr} {t:TE} (h:PE X.nox e t):PE X e t:=fun pins s σ H Q I hw =>
 Z2 (h pins s σ H Q (I.wish _) hw) (fun _ _ ⟨v,H',I',r,q⟩=>⟨v,H',I'.unwish,r,q⟩) fun _ _ z=>False.elim z
theorem PT.nox {e:Expr} {t:TT} (h:PT X.nox e t):PT X e t:=fun pins s σ H Q I hw =>
 Z2 (h pins s σ H Q (I.wish _) hw) (fun _ _ ⟨H',I',q⟩=>⟨H',I'.unwish,q⟩) fun _ _ z=>False.elim z
theorem dM.nox {st:List Stmt} {t:TS} (h:dM X.nox st t):dM X st t:=fun pins s σ H D I hw =>
 Z2 (h pins s σ H D (I.wish _) hw) (fun _ _ q=>q.unwish) fun _ _ z=>False.elim z
end
section
variable {X:Cx} {st:Stmt} {rest:List Stmt} {t u:TS} {e:Expr} {te:TE} {pos:Pos}
def ziC:TS:=fun D σ H=>D.nx σ H
def tSeq (t u:TS):TS:=fun D σ H=>t { D with nx:=u D } σ H
theorem zcM:dM X [] ziC:=fun _ _ σ H _ I h=>ZbO ⟨σ,H,I,h⟩
theorem zba (h1:PS X st t) (h2:dM X rest u):dM X (st::rest) (tSeq t u):=by
 intro pins s σ H D I h;refine wpAny_execs_cons (xQ (h1 pins s σ H { D with nx:=u D } I h) fun f s1 q=>?_)
 cases f with
 |next =>
  obtain ⟨σ',H',I',q⟩:=q;exact h2 pins s1 σ' H' D I' q
 |ret v=>exact q
 |brk=>exact q
 |cont=>exact q
theorem zg1 (h1:PS X st t):dM X [st] t:=by
 intro pins s σ H D I h;refine wpAny_execs_cons (xQ (h1 pins s σ H D I h) fun f s1 q=>?_)
 cases f with
 |next=>exact ZbO q
 |ret v=>exact q
 |brk=>exact q
 |cont=>exact q
def ziF:TS:=fun D σ H=>D.bk σ H
def tCont:TS:=fun D σ H=>D.ct σ H
theorem zg3:PS X (.Pass pos) ziC:=fun _ _ σ H _ I h=>wpAny_Pass ⟨σ,H,I,h⟩
theorem zeJ:PS X (.Break pos) ziF:=fun _ _ σ H _ I h=>wpAny_Break ⟨σ,H,I,h⟩
theorem zaz:PS X (.Continue pos) tCont:=fun _ _ σ H _ I h=>wpAny_Continue ⟨σ,H,I,h⟩
theorem Inv.quiet {pins:List (Addr×Obj)} {σ:St} {H:Hp} {s:Shared} (I:Inv X pins σ H s):interactive X.env=false:=by simp[interactive,I.ok.kind]
def tDrop (te:TE):TS:=fun D σ H=>te σ H fun _ H1=>D.nx σ H1
theorem zg4 (he:PE X e te) (hs:swapsWith e none pos.line X.env=pure false:=by rfl):PS X (.Expr e pos) (tDrop te):=by
 intro pins s σ H D I h;exact wpAny_Expr_any (xQ (he pins s σ H _ I h) fun v s1 ⟨x,H1,I1,r1,q1⟩=>⟨σ,H1,I1,q1⟩) I.quiet hs
def tRet (te:TE):TS:=fun D σ H=>te σ H D.rt
theorem zcN (he:PE X e te):PS X (.Return (some e) pos) (tRet te):=by
 intro pins s σ H D I h;exact wpAny_Return_some (xQ (he pins s σ H _ I h) fun v s1 ⟨x,H1,I1,r1,q1⟩=>⟨x,σ,H1,I1,r1,q1⟩)
def tRetN:TS:=fun D _ H=>D.rt .non H
theorem zg2:PS X (.Return none pos) tRetN:=fun _ _ σ H _ I h=>wpAny_Return_none ⟨.non,σ,H,I,rfl,h⟩
def tIfS (c:TT) (t u:TS):TS:=fun D σ H=>c σ H fun b H1=>if b=true then t D σ H1 else u D σ H1
theorem zjf {c:Expr} {a b:List Stmt} {tc:TT} (hc:PT X c tc) (ha:dM X a t) (hb:dM X b u):PS X (.If c a b pos) (tIfS tc t u):=by
 intro pins s σ H D I h;refine wpAny_If (xQ (hc pins s σ H _ I h) fun d s1 ⟨H1,I1,q1⟩=>?_)
 cases d with
 |true=>exact ha pins s1 σ H1 D I1 q1
 |false=>exact hb pins s1 σ H1 D I1 q1
def ziD:TS:=fun _ _ _=>False
theorem zeI:PS X st ziD:=fun _ _ _ _ _ _ h=>h.elim
end
abbrev TG:=V->St->Hp->(St->Hp->Prop)->Prop
abbrev TGs:=List V->St->Hp->(St->Hp->Prop)->Prop
def PG (X:Cx) (target:Expr) (t:TG):Prop :=
 ∀ (pins:List (Addr×Obj)) (s:Shared) (σ:St) (H:Hp) (v:V) (u:Value) (Q:St->Hp->Prop),Inv X pins σ H s->yY v u->t v σ H Q ->
  wpAny 'a' X.A (assign target X.env u) (fun _ s'=>∃ σ' H',Inv X pins σ' H' s'/\Q σ' H') X.xe s
def PGs (X:Cx) (ts:List Expr) (t:TGs):Prop :=
 ∀ (pins:List (Addr×Obj)) (s:Shared) (σ:St) (H:Hp) (vs:List V) (us:List Value) (Q:St->Hp->Prop),Inv X pins σ H s->zF vs us->t vs σ H Q ->
  wpAny 'a' X.A (assignInOrder ((assignEach ts X.env).map (·.2)) us) (fun _ s'=>∃ σ' H',Inv X pins σ' H' s'/\Q σ' H') X.xe s
abbrev TSet:=V->V->V->Hp->(Hp->Prop)->Prop
def PSet (X:Cx) (t:TSet):Prop :=
 ∀ (pins:List (Addr×Obj)) (s:Shared) (σ:St) (H:Hp) (o i v:V) (ov iv u:Value) (Q:Hp->Prop),Inv X pins σ H s->yY o ov->yY i iv->yY v u->t o i v H Q ->
  wpAny 'a' X.A (setItem ov iv u) (fun _ s'=>∃ H',Inv X pins σ H' s'/\Q H') X.xe s
section
variable {X:Cx} {pos:Pos}
def zfi (i:Nat):TG:=fun v σ H Q=>Q (σ.set i (some v)) H
theorem zg9 {i:Nat} {x:Str} (hN:X.N.Nodup) (hi:X.N[i]?=some x) (hx:Loc X.env.scope x) (hf:X.fn x=true\/X.env.scope.names.lookup x=some .local:=by first|exact .inl rfl|exact .inr rfl|assumption):PG X (.Name x pos) (zfi i):=by
 intro pins s σ H v u Q I r h;exact wpAny_assign_Name (mP I hN hi hx r (fun s' I'=>⟨_,H,I',h⟩) hf)
def gNil:TGs:=fun vs σ H Q=>vs=[]/\Q σ H
def gCons (t:TG) (u:TGs):TGs:=fun vs σ H Q=>∃ v r,vs=v::r/\t v σ H fun σ' H'=>u r σ' H' Q
theorem zg8:PGs X [] gNil:=by
 intro pins s σ H vs us Q I r h;obtain ⟨e,h⟩:=h;subst e;cases r;exact assignInOrder_nil ⟨σ,H,I,h⟩
theorem zeO {e:Expr} {es:List Expr} {t:TG} {u:TGs} (h1:PG X e t) (h2:PGs X es u)
  (hs:(assignEach (e::es) X.env).map (·.2)=assign e X.env::(assignEach es X.env).map (·.2):=by rfl):PGs X (e::es) (gCons t u):=by
 intro pins s σ H vs us Q I r h;obtain ⟨v,vr,e1,h⟩:=h;subst e1
 cases r with
 |cons r rr =>
  rw[hs];refine assignInOrder_cons (xQ (h1 pins s σ H _ _ _ I r h) fun _ s1 ⟨σ1,H1,I1,q1⟩=>?_);exact h2 pins s1 σ1 H1 _ _ Q I1 rr q1
def gTup (K:PySem.W.Frag) (n:Nat) (t:TGs):TG:=fun v σ H Q=>∃ a xs,v=.ref a/\sP K H a xs/\xs.length=n/\t xs σ H Q
theorem zf0 {es:List Expr} {k:Nat} {t:TGs} {n:Nat} (hc:X.calm=true) (h:PGs X es t)
  (hn:(assignEach es X.env).length=n:=by rfl) (hst:(assignEach es X.env).findIdx? (·.1)=none:=by rfl):PG X (.Tuple es k pos) (gTup X.K n t):=by
 intro pins s σ H v u Q I r hw;obtain ⟨a,xs,e1,hq,hl,hw⟩:=hw;subst e1;cases r;obtain ⟨its,rv,ht,hz⟩:=I.tuple hq;refine assign_Tuple_tuple (I.ok.hd hc) ht (by simp[hn,← hl,rv.length]) hst fun h' hx=>?_;have I1:Inv X pins σ H { s with heap:=h' }:=I.kept (t':=s.toks) fun b o e=>hx b o (Zj (Zd e)) e;exact h pins _ σ H xs _ Q I1 (by simpa using rv) hw
def tAsg (te:TE) (g:TG):TS:=fun D σ H=>te σ H fun x H1=>g x σ H1 D.nx
theorem zjh {tg e:Expr} {te:TE} {g:TG} (he:PE X e te) (hg:PG X tg g) (hs:swapsWithSole [tg] e pos.line X.env=pure false:=by rfl) (hw:swappedStores [tg] e X.env=pure none:=by rfl)
  (h1:(assignEach [tg] X.env).map (·.2)=[assign tg X.env]:=by rfl):PS X (.Assign [tg] e pos) (tAsg te g):=by
 intro pins s σ H D I h;refine wpAny_Assign_stores (xQ (he pins s σ H _ I h) fun v s1 ⟨x,H1,I1,r1,q1⟩=>?_) hs hw;rw[h1];exact xQ (hg pins s1 σ H1 x v _ I1 r1 q1) fun _ s2 q=>q
theorem zbb {i:Nat} {x:Str} {e:Expr} {te:TE} {pos':Pos} (hN:X.N.Nodup) (hi:X.N[i]?=some x) (hx:Loc X.env.scope x) (he:PE X e te) (hs:swapsWith e (some (.Name x pos')) pos.line X.env=pure false:=by rfl) (hf:X.fn x=true\/X.env.scope.names.lookup x=some .local:=by first|exact .inl rfl|exact .inr rfl|assumption) :
  PS X (.Assign [.Name x pos'] e pos) (tAsg te (zfi i)):=by
 intro pins s σ H D I h;refine wpAny_Assign_Name (xQ (he pins s σ H _ I h) fun v s1 ⟨y,H1,I1,r1,q1⟩=>?_) hs;exact mP I1 hN hi hx r1 (fun s2 I2=>⟨_,H1,I2,q1⟩) hf
end
section
variable {X:Cx} {pos:Pos}
def ziA (c:TT) (tb:TS):TS:=fun D σ H=>∃ W:Nat->St->Hp->Prop,(∃ m,W m σ H)/\∀ m σ H,W m σ H ->
 c σ H fun b H1=>if b=true then ∃ N:St->Hp->Prop,(∀ σ' H',N σ' H'->∃ m',m' < m/\W m' σ' H')/\tb { D with nx:=N,ct:=N,bk:=D.nx } σ H1 else D.nx σ H1
theorem zeF {c:Expr} {body:List Stmt} {tc:TT} {tb:TS} (hp:PassesOwn 'a' X.A X.env X.xe) (hc:PT X c tc) (hb:dM X body tb):PS X (.While c body [] pos) (ziA tc tb):=by
 intro pins s σ H D I h;obtain ⟨W,⟨m0,w0⟩,turn⟩:=h;refine wpAny_While (codeAny_whileLoop (fun n s'=>∃ σ' H',Inv X pins σ' H' s'/\W n σ' H') ?_ m0 ⟨σ,H,I,w0⟩);rintro n s1 ⟨σ1,H1,I1,w1⟩;refine ZaN hp (xQ (hc pins s1 σ1 H1 _ I1 (turn n σ1 H1 w1)) fun b s2 ⟨H2,I2,q2⟩=>?_)
 cases b with
 |true =>
  obtain ⟨N,hN,q2⟩:=q2;rw[if_pos rfl];refine ZaN hp (xQ (hb pins s2 σ1 H2 _ I2 q2) fun f s3 q3=>?_)
  cases f with
  |next =>
   obtain ⟨σ3,H3,I3,n3⟩:=q3;obtain ⟨m',hm,w3⟩:=hN σ3 H3 n3;exact ⟨m',hm,σ3,H3,I3,w3⟩
  |cont =>
   obtain ⟨σ3,H3,I3,n3⟩:=q3;obtain ⟨m',hm,w3⟩:=hN σ3 H3 n3;exact ⟨m',hm,σ3,H3,I3,w3⟩
  |brk=>exact q3
  |ret v=>exact q3
 |false =>
  rw[if_neg zzN];exact ZbO ⟨σ1,H2,I2,q2⟩
end
structure It where
 go:Nat->Hp->Prop
 yld:Nat->Hp->V->Hp->Prop
 stop:Nat->Hp->Prop
def uJ (X:Cx) (pins:List (Addr×Obj)) (H:Hp) (b:Addr):Prop :=
 H b=none/\b≠X.env.locals/\b∉X.fs/\(b∈X.ex\/X.s₀.heap.objs.size<=b)/\(∀ x c,X.env.cells.lookup x=some c->c≠b)/\∀ p∈X.pn++pins,p.1≠b
theorem Inv.fpOk {X:Cx} {pins:List (Addr×Obj)} {σ:St} {H H':Hp} {s:Shared} {b:Addr} (I:Inv X pins σ H s) (hb:s.heap.objs.size<=b) (hn:H' b=none):uJ X pins H' b:=by
 refine ⟨hn,Z8 (Ze I.lt hb),I.nofs hb,.inr (Zn I.sz hb),fun x c e z=>?_,fun p hp z=>?_⟩
 .obtain ⟨v,q⟩:=I.cell x c e;exact absurd (Ze q.lt (by rw[z];exact hb)) (Zai _)
 .exact absurd (Ze (Zd (I.pin p hp).1) (by rw[z];exact hb)) (Zai _)
structure Turn (P:Program) (w:World) (K:PySem.W.Frag) (tg:Expr) (J:It) (fp:List Addr) (it:Addr) (tn:Nat->Heap->Prop):Prop where
 mem:it∈fp
 obj:∀ i h,tn i h->∀ b∈fp,∃ o,h.get? b=some o/\∀ v,o.data≠.cell v
 keep:∀ i h h',tn i h->(∀ b∈fp,∀ o,h.get? b=some o->h'.get? b=some o)->tn i h'
 item:∀ (X:Cx),X.prog=P->X.w=w->X.K=K->X.calm=true->∀ (i:Nat) (pins:List (Addr×Obj)) (s:Shared) (σ:St) (H:Hp) (E:Value->Shared->Prop),Inv X pins σ H s->(∀ b∈fp,uJ X pins H b)->tn i s.heap->J.go i H ->
  wpAny (model P w) X.A (pyNext (.ref it)) (fun r s1=>∃ u,r=some u /\
   wpAny (model P w) X.A (letOwnedTupleGo tg (.ref it) u) (fun _ s2=>∃ x H',Inv X pins σ H' s2/\yY x u/\J.yld i H x H'/\tn (i+1) s2.heap/\∀ b∈fp,H' b=none) E s1) E s
 done:∀ (X:Cx),X.prog=P->X.w=w->X.K=K->X.calm=true->∀ (i:Nat) (pins:List (Addr×Obj)) (s:Shared) (σ:St) (H:Hp) (E:Value->Shared->Prop),Inv X pins σ H s->(∀ b∈fp,uJ X pins H b)->tn i s.heap->J.stop i H ->
  wpAny (model P w) X.A (pyNext (.ref it)) (fun r s1=>r=none/\Inv X pins σ H s1) E s
 self:∀ (A:Around) (i:Nat) (s:Shared) (Q:Value->Shared->Prop) (E:Value->Shared->Prop),tn i s.heap->Q (.ref it) s->wpAny (model P w) A (pyIter (.ref it)) Q E s
abbrev TI:=St->Hp->(It->Hp->Prop)->Prop
def PIE (X:Cx) (pins:List (Addr×Obj)) (σ:St) (tg:Expr) (R:It->Hp->Prop) (itv:Value) (s2:Shared):Prop :=
 ∃ (it:Addr) (fp:List Addr) (tn:Nat->Heap->Prop) (J:It) (H':Hp),itv=.ref it/\Inv X pins σ H' s2/\Turn X.prog X.w X.K tg J fp it tn/\tn 0 s2.heap/\(∀ b∈fp,uJ X pins H' b)/\R J H'
def PI (X:Cx) (tg iter:Expr) (wi:TI):Prop :=
 ∀ (pins:List (Addr×Obj)) (s:Shared) (σ:St) (H:Hp) (R:It->Hp->Prop),Inv X pins σ H s->wi σ H R ->
  wpAny 'a' X.A (eval iter X.env) (fun v s1=>wpAny 'a' X.A (pyIter v) (PIE X pins σ tg R) X.xe s1) X.xe s
theorem bV {M:Model} {A:Around} {E:Value->Shared->Prop} {s:Shared} {tg:Expr} {it:Addr} {u:Value} {o:Obj} {n:String} {vs:Array Value} {Q:Unit->Shared->Prop} (ho:s.heap.get? it=some o) (hc:o.cls=.type n) (hd:o.data=.fields vs)
    (hn:["enumerate", "zip", "dict_itemiterator", "dict_reverseitemiterator", "odict_iterator", "itertools.zip_longest", "itertools.pairwise"].contains n=false) (hQ:Q () s):wpAny M A (letOwnedTupleGo tg (.ref it) u) Q E s:=by
  unfold letOwnedTupleGo
  cases tg<;>first
    |exact Zc hQ
    | (cases u<;>first
        |exact Zc hQ
        | (refine Za (ZcE ho ?_)
           rw[hc,hd];show wpAny M A (if (["enumerate", "zip", "dict_itemiterator", "dict_reverseitemiterator", "odict_iterator", "itertools.zip_longest", "itertools.pairwise"].contains n&&vs[0]?==some (rawInt _))=true then _ else _) Q E s;rw[if_neg (by intro h;rw[hn,Z6] at h;cases h)];exact Zc hQ))
def Itl (K:PySem.W.Frag) (a:Addr):It :=
 ⟨fun i H=>∃ xs x,rW K H a xs/\xs[i]?=some x,fun i H x H'=>H'=H/\∀ xs,rW K H a xs->xs[i]?=some x,fun i H=>∃ xs,rW K H a xs/\xs.length<=i⟩
def Itt (K:PySem.W.Frag) (a:Addr):It :=
 ⟨fun i H=>∃ xs x,sP K H a xs/\xs[i]?=some x,fun i H x H'=>H'=H/\∀ xs,sP K H a xs->xs[i]?=some x,fun i H=>∃ xs,sP K H a xs/\xs.length<=i⟩
def Itr (lo:Int) (n:Nat):It:=⟨fun i _=>i<n,fun i H x H'=>H'=H/\x=.int (lo+i),fun i _=>n<=i⟩
theorem zcf {P:Program} {w:World} {K:PySem.W.Frag} {tg:Expr} (a it:Addr):Turn P w K tg (Itl K a) [it] it (fun i h=>h.IsListIter it a i) where
 mem:=by simp
 obj:=fun i h st b hb=>by
  have e:b=it:=by simpa using hb
  subst e;obtain ⟨o,e,c,d⟩:=st;exact ⟨o,e,fun v z=>by rw[d] at z;cases z⟩
 keep:=fun i h h' st k=>st.at fun o e=>k it (by simp) o e
 item:=by
  intro X hP hw hK hc i pins s σ H E I hf st hg;subst hP hw hK;obtain ⟨xs,x,hq,hx⟩:=hg;obtain ⟨its,rv,p,hz⟩:=I.list hq;obtain ⟨u,hu,ru⟩:=rv.get hx;obtain ⟨f0,f1,f2,f3,f4,f5⟩:=hf it (by simp);refine wpAny_pyNext_list_item st p.isList (x:=u) (by simpa using hu) fun h' st' sb=>?_;have I1:Inv X pins σ H { s with heap:=h' }:=I.turned (t':=s.toks) (fun b o hb e=>(sb.2 b hb).trans e) f0 f1 f3 f4 f5;obtain ⟨o,e,c,d⟩:=id st';exact ⟨u,rfl,bV (s:={ s with heap:=h' }) e c d (by decide) ⟨x,H,I1,ru,⟨rfl,fun ys hy=>by rw[I.list_inj hy hq];exact hx⟩,st',fun b hb=>(hf b hb).1⟩⟩
 done:=by
  intro X hP hw hK hc i pins s σ H E I hf st hg;subst hP hw hK;obtain ⟨xs,hq,hx⟩:=hg;obtain ⟨its,rv,p,hz⟩:=I.list hq;obtain ⟨f0,f1,f2,f3,f4,f5⟩:=hf it (by simp);have hl:=rv.length;exact wpAny_pyNext_list_end (I.ok.hd hc) st p.isList (by simp;omega) fun h' eb=>⟨rfl,I.turned (t':=s.toks) (fun b o hb e=>eb b o hb e) f0 f1 f3 f4 f5⟩
 self:=fun _ _ _ _ _ st h=>wpAny_pyIter_listiter st h
theorem zbD {P:Program} {w:World} {K:PySem.W.Frag} {tg:Expr} (a it:Addr):Turn P w K tg (Itt K a) [it] it (fun i h=>h.IsTupleIter it a i) where
 mem:=by simp
 obj:=fun i h st b hb=>by
  have e:b=it:=by simpa using hb
  subst e;obtain ⟨o,e,c,d⟩:=st;exact ⟨o,e,fun v z=>by rw[d] at z;cases z⟩
 keep:=fun i h h' st k=>st.at fun o e=>k it (by simp) o e
 item:=by
  intro X hP hw hK hc i pins s σ H E I hf st hg;subst hP hw hK;obtain ⟨xs,x,hq,hx⟩:=hg;obtain ⟨its,rv,p,hz⟩:=I.tuple hq;obtain ⟨u,hu,ru⟩:=rv.get hx;obtain ⟨f0,f1,f2,f3,f4,f5⟩:=hf it (by simp);refine wpAny_pyNext_tuple_item st (show s.heap.IsTuple a its.toArray from p) (x:=u) (by simpa using hu) fun h' st' sb=>?_;have I1:Inv X pins σ H { s with heap:=h' }:=I.turned (t':=s.toks) (fun b o hb e=>(sb.2 b hb).trans e) f0 f1 f3 f4 f5;obtain ⟨o,e,c,d⟩:=id st';exact ⟨u,rfl,bV (s:={ s with heap:=h' }) e c d (by decide) ⟨x,H,I1,ru,⟨rfl,fun ys hy=>by rw[I.tuple_inj hy hq];exact hx⟩,st',fun b hb=>(hf b hb).1⟩⟩
 done:=by
  intro X hP hw hK hc i pins s σ H E I hf st hg;subst hP hw hK;obtain ⟨xs,hq,hx⟩:=hg;obtain ⟨its,rv,p,hz⟩:=I.tuple hq;obtain ⟨f0,f1,f2,f3,f4,f5⟩:=hf it (by simp);have hl:=rv.length;exact wpAny_pyNext_tuple_end (I.ok.hd hc) st (show s.heap.IsTuple a its.toArray from p) (by simp;omega) fun h' eb=>⟨rfl,I.turned (t':=s.toks) (fun b o hb e=>eb b o hb e) f0 f1 f3 f4 f5⟩
 self:=fun _ _ _ _ _ st h=>wpAny_pyIter_tupleiter st h
theorem zbE {P:Program} {w:World} {K:PySem.W.Frag} {tg:Expr} (it:Addr) (lo:Int) (n:Nat):Turn P w K tg (Itr lo n) [it] it (fun i h=>IsRangeIter h it (lo+(i:Nat) * 1) ((n:Int)-(i:Nat)) 1) where
 mem:=by simp
 obj:=fun i h st b hb=>by
  have e:b=it:=by simpa using hb
  subst e
  exact ⟨_,st,fun v z=>by
   have z':Data.fields _=Data.cell v:=z;cases z'⟩
 keep:=fun i h h' st k=>k it (by simp) _ st
 item:=by
  intro X hP hw hK hc i pins s σ H E I hf st hg;subst hP hw hK;obtain ⟨f0,f1,f2,f3,f4,f5⟩:=hf it (by simp);have W:=Walks.range (prog:=X.prog) (w:=X.w) (I.ok.hd hc) it lo 1 n;refine wE I.tk (W.item i s _ _ hg st fun v h' tk hv st' kk h0=>?_);obtain ⟨t,rfl⟩:=hv;have I1:Inv X pins σ H { s with heap:=h',toks:=tk }:=I.turned (fun b o hb e=>kk b o (by simpa using hb) e) f0 f1 f3 f4 f5;refine ⟨_,rfl,bV (s:={ s with heap:=h',toks:=tk }) (n := "range_iterator") st' rfl rfl (by decide) ⟨.int (lo+i),H,I1,⟨t,?_⟩,⟨rfl,rfl⟩,st',fun b hb=>(hf b hb).1⟩⟩;rw[Int.mul_one]
 done:=by
  intro X hP hw hK hc i pins s σ H E I hf st hg;subst hP hw hK;obtain ⟨f0,f1,f2,f3,f4,f5⟩:=hf it (by simp);exact wpAny_pyNext_range_end (I.ok.hd hc) st (by have:n<=i:=hg;omega) fun h' eb=>⟨rfl,I.turned (t':=s.toks) (fun b o hb e=>eb b o hb e) f0 f1 f3 f4 f5⟩
 self:=fun _ _ _ _ _ st h=>wpAny_pyIter_rangeiter st h
end L2
namespace L2
open PySem PySem.Spec PyProof.Rows
section
variable {X:Cx} {tg:Expr}
theorem za9 {pins:List (Addr×Obj)} {σ:St} {H:Hp} {s:Shared} {R:It->Hp->Prop} {E:Value->Shared->Prop} {lo hi:Int} {t u v:Tok} {tk:Nat} (I:Inv X pins σ H s) (h0:0<tk) (h1:-(2 ^ 62)<=lo) (h2:lo<2 ^ 62) (h3:-(2 ^ 62)<=hi) (h4:hi<2 ^ 62)
  (q:R (Itr lo (hi-lo).toNat) H):wpAny 'a' X.A (pyIter (.ref s.heap.objs.size)) (PIE X pins σ tg R) E { s with heap:=s.heap.push { cls:=.type "range", data:=.fields #[.int lo t,.int hi u,.int 1 v] },toks:=tk }:=by
 refine wpAny_pyIter_range (IsRange.new ..) (small_one h1 h2 h3 h4) ?_;have I1:Inv X pins σ H { s with heap:=s.heap.push { cls:=.type "range", data:=.fields #[.int lo t,.int hi u,.int 1 v] },toks:=tk }:=I.kept fun b o e=>Zb _ e
 refine ⟨(s.heap.push { cls:=.type "range", data:=.fields #[.int lo t,.int hi u,.int 1 v] }).objs.size,[(s.heap.push { cls:=.type "range", data:=.fields #[.int lo t,.int hi u,.int 1 v] }).objs.size],_,_,H,rfl,
  I1.kept (t':=tk) fun b o e=>Zb _ e,zbE _ lo (hi-lo).toNat,?_,fun b hb=>?_,q⟩
 .have e1:lo+((0:Nat):Int) * 1=lo:=by simp
  have e2:(((hi-lo).toNat:Nat):Int)-((0:Nat):Int)=Builtin.Range.rangeSize lo hi 1:=by rw[rangeSize_one];split<;>omega
  show IsRangeIter _ _ (lo+((0:Nat):Int) * 1) ((((hi-lo).toNat:Nat):Int)-((0:Nat):Int)) 1;rw[e1,e2];exact Zg _ rfl
 .have e:b=(s.heap.push { cls:=.type "range", data:=.fields #[.int lo t,.int hi u,.int 1 v] }).objs.size:=by simpa using hb
  subst e;exact I1.fpOk (zzR _) (I1.hok.fresh (zzR _))
def tFor (wi:TI) (g:TG) (tb:TS):TS:=fun D σ H=>wi σ H fun J H1=>∃ W:Nat->Nat->St->Hp->Prop,(∃ m,W 0 m σ H1)/\∀ i m σ H,W i m σ H ->
 (J.stop i H/\D.nx σ H)\/(J.go i H/\∃ N:St->Hp->Prop,(∀ σ' H',N σ' H'->∃ m',m' < m/\W (i+1) m' σ' H')/\∀ x H',J.yld i H x H'->g x σ H' fun σ2 H2=>tb { D with nx:=N,ct:=N,bk:=D.nx } σ2 H2)
def rM (fp:List Addr) (h:Heap):List (Addr×Obj):=fp.filterMap fun b=>(h.get? b).map fun o=>(b,o)
theorem vT {fp:List Addr} {h:Heap} {b:Addr} {o:Obj} (hb:b∈fp) (e:h.get? b=some o):(b,o)∈rM fp h:=ZbT.mpr ⟨b,hb,by rw[e];rfl⟩
theorem zcS {fp:List Addr} {h:Heap} {p:Addr×Obj} (hp:p∈rM fp h):p.1∈fp/\h.get? p.1=some p.2:=by
 obtain ⟨b,hb,e⟩:=ZbT.mp hp
 cases q:h.get? b with
 |none=>rw[q] at e;cases e
 |some o =>
  rw[q] at e;have e':(b,o)=p:=Zx e;subst e';exact ⟨hb,q⟩
theorem Inv.pinned {pins:List (Addr×Obj)} {σ:St} {H:Hp} {s:Shared} {fp:List Addr} (I:Inv X pins σ H s) (hf:∀ b∈fp,uJ X pins H b) (ho:∀ b∈fp,∃ o,s.heap.get? b=some o/\∀ v,o.data≠.cell v):Inv X (pins++rM fp s.heap) σ H s :=
 I.pins_of fun p hp=>(ZE.mp hp).elim (fun z=>I.pin p (Zv _ z)) fun z=>by
  obtain ⟨hb,e⟩:=zcS z;obtain ⟨f0,f1,f2,_⟩:=hf p.1 hb;obtain ⟨o,e',d⟩:=ho p.1 hb;rw[e] at e';cases e';exact ⟨e,f0,f1,f2,d⟩
theorem Inv.unpinned {pins pl:List (Addr×Obj)} {σ:St} {H:Hp} {s:Shared} (I:Inv X (pins++pl) σ H s):Inv X pins σ H s:=I.pins_of fun p hp=>I.pin p (Zv _ (ZT _ hp))
theorem zjg {iter:Expr} {body:List Stmt} {wi:TI} {g:TG} {tb:TS} {pos:Pos} (hp:PassesOwn 'a' X.A X.env X.xe) (hc:X.calm=true) (hi:PI X tg iter wi) (hg:PG X tg g) (hb:dM X body tb)
  (hs:∀ x,foldedSetIterable iter X.env x=pure x:=by intro _;rfl):PS X (.For tg iter body [] pos) (tFor wi g tb):=by
 intro pins s σ H D I h;refine wpAny_For (xQ (hi pins s σ H _ I h) fun v s1 h1=>xQ h1 fun itv s2 h2=>?_) hs;obtain ⟨it,fp,tn,J,H2,e,I2,T,st2,f2,W,⟨m0,w0⟩,turn⟩:=h2;subst e;have stat:∀ {H':Hp},(∀ b∈fp,H' b=none)->∀ b∈fp,uJ X pins H' b:=fun hn b hb=>⟨hn b hb,(f2 b hb).2⟩;refine codeAny_forLoop_any (fun n s'=>∃ i σ' H',Inv X pins σ' H' s'/\tn i s'.heap/\(∀ b∈fp,H' b=none)/\W i n σ' H') ?_ m0 ⟨0,σ,H2,I2,st2,fun b hb=>(f2 b hb).1,w0⟩;rintro n s3 ⟨i,σ3,H3,I3,st3,fr3,w3⟩;rcases turn i n σ3 H3 w3 with ⟨stop,qn⟩|⟨go,N,hN,step⟩
 .refine ZaN hp (xQ (T.done X rfl rfl rfl hc i pins s3 σ3 H3 X.xe I3 (stat fr3) st3 stop) fun r s4 ⟨hr,I4⟩=>?_);subst hr;exact ZbO ⟨σ3,H3,I4,qn⟩
 .refine ZaN hp (xQ (T.item X rfl rfl rfl hc i pins s3 σ3 H3 X.xe I3 (stat fr3) st3 go) fun r s4 ⟨u,hr,h4⟩=>?_);subst hr;refine ZaN hp (xQ h4 fun _ s5 ⟨x,H5,I5,r5,y5,st5,fr5⟩=>?_);have I5':=I5.pinned (stat fr5) (T.obj _ _ st5);refine ZaN hp (xQ (hg _ s5 σ3 H5 x u _ I5' r5 (step x H5 y5)) fun _ s6 ⟨σ6,H6,I6,q6⟩=>?_);refine ZaN hp (xQ (hb _ s6 σ6 H6 _ I6 q6) fun f s7 q7=>?_)
  have again:∀ {σ7:St} {H7:Hp},Inv X (pins++rM fp s5.heap) σ7 H7 s7->N σ7 H7->∃ m,m<n/\∃ i σ' H',Inv X pins σ' H' s7/\tn i s7.heap/\(∀ b∈fp,H' b=none)/\W i m σ' H':=fun {σ7 H7} I7 n7=>by
   obtain ⟨m',hm,w7⟩:=hN σ7 H7 n7;refine ⟨m',hm,i+1,σ7,H7,I7.unpinned,T.keep _ _ _ st5 fun b hb o e=>(I7.pin (b,o) (Zv _ (Zv _ (vT hb e)))).1,fun b hb=>?_,w7⟩;obtain ⟨o,e,d⟩:=T.obj _ _ st5 b hb;exact (I7.pin (b,o) (Zv _ (Zv _ (vT hb e)))).2.1
  cases f with
  |next=>obtain ⟨σ7,H7,I7,n7⟩:=q7;exact again I7 n7
  |cont=>obtain ⟨σ7,H7,I7,n7⟩:=q7;exact again I7 n7
  |brk=>obtain ⟨σ7,H7,I7,q7⟩:=q7;exact ⟨σ7,H7,I7.unpinned,q7⟩
  |ret v=>obtain ⟨x7,σ7,H7,I7,r7,q7⟩:=q7;exact ⟨x7,σ7,H7,I7.unpinned,r7,q7⟩
end
end L2
namespace L2
open PySem PySem.Spec PyProof.Rows
abbrev R2:=V->V->Hp->VK->Prop
def uM (X:Cx) (f:Value->Value->Sem Value) (r:R2):Prop :=
 ∀ (pins:List (Addr×Obj)) (s:Shared) (σ:St) (H:Hp) (x y:V) (v u:Value) (Q:VK),Inv X pins σ H s->yY x v->yY y u->r x y H Q ->
  wpAny 'a' X.A (f v u) (EP X pins σ Q) X.xe s
def UnR (X:Cx) (f:Value->Sem Value) (r:V->Hp->VK->Prop):Prop :=
 ∀ (pins:List (Addr×Obj)) (s:Shared) (σ:St) (H:Hp) (x:V) (v:Value) (Q:VK),Inv X pins σ H s->yY x v->r x H Q ->
  wpAny 'a' X.A (f v) (EP X pins σ Q) X.xe s
def xB (X:Cx) (f:Value) (r:List V->Hp->VK->Prop):Prop :=
 ∀ (pins:List (Addr×Obj)) (s:Shared) (σ:St) (H:Hp) (xs:List V) (us:List Value) (Q:VK),Inv X pins σ H s->zF xs us->r xs H Q ->
  wpAny 'a' X.A (call f us) (EP X pins σ Q) X.xe s
def TruR (X:Cx) (r:V->Hp->(Bool->Hp->Prop)->Prop):Prop :=
 ∀ (pins:List (Addr×Obj)) (s:Shared) (σ:St) (H:Hp) (x:V) (v:Value) (Q:Bool->Hp->Prop),Inv X pins σ H s->yY x v->r x H Q ->
  wpAny 'a' X.A (truthy v) (TP X pins σ Q) X.xe s
def tOp (r:R2) (ta tb:TE):TE:=fun σ H Q=>ta σ H fun x H1=>tb σ H1 fun y H2=>r x y H2 Q
def tUn (r:V->Hp->VK->Prop) (ta:TE):TE:=fun σ H Q=>ta σ H fun x H1=>r x H1 Q
def rI (C:Int->Int->Prop) (g:Int->Int->V):R2:=fun x y H Q=>∃ i j,x=.int i/\y=.int j/\C i j/\Q (g i j) H
def rI0 (g:Int->Int->V):R2:=fun x y H Q=>∃ i j,x=.int i/\y=.int j/\Q (g i j) H
def rU (g:Int->V):V->Hp->VK->Prop:=fun x H Q=>∃ i,x=.int i/\Q (g i) H
section
variable {X:Cx} {a b c:Expr} {ta tb tc:TE} {pos:Pos}
theorem binT (ha:PE X a ta) (hb:PE X b tb) {pins:List (Addr×Obj)} {s:Shared} {σ:St} {H:Hp} {R:V->V->Hp->Prop} (I:Inv X pins σ H s)
  (h:ta σ H fun x H1=>tb σ H1 fun y H2=>R x y H2) {Q:Value->Shared->Prop} {f:Value->Value->Sem Value}
  (hf:∀ v u s2 x y H2,Inv X pins σ H2 s2->yY x v->yY y u->R x y H2->wpAny 'a' X.A (f v u) Q X.xe s2) :
  wpAny 'a' X.A (eval a X.env) (fun v s₁=>wpAny 'a' X.A (eval b X.env) (fun u s₂=>wpAny 'a' X.A (f v u) Q X.xe s₂) X.xe s₁) X.xe s:=by
 refine xQ (ha pins s σ H _ I h) fun v s1 ⟨x,H1,I1,r1,q1⟩=>?_;refine xQ (hb pins s1 σ H1 _ I1 q1) fun u s2 ⟨y,H2,I2,r2,q2⟩=>?_;exact hf v u s2 x y H2 I2 r1 r2 q2
theorem pe_op {op:Operator} {r:R2} (ho:uM X (binaryOp op) r) (ha:PE X a ta) (hb:PE X b tb):PE X (.BinOp a op b pos) (tOp r ta tb):=by
 intro pins s σ H Q I h;exact wpAny_BinOp (binT ha hb I h fun v u s2 x y H2 I2 rx ry q=>ho pins s2 σ H2 x y v u Q I2 rx ry q)
theorem zjl {op:UnaryOp} {r:V->Hp->VK->Prop} (ho:UnR X (unaryOp op) r) (ha:PE X a ta):PE X (.UnaryOp op a pos) (tUn r ta):=by
 intro pins s σ H Q I h;exact UnaryOp_ (xQ (ha pins s σ H _ I h) fun v s1 ⟨x,H1,I1,r1,q1⟩=>ho pins s1 σ H1 x v Q I1 r1 q1)
theorem opI {f:Value->Value->Sem Value} {C:Int->Int->Prop} {g:Int->Int->Int}
  (rule:∀ (i j:Int) (t u:Tok) (s:Shared) (Q:Value->Shared->Prop) (E:Value->Shared->Prop),C i j->Q (.int (g i j) s.toks) { s with toks:=s.toks+1 }->wpAny 'a' X.A (f (.int i t) (.int j u)) Q E s) :
  uM X f (rI C fun i j=>.int (g i j)):=by
 intro pins s σ H x y v u Q I rx ry h;obtain ⟨i,j,rfl,rfl,hc,q⟩:=h;obtain ⟨t,rfl⟩:=rx;obtain ⟨t',rfl⟩:=ry;exact rule i j t t' s _ _ hc ⟨.int (g i j),H,I.tok _,⟨_,rfl⟩,q⟩
theorem opI0 {f:Value->Value->Sem Value} {g:Int->Int->Int}
  (rule:∀ (i j:Int) (t u:Tok) (s:Shared) (Q:Value->Shared->Prop) (E:Value->Shared->Prop),Q (.int (g i j) s.toks) { s with toks:=s.toks+1 }->wpAny 'a' X.A (f (.int i t) (.int j u)) Q E s) :
  uM X f (rI0 fun i j=>.int (g i j)):=by
 intro pins s σ H x y v u Q I rx ry h;obtain ⟨i,j,rfl,rfl,q⟩:=h;obtain ⟨t,rfl⟩:=rx;obtain ⟨t',rfl⟩:=ry;exact rule i j t t' s _ _ ⟨.int (g i j),H,I.tok _,⟨_,rfl⟩,q⟩
theorem opB0 {f:Value->Value->Sem Value} {g:Int->Int->Bool}
  (rule:∀ (i j:Int) (t u:Tok) (s:Shared) (Q:Value->Shared->Prop) (E:Value->Shared->Prop),Q (.bool (g i j)) s->wpAny 'a' X.A (f (.int i t) (.int j u)) Q E s) :
  uM X f (rI0 fun i j=>.bl (g i j)):=by
 intro pins s σ H x y v u Q I rx ry h;obtain ⟨i,j,rfl,rfl,q⟩:=h;obtain ⟨t,rfl⟩:=rx;obtain ⟨t',rfl⟩:=ry;exact rule i j t t' s _ _ ⟨.bl (g i j),H,I,rfl,q⟩
def CDiv (i j:Int):Prop:=0<j/\j<1073741824
def CPow (i j:Int):Prop:=0<=j/\j<=1000000/\i.natAbs<2 ^ 64
def CMul (i j:Int):Prop:=(-(2 ^ 64)<i/\i<2 ^ 64)\/(-(2 ^ 64)<j/\j<2 ^ 64)
theorem CMul.ok {i j:Int} (h:CMul i j):IntMulOk i j:=by
 rcases h with ⟨h1,h2⟩|⟨h1,h2⟩
 .exact .of_left (intBits_le_64 h1 h2)
 .exact .of_right (intBits_le_64 h1 h2)
theorem zjD:uM X (binaryOp .Add) (rI0 fun i j=>.int (i+j)):=opI0 fun _ _ _ _ _ _ _ q=>add_int q
theorem zjx:uM X (binaryOp .Sub) (rI0 fun i j=>.int (i-j)):=opI0 fun _ _ _ _ _ _ _ q=>sub_int q
theorem zjA:uM X (binaryOp .Mult) (rI CMul fun i j=>.int (i * j)):=opI fun _ _ _ _ _ _ _ hc q=>mul_int q hc.ok
theorem zhi:uM X (binaryOp .FloorDiv) (rI CDiv fun i j=>.int (i / j)):=opI fun i j _ _ _ _ _ hc q=>by
 have h1:(0:Int)<j:=hc.1;have h2:j<1073741824:=hc.2;exact floordiv_int (by omega) (by rw[Int.fdiv_eq_ediv_of_nonneg i (by omega)];exact q) (.inl (PyProof.noPylong_small (by omega)))
theorem zjB:uM X (binaryOp .Mod) (rI (fun _ j=>0<j) fun i j=>.int (i % j)):=opI fun i j _ _ _ _ _ hc q=>by
 have h1:(0:Int)<j:=hc;exact mod_int' (by omega) (by rw[Int.fmod_eq_emod_of_nonneg i (by omega)];exact q)
theorem zjz:uM X (binaryOp .Pow) (rI CPow fun i j=>.int (i ^ j.toNat)):=opI fun _ _ _ _ _ _ _ hc q=>pow_int_small hc.1 hc.2.1 hc.2.2 q
theorem unI {f:Value->Sem Value} {g:Int->Int}
  (rule:∀ (i:Int) (t:Tok) (s:Shared) (Q:Value->Shared->Prop) (E:Value->Shared->Prop),Q (.int (g i) s.toks) { s with toks:=s.toks+1 }->wpAny 'a' X.A (f (.int i t)) Q E s) :
  UnR X f (rU fun i=>.int (g i)):=by
 intro pins s σ H x v Q I rx h;obtain ⟨i,rfl,q⟩:=h;obtain ⟨t,rfl⟩:=rx;exact rule i t s _ _ ⟨.int (g i),H,I.tok _,⟨_,rfl⟩,q⟩
theorem zfJ:UnR X (unaryOp .USub) (rU fun i=>.int (-i)):=unI fun _ _ _ _ _ q=>neg_int q
end
section
variable {X:Cx} {a b c:Expr} {ta tb tc:TE} {pos:Pos}
theorem zkr {pins:List (Addr×Obj)} {σ:St} {H:Hp} {s:Shared} {Q:VK} {k k':Bool} (I:Inv X pins σ H s) (q:Q (.bl k) H) (e:k=k'):EP X pins σ Q (.bool k') s:=by
 subst e;exact ⟨.bl k,H,I,rfl,q⟩
theorem op_lt:uM X (compareOp .Lt) (rI0 fun i j=>.bl (decide (i<j))):=opB0 fun _ _ _ _ _ _ _ q=>lt_int q
theorem op_le:uM X (compareOp .LtE) (rI0 fun i j=>.bl (decide (i<=j))):=opB0 fun _ _ _ _ _ _ _ q=>le_int q
theorem op_gt:uM X (compareOp .Gt) (rI0 fun i j=>.bl (decide (j<i))):=opB0 fun _ _ _ _ _ _ _ q=>gt_int q
theorem op_ge:uM X (compareOp .GtE) (rI0 fun i j=>.bl (decide (j<=i))):=opB0 fun _ _ _ _ _ _ _ q=>ge_int q
theorem zcR:uM X (compareOp .In) (fun x y H Q=>∃ i j,x=.str i/\y=.str j/\Q (.bl (!(Builtin.Str.occurrences j i 0 j.length 1).isEmpty)) H):=by
 intro pins s σ H x y v u Q I rx ry h;obtain ⟨i,j,rfl,rfl,q⟩:=h;obtain ⟨t,rfl⟩:=rx;obtain ⟨t',rfl⟩:=ry;exact in_str (zkr I q rfl)
theorem zhc {op:CmpOp} {r:R2} (ho:uM X (compareOp op) r) (ha:PE X a ta) (hb:PE X b tb) (hm:behindInMarks op b=false):PE X (.Compare a [op] [b] pos) (tOp r ta tb):=by
 intro pins s σ H Q I h;exact wpAny_Compare1 (binT ha hb I h fun v u s2 x y H2 I2 rx ry q=>ho pins s2 σ H2 x y v u Q I2 rx ry q) hm
def ziB (t:TE):TT:=fun σ H Q=>t σ H fun x H'=>∃ k,x=.bl k/\Q k H'
theorem zg0 {op:CmpOp} {r:R2} (ho:uM X (compareOp op) r) (ha:PE X a ta) (hb:PE X b tb) (hm:behindInMarks op b=false):PT X (.Compare a [op] [b] pos) (ziB (tOp r ta tb)):=by
 intro pins s σ H Q I h
 refine wpAny_isTrue_Compare1 (xQ (ha pins s σ H _ I h) fun v s1 ⟨x,H1,I1,r1,q1⟩=>xQ (hb pins s1 σ H1 _ I1 q1) fun u s2 ⟨y,H2,I2,r2,q2⟩ =>
  xQ (ho pins s2 σ H2 x y v u _ I2 r1 r2 q2) fun c s3 ⟨z,H3,I3,r3,k,e,q3⟩=>?_) hm
 subst e;cases r3;exact Z3 ⟨H3,I3,q3⟩
def zcm (r r':R2) (ta tb tc:TE):TE:=fun σ H Q=>ta σ H fun x H1=>tb σ H1 fun y H2=>r x y H2 fun z H3=>∃ k,z=.bl k /\
 (if k=true then tc σ H3 fun w' H4=>r' y w' H4 Q else Q (.bl false) H3)
theorem zeS {op op':CmpOp} {r r':R2} (ho:uM X (compareOp op) r) (ho':uM X (compareOp op') r') (ha:PE X a ta) (hb:PE X b tb) (hc:PE X c tc)
  (hm:lastMarks [op,op'] [b,c]=false:=by with_unfolding_all rfl):PE X (.Compare a [op,op'] [b,c] pos) (zcm r r' ta tb tc):=by
 intro pins s σ H Q I h
 refine Compare_chain (xQ (ha pins s σ H _ I h) fun v s1 ⟨x,H1,I1,r1,q1⟩=>chain_link (xQ (hb pins s1 σ H1 _ I1 q1) fun u s2 ⟨y,H2,I2,r2,q2⟩ =>
  xQ (ho pins s2 σ H2 x y v u _ I2 r1 r2 q2) fun d s3 ⟨z,H3,I3,r3,k,e,q3⟩=>?_)) hm
 subst e;cases r3;refine Z3 ?_
 cases k with
 |false=>exact ite_ff ⟨.bl false,H3,I3,rfl,q3⟩
 |true=>exact ite_tt (chain_last (xQ (hc pins s3 σ H3 _ I3 q3) fun w' s4 ⟨z',H4,I4,r4,q4⟩=>ho' pins s4 σ H4 y z' u w' Q I4 r2 r4 q4))
theorem zeE {op op':CmpOp} {r r':R2} (ho:uM X (compareOp op) r) (ho':uM X (compareOp op') r') (ha:PE X a ta) (hb:PE X b tb) (hc:PE X c tc)
  (hm:lastMarks [op,op'] [b,c]=false:=by with_unfolding_all rfl):PT X (.Compare a [op,op'] [b,c] pos) (ziB (zcm r r' ta tb tc)):=by
 intro pins s σ H Q I h
 refine isTrue_chain (xQ (ha pins s σ H _ I h) fun v s1 ⟨x,H1,I1,r1,q1⟩=>test_link (xQ (hb pins s1 σ H1 _ I1 q1) fun u s2 ⟨y,H2,I2,r2,q2⟩ =>
  xQ (ho pins s2 σ H2 x y v u _ I2 r1 r2 q2) fun d s3 ⟨z,H3,I3,r3,k,e,q3⟩=>?_)) hm
 subst e;cases r3;refine Z3 ?_
 cases k with
 |false =>
  obtain ⟨k',e',q'⟩:=q3;cases e';exact ite_ff ⟨H3,I3,q'⟩
 |true =>
  refine ite_tt (test_last (xQ (hc pins s3 σ H3 _ I3 q3) fun w' s4 ⟨z',H4,I4,r4,q4⟩=>xQ (ho' pins s4 σ H4 y z' u w' _ I4 r2 r4 q4) fun d' s5 ⟨z2,H5,I5,r5,k2,e2,q5⟩=>?_));subst e2;cases r5;exact Z3 ⟨H5,I5,q5⟩
def TruV (K:PySem.W.Frag) (x:V) (H:Hp) (k:Bool):Prop :=
 match x with
 | .non=>k=false
 | .bl b=>k=b
 | .int i=>k=(i != 0)
 | .str y=>y.length<=sizeLine/\k=((y.length:Int) != 0)
 | .byt y=>y.size<=sizeLine/\k=((y.size:Int) != 0)
 | .ref p=>(∃ xs,rW K H p xs/\k=!xs.isEmpty)\/(∃ xs,sP K H p xs/\k=!xs.isEmpty)\/∃ kvs,H p=some (.dK kvs)/\k=!kvs.isEmpty
 |_=>False
theorem zbV {κ:Type} {kvs:List (κ×V)} {vs:List (κ×Value)} (r:KV kvs vs):(!vs.isEmpty)=!kvs.isEmpty:=by
 cases r<;>rfl
theorem fT {xs:List V} {its:List Value} (r:zF xs its):(!its.toArray.isEmpty)=!xs.isEmpty:=by
 cases r<;>simp
theorem sX:(sizeLine:Nat)<2 ^ 63:=by rw[Zt];decide
theorem zit:TruR X (fun x H Q=>∃ k,TruV X.K x H k/\Q k H):=by
 intro pins s σ H x v Q I rx h;obtain ⟨k,e,q⟩:=h;have hl:=sX;have hs:sizeLine=16777216:=Zt
 cases x with
 |non =>
  cases rx;have e':k=false:=e;subst e';exact truthy_none ⟨H,I,q⟩
 |bl b =>
  cases rx;have e':k=b:=e;subst e';exact Z3 ⟨H,I,q⟩
 |int i =>
  obtain ⟨t,rfl⟩:=rx;have e':k=(i != 0):=e;subst e';exact PySem.P.truthy_int ⟨H,I,q⟩
 |str y =>
  obtain ⟨t,rfl⟩:=rx;obtain ⟨hy,e'⟩:y.length<=sizeLine/\k=((y.length:Int) != 0):=e;subst e';exact PySem.P.truthy_str (by omega) ⟨H,I.tok _,q⟩
 |byt y =>
  obtain ⟨t,rfl⟩:=rx;obtain ⟨hy,e'⟩:y.size<=sizeLine/\k=((y.size:Int) != 0):=e;subst e';exact PySem.W.truthy_bytes (by omega) ⟨H,I.tok _,q⟩
 |ref p =>
  cases rx;have e':(∃ xs,rW X.K H p xs/\k=!xs.isEmpty)\/(∃ xs,sP X.K H p xs/\k=!xs.isEmpty)\/∃ kvs,H p=some (.dK kvs)/\k=!kvs.isEmpty:=e;rcases e' with ⟨xs,hx,e'⟩|⟨xs,hx,e'⟩|⟨kvs,hx,e'⟩
  .subst e';obtain ⟨its,r,pl,hz⟩:=I.list hx;have hlen:=r.length;exact wpAny_truthy_list pl.isList (by simp only[zzS];omega) ⟨H,I.tok _,by rw[fT r];exact q⟩
  .subst e';obtain ⟨its,r,pl,hz⟩:=I.tuple hx;have hlen:=r.length;exact truthy_tuple pl (by simp only[zzS];omega) ⟨H,I.tok _,by rw[fT r];exact q⟩
  .subst e';obtain ⟨hz,hS,vs,r,m⟩:kvs.length<=sizeLine/\(p==sysModules)=false/\∃ vs,KV kvs vs/\s.heap.DictOf (xN X.prog X.w) p vs:=I.hok p _ hx;have hlen:kvs.length=vs.length:=Zb7 r;exact wpAny_truthy_dict hS m (by omega) ⟨H,I.tok _,by rw[zbV r];exact q⟩
 |_=>exact (show False from e).elim
theorem zeD (ha:PE X a ta) (he:∀ whole,isTrue a X.env whole=(do let v ← whole;standAt a.pos;holding [v] (truthy v))) :
  PT X a (fun σ H Q=>ta σ H fun x H'=>∃ k,TruV X.K x H' k/\Q k H'):=by
 intro pins s σ H Q I h;exact isTrue_plain (xQ (ha pins s σ H _ I h) fun v s1 ⟨x,H1,I1,r1,q1⟩=>zit pins s1 σ H1 x v Q I1 r1 q1) (he _)
theorem zbP:uM X (binaryOp .Add) (fun x y H Q=>∃ i j,x=.str i/\y=.str j/\i.length+j.length<=sizeLine/\Q (.str (i++j)) H):=by
 intro pins s σ H x y v u Q I rx ry h;obtain ⟨i,j,rfl,rfl,hz,q⟩:=h;obtain ⟨t,rfl⟩:=rx;obtain ⟨t',rfl⟩:=ry;exact wE I.tk (add_str (fun t' tk h0=>⟨.str (i++j),H,I.tok _ h0,⟨_,rfl⟩,q⟩) hz)
theorem jL {x:V} {us:List Value} (r:zF [x] us):∃ u,us=[u]/\yY x u:=by
 cases r with
 |cons r1 r2=>cases r2;exact ⟨_,rfl,r1⟩
theorem mZ {x y:V} {us:List Value} (r:zF [x,y] us):∃ u w',us=[u,w']/\yY x u/\yY y w':=by
 cases r with
 |cons r1 r2 =>
  cases r2 with
  |cons r3 r4=>cases r4;exact ⟨_,_,rfl,r1,r3⟩
theorem zdT (hc:X.calm=true):xB X (.builtin "max") (fun xs H Q=>∃ i j,xs=[.int i,.int j]/\Q (.int (if j > i then j else i)) H):=by
 intro pins s σ H xs us Q I r h;obtain ⟨i,j,rfl,q⟩:=h;obtain ⟨u,w',rfl,⟨t,rfl⟩,⟨t',rfl⟩⟩:=mZ r;refine wE I.tk (max_two_ints (I.ok.hd hc) fun h' tk k h0=>⟨_,H,I.kept k h0,?_,q⟩)
 by_cases hj:j > i
 .rw[if_pos hj,if_pos hj];exact ⟨_,rfl⟩
 .rw[if_neg hj,if_neg hj];exact ⟨_,rfl⟩
end
end L2
namespace L2
open PySem PySem.Spec PyProof.Rows
section
variable {prog:Program} {w:World} {A:Around} {E:Value->Shared->Prop} {s:Shared} {K:PySem.W.Frag} {x dx C f:Addr} {mA:Str->Option Value} {name:Str} {v:Value}
end
theorem dN.some_of {v:V} {o:Option Value} (r:dN (some v) o):∃ u,o=some u/\yY v u:=by
 cases o with
 |none=>exact (show False from r).elim
 |some u=>exact ⟨u,rfl,r⟩
section
variable {P:Program} {w:World} {H H':Hp} {h h':Heap} {a C dx:Addr} {fs fs':List (Str×V)}
end
structure Cls (K:PySem.W.Frag) (C:Addr):Prop where
 pg:PySem.W.plainGet K C Str.empty=true
 hd:PySem.W.hasDictIn K C=true
 po:PySem.W.plainOver K C=true
 sa:PySem.W.findIn K (.ref C) "__setattr__" = some (some (.builtin "object.__setattr__"))
def zgt (K:PySem.W.Frag) (C:Addr) (f:Str):Prop:=PySem.W.findIn K (.ref C) f=some none
section
variable {X:Cx} {pins:List (Addr×Obj)} {σ:St} {H:Hp} {s:Shared} {a C dx:Addr} {fs:List (Str×V)} {f:Str} {v:V} {A:Around} {E:Value->Shared->Prop}
end
section
variable {X:Cx} {o e value:Expr} {f:Str} {pos pos' tpos:Pos} {ta tv:TE}
end
section
variable {X:Cx} {pins:List (Addr×Obj)} {σ:St} {H:Hp} {s:Shared} {A:Around} {E:Value->Shared->Prop} {Q:Value->Shared->Prop} {c:Value} {b:Bool}
end
end L2
namespace L2
open PySem PySem.Spec PyProof.Rows
structure Room (k:Nat) (A:Around):Prop where
 gd:A.guards=some []
 hd:A.handled=none
 dp:A.depth+3 * k+5<recursionLimit
 un:A.units+16 * k+200<cLine
theorem Room.mono {j k:Nat} {A:Around} (r:Room k A) (h:j<=k):Room j A:=⟨r.gd,r.hd,by have:=r.dp;omega,by have:=r.un;omega⟩
theorem Room.deeper {k:Nat} {A:Around} (r:Room (k+1) A) (env:Env):Room k (A.deeper env) :=
 ⟨r.gd,r.hd,by have:=r.dp;show A.depth+1+3 * k+5<_;omega,by have:=r.un;show A.units+3+16 * k+200<_;omega⟩
theorem Room.depth {k:Nat} {A:Around} (r:Room k A):A.depth<recursionLimit:=by have:=r.dp;omega
def tNil:TA:=fun _ H Q=>Q [] H
def tCons (ta:TE) (tr:TA):TA:=fun σ H Q=>ta σ H fun x H1=>tr σ H1 fun xs H2=>Q (x::xs) H2
section
variable {X:Cx} {e:Expr} {es:List Expr} {te:TE} {t:TA} {pos:Pos}
theorem zcP:PA X [] tNil:=fun _ _ _ _ H Q I h=>Zb1 ⟨[],H,I,.nil,h⟩
theorem nM (ha:PE X e te) (hr:PA X es t) (hs:starEach (e::es) X.env=(false,eval e X.env)::starEach es X.env:=by rfl):PA X (e::es) (tCons te t):=by
 intro pos pins s σ H Q I h;rw[hs];show wpAny _ _ (spliced ((false,eval e X.env)::backTo pos (starEach es X.env))) _ _ s;refine ZbP (xQ (ha pins s σ H _ I h) fun u s1 ⟨x,H1,I1,r1,q1⟩=>?_);exact xQ (hr pos pins s1 σ H1 _ I1 q1) fun us s2 ⟨xs,H2,I2,r2,q2⟩=>⟨x::xs,H2,I2,.cons r1 r2,q2⟩
def tTup (t:TA):TE:=fun σ H Q=>t σ H fun xs H1=>xs.length<=sizeLine/\∀ p,H1 p=none->Q (.ref p) (xP H1 p (.tup xs))
def tLst (t:TA):TE:=fun σ H Q=>t σ H fun xs H1=>xs.length<=sizeLine/\∀ p,H1 p=none->Q (.ref p) (xP H1 p (.lst xs))
theorem zf2 {x1} (h:PA X es t):PE X (.Tuple es x1 pos) (tTup t):=by
 intro pins s σ H Q I hq;refine wpAny_Tuple_spliced (xQ (h pos pins s σ H _ I hq) fun us s1 ⟨xs,H1,I1,r,z,q⟩=>⟨by rw[← r.length];exact z,?_⟩);have hf:H1 s1.heap.objs.size=none:=I1.hok.fresh (zzR _);refine ⟨.ref s1.heap.objs.size,xP H1 s1.heap.objs.size (.tup xs),I1.laid (t':=s1.toks) (fun b u e=>Zb _ e) (zzR _) ?_,rfl,q _ hf⟩;exact ⟨z,us,r,⟨_,Zg _ rfl,rfl,_,rfl⟩⟩
theorem zjp (h:PA X es t):PE X (.List es pos) (tLst t):=by
 intro pins s σ H Q I hq;refine wpAny_List_spliced (xQ (h pos pins s σ H _ I hq) fun us s1 ⟨xs,H1,I1,r,z,q⟩=>⟨by rw[← r.length];exact z,?_⟩);have hf:H1 s1.heap.objs.size=none:=I1.hok.fresh (zzR _);refine ⟨.ref s1.heap.objs.size,xP H1 s1.heap.objs.size (.lst xs),I1.laid (t':=s1.toks) (fun b u e=>Zb _ e) (zzR _) ?_,rfl,q _ hf⟩;exact ⟨z,us,0,r,Zg _ rfl⟩
end
abbrev Sp:=List V->Hp->VK->XK->Prop
abbrev CXT:=List Env->Hp->Shared->XK->Value->Shared->Prop
structure Env0 (P:Program) (w:World) (K:PySem.W.Frag) (mg:Str->Option Value) (base:Heap) (A:Around) (outer:List Env) (s:Shared) (H:Hp):Prop where
 frames:A.frames=some outer
 mod:Mod K mg base
 bs:∀ b o,base.get? b=some o->s.heap.get? b=some o/\H b=none
 bsz:base.objs.size<=s.heap.objs.size
 funs:s.heap.FunFrames base outer
 frf:∀ b∈pW outer,H b=none
 hok:uK P w H s.heap
 bare:AllBare s.gens
 tk:0<s.toks
def CE (outer:List Env) (P:Program) (w:World) (H:Hp) (s:Shared) (Q:VK) (u:Value) (s':Shared):Prop :=
 ∃ v H',s'.os=s.os/\0<s'.toks/\AllBare s'.gens/\Un (pW outer) [] H H' s.heap s'.heap/\uK P w H' s'.heap/\yY v u/\Q v H'
def CR (CX:CXT) (outer:List Env) (P:Program) (w:World) (H:Hp) (s:Shared) (Q:VK) (E:XK) (r:Result) (s':Shared):Prop :=
 match r with
 | .ok (.ret u)=>CE outer P w H s Q u s'
 | .ok _=>False
 | .error e=>CX outer H s E e s'
structure FnOk (P:Program) (w:World) (K:PySem.W.Frag) (mg:Str->Option Value) (base:Heap) (CX:CXT) (k:Nat) (f:Addr) (fd:FuncData) (ps:List Str) (sp:Sp):Prop where
 len:∀ vs H Q E,sp vs H Q E->vs.length=ps.length
 run:∀ (A:Around) (outer:List Env) (s:Shared) (H:Hp) (args:Args) (us:List Value) (vs:List V) (Q:VK) (E:XK),Room k A->Env0 P w K mg base A outer s H->BindsTo s fd args (ps.zip us)->zF vs us->sp vs H Q E ->
  codeAny (model P w) A (.call (.ref f) args) (CR CX outer P w H s Q E) s
 one:∀ (x:Str),ps=[x]->fd.scope.names.lookup x=some .local->∀ (A:Around) (outer:List Env) (s:Shared) (H:Hp) (args:Args) (us:List Value) (vs:List V) (Q:VK) (E:XK),Room k A->Env0 P w K mg base A outer { s with toks:=1 } H->BindsTo s fd args (ps.zip us)->zF vs us->sp vs H Q E ->
  codeAny (model P w) A (.call (.ref f) args) (CR CX outer P w H s Q E) s
theorem FnOk.mono {P:Program} {w:World} {K:PySem.W.Frag} {mg:Str->Option Value} {base:Heap} {CX:CXT} {j k:Nat} {f:Addr} {fd:FuncData} {ps:List Str} {sp:Sp} (F:FnOk P w K mg base CX j f fd ps sp) (h:j<=k) :
  FnOk P w K mg base CX k f fd ps sp:=⟨F.len,fun A outer s H args us vs Q E hr=>F.run A outer s H args us vs Q E (hr.mono h),fun x e l A outer s H args us vs Q E hr=>F.one x e l A outer s H args us vs Q E (hr.mono h)⟩
section
variable {X:Cx} {pins:List (Addr×Obj)} {σ:St} {H:Hp} {s s':Shared}
theorem Inv.env0 (I:Inv X pins σ H s):Env0 X.prog X.w X.K X.mg X.base X.A X.stack s H :=
 ⟨I.ok.frames,I.ok.mod,I.bs,Zn I.ok.bsz I.sz,I.stack,I.stkFree,I.hok,I.bare,I.tk⟩
theorem Inv.after {Q:VK} {u:Value} (I:Inv X pins σ H s) (h:CE X.stack X.prog X.w H s Q u s'):EP X pins σ Q u s':=by
 obtain ⟨v,H',os,tk,bare,un,hok,r,q⟩:=h;obtain ⟨hh,g,d,t,os'⟩:=s';obtain rfl:os'=s.os:=os;exact ⟨v,H',I.call (h':=hh) (g':=g) (d':=d) (t':=t) (ch:=[]) un hok bare (fun b z=>absurd z (by simp)) tk,r,q⟩
end
def zgI (sp:Sp) (dvs:List V) (E:XK) (t:TA):TE:=fun σ H Q=>t σ H fun vs H1=>sp (vs++dvs) H1 Q E
def tJ (K:PySem.W.Frag) (fd:FuncData) (ps:List Str) (ds:List Value):Prop :=
 ∀ (s:Shared) (us:List Value),K.In s.heap->(us++ds).length=ps.length->BindsTo s fd ⟨us,[]⟩ (ps.zip (us++ds))
theorem tJ.all {K:PySem.W.Frag} {fd:FuncData} {ps:List Str} (h:∀ us:List Value,us.length=ps.length->bindArgs fd ⟨us,[]⟩=pure (ps.zip us)):tJ K fd ps []:=fun s us _ hl=>by
 rw[Zw] at hl ⊢;exact .of_eq (h us hl)
def zbB (CX:CXT) (X:Cx) (E:XK):Prop:=∀ (pins:List (Addr×Obj)) (σ:St) (H:Hp) (s:Shared) (e:Value) (s':Shared),Inv X pins σ H s->CX X.stack H s E e s'->X.xe e s'
section
variable {X:Cx} {CX:CXT} {k:Nat} {f C:Addr} {fd:FuncData} {ps:List Str} {sp:Sp} {dvs:List V} {ds:List Value} {E:XK} {x m:Str} {p pos apos:Pos} {e o:Expr} {es:List Expr} {ta:TE} {t:TA}
theorem zfV {pins:List (Addr×Obj)} {σ:St} {H:Hp} {s:Shared} {Q:VK} {us:List Value} {vs:List V} (F:FnOk X.prog X.w X.K X.mg X.base CX k f fd ps sp) (hr:Room k X.A) (hb:tJ X.K fd ps ds) (hd:zF dvs ds) (hx:zbB CX X E)
  (I:Inv X pins σ H s) (r:zF vs us) (h:sp (vs++dvs) H Q E):wpAny 'a' X.A (call (.ref f) us) (EP X pins σ Q) X.xe s:=by
 have r2:zF (vs++dvs) (us++ds):=r.append hd;have hl:(us++ds).length=ps.length:=by rw[← r2.length];exact F.len _ _ _ _ h
 refine Zcu (Zbw (F.run X.A X.stack s H ⟨us,[]⟩ (us++ds) (vs++dvs) Q E hr I.env0 (hb s us I.kIn hl) r2 h) fun r s' hq=>?_)
 cases r with
 |error e=>exact hx pins σ H s e s' I hq
 |ok fl =>
  cases fl with
  |ret u=>exact I.after hq
  |next=>exact False.elim hq
  |brk=>exact False.elim hq
  |cont=>exact False.elim hq
theorem zhd (F:FnOk X.prog X.w X.K X.mg X.base CX k f fd ps sp) (hr:Room k X.A) (hg:Gl X x) (hm:X.mg x=some (.ref f)) (hk:PySem.W.keepIn X.K (.ref f)=true) (hb:tJ X.K fd ps ds) (hd:zF dvs ds) (hx:zbB CX X E)
  (ha:PA X (e::es) t) (hdb:(x==("__debug__" : Str))=false:=by decide) (he:starEach (e::es) X.env=(false,eval e X.env)::starEach es X.env:=by rfl) (hpl:(backTo pos (starEach es X.env)).any (·.1)=false:=by rfl) :
  PE X (.Call (.Name x p) (e::es) [] pos) (zgI sp dvs E t):=by
 intro pins s σ H Q I h;refine ZP (kZ I hg hm ?_ hdb);refine ZbV (h₀:=X.base) I.ok.mod.kin hk (xQ (ha pos pins s σ H _ I h) fun us s1 ⟨vs,H1,I1,r,q⟩=>⟨I1.kIn,?_⟩) he hpl;exact zfV F hr hb hd hx I1 r q
theorem zeU (F:FnOk X.prog X.w X.K X.mg X.base CX k f fd ps sp) (hr:Room k X.A) (hg:Gl X x) (hm:X.mg x=some (.ref f)) (hk:PySem.W.keepIn X.K (.ref f)=true) (hb:tJ X.K fd ps ds) (hd:zF dvs ds) (hx:zbB CX X E)
  (hdb:(x==("__debug__" : Str))=false:=by decide):PE X (.Call (.Name x p) [] [] pos) (zgI sp dvs E tNil):=by
 intro pins s σ H Q I h;refine ZP (kZ I hg hm ?_ hdb);exact ZbJ I.kIn hk (zfV (us:=[]) F hr hb hd hx I .nil h)
end
section
variable {X:Cx} {CX:CXT} {k:Nat} {f C:Addr} {fd:FuncData} {ps ks:List Str} {sp:Sp} {E:XK} {x m:Str} {p pos apos kpos:Pos} {e o:Expr} {es:List Expr} {kws:List Keyword} {te ta:TE} {t tk:TA} {nm:Option Str}
variable {g:List Value->List Value->List Value} {gV:List V->List V->List V}
end
structure FnScope (N P:List Str) (sc:Scope):Prop where
 kind:sc.kind=.function
 co:sc.isCoroutine=false
 gen:sc.isGenerator=false
 nd:N.Nodup
 pre:N.take P.length=P
 par:∀ x∈P,sc.names.lookup x=some .local\/sc.names.lookup x=some .cell
 nofree:∀ y∈sc.names,y.2≠.free
theorem bN {kindOf:Str->Option NameKind} {x:Str}:∀ {binds:List (Str×Value)} {m:Str->Option Value},(∀ v,(x,v)∉binds)->bindL kindOf binds m x=m x
 | [],_,_=>rfl
 | (n,v)::r,m,h=>by
  unfold bindL;rw[bN fun w hw=>h w (Zk _ hw)]
  split
  .have:x≠n:=by rintro rfl;exact h v zzT
   simp[this]
  .rfl
theorem bL {kindOf:Str->Option NameKind} {x:Str}:∀ {binds:List (Str×Value)} {m:Str->Option Value},(∀ v,(x,v)∉binds)->bindC kindOf binds m x=m x
 | [],_,_=>rfl
 | (n,v)::r,m,h=>by
  unfold bindC;rw[bL fun w hw=>h w (Zk _ hw)]
  split
  .rfl
  .have:x≠n:=by rintro rfl;exact h v zzT
   simp[this]
theorem bM {kindOf:Str->Option NameKind} {x:Str} {v:Value}:∀ {P:List Str} {vs:List Value} {i:Nat} {m:Str->Option Value},P.Nodup->P[i]?=some x->vs[i]?=some v->kindOf x=some .local ->
  bindL kindOf (P.zip vs) m x=some v
 | [],_,_,_,_,h,_,_=>by simp at h
 |_::_,[],_,_,_,_,h,_=>by simp at h
 |p::P,w::vs,0,m,nd,h1,h2,hk=>by
  simp at h1 h2;subst h1;subst h2;show bindL kindOf ((p,w)::P.zip vs) m p=_;unfold bindL;rw[bN fun v hv=>(Za2.mp nd).1 (Zco hv).1,if_pos hk];simp
 |p::P,w::vs,i+1,m,nd,h1,h2,hk=>by
  show bindL kindOf ((p,w)::P.zip vs) m x=_;unfold bindL;exact bM (i:=i) (Za2.mp nd).2 (by simpa using h1) (by simpa using h2) hk
theorem bK {kindOf:Str->Option NameKind} {x:Str} {v:Value}:∀ {P:List Str} {vs:List Value} {i:Nat} {m:Str->Option Value},P.Nodup->P[i]?=some x->vs[i]?=some v->kindOf x≠some .local ->
  bindC kindOf (P.zip vs) m x=some v
 | [],_,_,_,_,h,_,_=>by simp at h
 |_::_,[],_,_,_,_,h,_=>by simp at h
 |p::P,w::vs,0,m,nd,h1,h2,hk=>by
  simp at h1 h2;subst h1;subst h2;show bindC kindOf ((p,w)::P.zip vs) m p=_;unfold bindC;rw[bL fun v hv=>(Za2.mp nd).1 (Zco hv).1,if_neg hk];simp
 |p::P,w::vs,i+1,m,nd,h1,h2,hk=>by
  show bindC kindOf ((p,w)::P.zip vs) m x=_;unfold bindC;exact bK (i:=i) (Za2.mp nd).2 (by simpa using h1) (by simpa using h2) hk
def start (N:List Str) (vs:List V):St:=vs.map some++List.replicate (N.length-vs.length) none
def fP (CX:CXT) (P:Program) (w:World) (K:PySem.W.Frag) (mg:Str->Option Value) (base:Heap) (N:List Str) (qual:Str) (scope:Scope) (f:Addr) (cd:Value) (A:Around) (outer:List Env) (s:Shared) (H:Hp) (E:XK):Cx where
 prog:=P
 w:=w
 K:=K
 mg:=mg
 base:=base
 A:=A.deeper (envOfC qual scope s.heap.objs.size f cd)
 N:=N
 s₀:=s
 H₀:=H
 env:=envOfC qual scope s.heap.objs.size f cd
 outer:=outer
 stack:=envOfC qual scope s.heap.objs.size f cd::outer
 ex:=[]
 calm:=true
 fn:=fun _=>true
 pn:=[]
 xe:=fun e s'=>wpAny (model P w) (A.deeper (envOfC qual scope s.heap.objs.size f cd)) (leaving (envOfC qual scope s.heap.objs.size f cd) e) (fun _ s''=>CX outer H s E e s'') (fun e' s''=>CX outer H s E e' s'') s'
theorem zby {sc:Scope} {n:Nat} {x:Str} (h:sc.names.lookup x=some .cell):∃ c,(cellsFrom n sc.names []).lookup x=some c:=by
 have q:=PySem.W.cellsFrom_some sc.names n [] (.inl h);exact ZaL.mp q
theorem zdh {CX:CXT} {P:Program} {w:World} {K:PySem.W.Frag} {mg:Str->Option Value} {base:Heap} {N ps:List Str} {qual:Str} {scope:Scope} {f:Addr} {cd:Value} {A:Around} {outer:List Env} {s s1:Shared} {H:Hp} {E:XK} {us:List Value} {vs:List V}
  (S:FnScope N ps scope) (hd:A.handled=none) (e0:Env0 P w K mg base A outer { s with toks:=1 } H) (hl:vs.length=ps.length) (r:zF vs us)
  (x:InCallC s s.heap.objs.size (bindL (envOfC qual scope s.heap.objs.size f cd).kindOf (ps.zip us) fun _=>none) (cellsFrom (s.heap.objs.size+1) scope.names []) (bindC (envOfC qual scope s.heap.objs.size f cd).kindOf (ps.zip us) fun _=>none) s1) (h0:0<s1.toks) :
  Inv (fP CX P w K mg base N qual scope f cd A outer s H E) [] (start N vs) H s1:=by
 have hpl:ps.length<=N.length:=by have:=congrArg List.length S.pre;rw[Z5] at this;omega
 obtain ⟨h1,tk,rfl,hk⟩:=x.done;have noA:∀ b:Addr,b∉(fP CX P w K mg base N qual scope f cd A outer s H E).ex:=fun b z=>absurd (show b∈([]:List Addr) from z) (by simp)
 refine ⟨⟨e0.mod,S.kind,rfl,rfl,zzR _,fun y z c h1 h2=>?_,fun y hy=>?_,fun y c _ h=>?_,fun _=>hd,Around.frames_deeper e0.frames,.inr ⟨rfl,rfl⟩,fun b z=>absurd z (noA b),e0.bs,e0.bsz,fun b _ _=>noA b,fun b z=>absurd z (noA b),e0.funs,e0.frf⟩,
  rfl,e0.bare,Un.kept hk,⟨_,x.toInCall.ns,fun i y v h1 h2 h3=>?_⟩,fun y c h=>⟨_,x.cell y c h⟩,e0.hok.fresh (zzR _),fun y c h=>?_,fun p hp=>absurd (show p∈([]:List (Addr×Obj)) from hp) (by simp),e0.hok.kept hk,?_,h0⟩
 .exact name_of_addr x.apart (ZaR h1) (ZaR h2)
 .have hy:scope.names.lookup y=some .cell\/scope.names.lookup y=some .free:=hy;rcases hy with hy|hy
  .exact zby hy
  .exact absurd rfl (S.nofree _ (ZaR hy))
 .exact ZaO (x.above y c (ZaR h))
 .have hi:i<vs.length:=by
   unfold start at h2
   by_cases hi:i<vs.length
   .exact hi
   .rw[Zac (by simpa using hi)] at h2;rw[Zbi] at h2
    split at h2<;>cases h2
  have ha:vs[i]?=some v:=by
   unfold start at h2;rw[ZaB (by simpa using hi),Zm] at h2
   cases e:vs[i]? with
   |none=>rw[e] at h2;cases h2
   |some a=>rw[e] at h2;cases h2;rfl
  obtain ⟨u,hu,rv⟩:=r.get ha
  have hp:ps[i]?=some y:=by
   rw[← S.pre,List.getElem?_take_of_lt (by omega)];exact h1
  have ndP:ps.Nodup:=by rw[← S.pre];exact S.nd.sublist (List.take_sublist _ _)
  refine ⟨u,rv,?_⟩;rcases S.par y (Zr hp) with k|k
  .exact .inl ⟨k,bM ndP hp hu k⟩
  .obtain ⟨c,e⟩:=zby (n:=s.heap.objs.size+1) k;refine .inr ⟨.inl k,c,e,?_⟩;have q:=x.cell y c e;rw[bK ndP hp hu (by show scope.names.lookup y≠_;rw[k];decide)] at q;exact q
 .exact e0.hok.fresh (ZaO (x.above y c (ZaR h)))
 .unfold start;show _=N.length;rw[zzW,zzM,Zbv];omega
theorem zhM {CX:CXT} {P:Program} {w:World} {K:PySem.W.Frag} {mg:Str->Option Value} {base:Heap} {k:Nat} {f:Addr} {name qual:Str} {params:Arguments} {body:List Stmt} {scope:Scope} {dV kV doc pm cdv ct oc:Value} {an od:Option Addr}
  {osl:Array (Option Value)} {N ps:List Str} {sp:Sp} (lk:K.lookup f=some ⟨oc,od,.func (PySem.W.fnOf name qual params body scope dV kV doc pm an cdv ct),osl⟩) (hcd:PySem.W.codeIn K cdv qual=true) (S:FnScope N ps scope)
  (len:∀ vs H Q E,sp vs H Q E->vs.length=ps.length)
  (hbody:∀ (A:Around) (outer:List Env) (s:Shared) (H:Hp) (vs:List V) (Q:VK) (E:XK),Room k (A.deeper (envOfC qual scope s.heap.objs.size f cdv))->sp vs H Q E ->
   ∃ t,dM (fP CX P w K mg base N qual scope f cdv A outer s H E) body t/\t { nx:=fun _ H'=>Q .non H',rt:=Q } (start N vs) H) :
  FnOk P w K mg base CX (k+1) f (PySem.W.fnOf name qual params body scope dV kV doc pm an cdv ct) ps sp:=by
 suffices core:∀ (A:Around) (outer:List Env) (s:Shared) (H:Hp) (args:Args) (us:List Value) (vs:List V) (Q:VK) (E:XK),Room (k+1) A->Env0 P w K mg base A outer { s with toks:=1 } H->BindsTo s (PySem.W.fnOf name qual params body scope dV kV doc pm an cdv ct) args (ps.zip us)->zF vs us->sp vs H Q E ->
   (0<s.toks\/∃ x,ps=[x]/\scope.names.lookup x=some .local)->codeAny (model P w) A (.call (.ref f) args) (CR CX outer P w H s Q E) s from
  ⟨len,fun A outer s H args us vs Q E hr e0 hb r hsp=>core A outer s H args us vs Q E hr ⟨e0.frames,e0.mod,e0.bs,e0.bsz,e0.funs,e0.frf,e0.hok,e0.bare,Nat.one_pos⟩ hb r hsp (.inl e0.tk),fun x e l A outer s H args us vs Q E hr e0 hb r hsp=>core A outer s H args us vs Q E hr e0 hb r hsp (.inr ⟨x,e,l⟩)⟩
 intro A outer s H args us vs Q E hr e0 hb r hsp hpos;have hl:=len _ _ _ _ hsp;have KX:K.In s.heap:=e0.mod.kin.keeps fun b o e=>(e0.bs b o e).1;have lim:s.heap.NoLimit:=e0.mod.nolimit.keeps fun b o e=>(e0.bs b o e).1
 have hkind:∀ y∈ps.zip us,scope.names.lookup y.1=some .local\/(scope.names.lookup y.1=some .cell/\((cellsFrom (s.heap.objs.size+1) scope.names []).lookup y.1).isSome=true):=fun ⟨n,v⟩ hy=>by
  rcases S.par n (Zco hy).1 with q|q
  .exact .inl q
  .exact .inr ⟨q,PySem.W.cellsFrom_some _ _ _ (.inl q)⟩
 refine codeAny_call_function hr.depth (KX _ _ lk) rfl S.co S.gen rfl (PySem.W.codeRec_of KX hcd) (hb _ _ _ _ ?_);refine zbQ S.kind hkind (r.length.symm.trans hl) hpos fun env he s1 x h0=>?_;subst he;refine ⟨lim.keeps x.toInCall.keep,codeAny_func ?_⟩;obtain ⟨t,ht,hq⟩:=hbody A outer s H vs Q E (hr.deeper _) hsp;have I:Inv (fP CX P w K mg base N qual scope f cdv A outer s H E) [] (start N vs) H s1:=zdh S hr.hd e0 hl r x h0;refine Z2 (ht [] s1 (start N vs) H _ I hq) (fun fl s' hs=>?_) fun e s' hs=>hs
 have fin:∀ {σ':St} {H':Hp} {v:V} {u:Value},Inv (fP CX P w K mg base N qual scope f cdv A outer s H E) [] σ' H' s'->yY v u->Q v H'->CE outer P w H s Q u s' :=
  fun {σ' H' v u} J rv q=>⟨v,H',J.os,J.tk,J.bare,J.base,J.hok,rv,q⟩
 cases fl with
 |ret u =>
  obtain ⟨v,σ',H',J,rv,q⟩:=hs;exact fin J rv q
 |next =>
  obtain ⟨σ',H',J,q⟩:=hs;exact fin (v:=V.non) (u:=Value.none) J rfl q
 |brk =>
  obtain ⟨_,_,_,q⟩:=hs;exact False.elim q
 |cont =>
  obtain ⟨_,_,_,q⟩:=hs;exact False.elim q
end L2
namespace L2
open PySem PySem.Spec PyProof.Rows
section
variable {X:Cx} {x:Str} {p pos:Pos} {e:Expr} {es:List Expr} {t:TA} {id T:String} {r:List V->Hp->VK->Prop}
def tCB (r:List V->Hp->VK->Prop) (t:TA):TE:=fun σ H Q=>t σ H fun vs H1=>r vs H1 Q
theorem zeT (hc:xB X (.builtin id) r) (hg:Gl X x) (hm:X.mg x=none) (hv:bootBuiltins x=some (.builtin id)) (ha:PA X (e::es) t) (hn:x ≠ "__name__" := by decide) (hdb:(x==("__debug__" : Str))=false:=by decide)
  (he:starEach (e::es) X.env=(false,eval e X.env)::starEach es X.env:=by rfl) (hpl:(backTo pos (starEach es X.env)).any (·.1)=false:=by rfl):PE X (.Call (.Name x p) (e::es) [] pos) (tCB r t):=by
 intro pins s σ H Q I h;refine ZP (vQ I hg hm hv ?_ hn hdb);exact PyProof.Rows.callWith_builtin1 (xQ (ha pos pins s σ H _ I h) fun us s1 ⟨vs,H1,I1,r1,q1⟩=>hc pins s1 σ H1 vs us Q I1 r1 q1) he hpl
theorem cQ (hc:xB X (.type T) r) (hg:Gl X x) (hm:X.mg x=none) (hv:bootBuiltins x=some (.type T)) (ha:PA X (e::es) t) (hn:x ≠ "__name__" := by decide) (hdb:(x==("__debug__" : Str))=false:=by decide)
  (he:starEach (e::es) X.env=(false,eval e X.env)::starEach es X.env:=by rfl) (hpl:(backTo pos (starEach es X.env)).any (·.1)=false:=by rfl):PE X (.Call (.Name x p) (e::es) [] pos) (tCB r t):=by
 intro pins s σ H Q I h;refine ZP (vQ I hg hm hv ?_ hn hdb);exact ZU (xQ (ha pos pins s σ H _ I h) fun us s1 ⟨vs,H1,I1,r1,q1⟩=>hc pins s1 σ H1 vs us Q I1 r1 q1) he hpl
end
end L2
namespace HT
open PySem PyProof.Rows
section
open PySem.SeqAt
open PySem.AutoSeq1 (wpAny_loadPart')
open PySem.MeetsSeq PySem.MeetsSeq2 PySem.MeetsSeq3
end
section
variable {prog:Program} {w:World} {A:Around} {E:Value->Shared->Prop} {s:Shared}
theorem zig {t b:Addr} {vs ws:List Value} {Q:Value->Shared->Prop} (ht:IsTup s.heap t vs.toArray) (hb:IsTup s.heap b ws.toArray) (hv:vs≠[])
  (h1:ws=[]->Q (.ref t) s) (h2:ws≠[]->Q (.ref s.heap.objs.size) { s with heap:=s.heap.push { cls:=.type "tuple", data:=.seq (vs++ws).toArray } })
  (hsz:vs.length+ws.length<=sizeLine):wpAny (model prog w) A (binaryOp .Add (.ref t) (.ref b)) Q E s:=by
 obtain ⟨⟨cls,dd,data,sl⟩,ho,hc,n,hd⟩:=id ht;obtain ⟨⟨cls2,dd2,data2,sl2⟩,ho2,hc2,n2,hd2⟩:=id hb;simp only at hc hd hc2 hd2;subst hc hd hc2 hd2;have e:vs.toArray++ws.toArray=(vs++ws).toArray:=by simp
 by_cases hw:ws=[]
 .exact concat_meets ⟨_,ho,rfl⟩ ⟨_,ho2,rfl⟩ Zch ZcB Zbp Zbl (Zbf _ _)
   (tuple_addW1 t b vs.toArray ws.toArray n n2 dd dd2 sl sl2 (by simpa using hv) (by simp[hw])) ⟨ho,ho2,h1 hw⟩
 .refine concat_meets ⟨_,ho,rfl⟩ ⟨_,ho2,rfl⟩ Zch ZcB Zbp Zbl (Zbf _ _)
   (tuple_addW2 t b vs.toArray ws.toArray n n2 dd dd2 sl sl2 (by simpa using hv) (by simpa using hw) (by rw[zzS,zzS];exact hsz)) ⟨ho,ho2,?_⟩
  rw[e];exact h2 hw
def wJ (n d:Nat):Option Int->Nat
 |none=>d
 |some v=>if v<0 then (v+(n:Int)).toNat else min v.toNat n
theorem ziW (n d:Nat) (hd:d<=n) (o:Option Int):wJ n d o<=n:=by
 cases o with
 |none=>exact hd
 |some v =>
  show (if v<0 then (v+(n:Int)).toNat else min v.toNat n)<=n
  by_cases hv:v<0
  .rw[if_pos hv];omega
  .rw[if_neg hv];exact Zcg _ _
theorem zdN (v:Int) (n d:Nat):(if v<0 then max (v+(n:Int)) 0 else min v (n:Int))=((wJ n d (some v):Nat):Int):=by
 show (if v<0 then max (v+(n:Int)) 0 else min v (n:Int))=(((if v<0 then (v+(n:Int)).toNat else min v.toNat n):Nat):Int)
 by_cases hv:v<0
 .simp only[if_pos hv];omega
 .simp only[if_neg hv];omega
theorem zb2 (lo hi:Option Int) (n:Nat):Builtin.Slice.sliceAdjust lo hi 1 (n:Int)=(((wJ n 0 lo:Nat):Int),((wJ n n hi:Nat):Int)):=by
 have h1:¬ ((1:Int)<0):=by omega
 unfold Builtin.Slice.sliceAdjust;simp only[h1,if_false];refine Prod.ext ?_ ?_
 .cases lo with
  |none=>rfl
  |some v=>exact zdN v n 0
 .cases hi with
  |none=>rfl
  |some v=>exact zdN v n n
theorem zbO (i j:Nat):Builtin.Slice.slicePlaces (i:Int) (j:Int) 1=j-i:=by
 unfold Builtin.Slice.slicePlaces;have h1:(1:Int) > 0:=by omega
 simp only[h1,if_true,Zck]
 split<;>omega
theorem mJ {v:Value} {o:Option Int} {Q:Option Int->Shared->Prop} (p:IsPart v o) (h:Q o s):wpAny (model prog w) A (Builtin.Slice.slicePartIndex v) Q E s:=by
 cases p with
 |none=>exact ZbZ h
 |int i t=>exact slicePart_int h
theorem kI {sl:Addr} {vl vu:Value} {lo hi:Option Int} {n:Nat} {Q:Int×Int×Nat->Shared->Prop} (hs:s.heap.IsSliceOf sl vl vu .none) (pl:IsPart vl lo) (pu:IsPart vu hi)
  (h:Q (((wJ n 0 lo:Nat):Int),1,wJ n n hi-wJ n 0 lo) s):wpAny (model prog w) A (Builtin.Slice.sliceApplied (.ref sl) (pure (n:Int))) Q E s:=by
 obtain ⟨os,hos,hcs,hds⟩:=id hs;unfold Builtin.Slice.sliceApplied Builtin.Slice.sliceFields;refine Za (Za (ZF hos hds (x:=vl) rfl (Za (ZF hos hds (x:=vu) rfl (Za (ZF hos hds (x:=.none) rfl (Zc ?_)))))));refine Za (ZbZ ?_);show wpAny _ _ (if ((1:Int)==0)=true then _ else _) _ _ s;rw[if_neg (by decide)];refine Za (mJ pl (Za (mJ pu (Za (Zc ?_)))));show wpAny _ _ (match Builtin.Slice.sliceAdjust lo hi 1 (n:Int) with|(lo,hi)=>pure (lo,(1:Int),Builtin.Slice.slicePlaces lo hi 1)) _ _ s;rw[zb2 lo hi n];show wpAny _ _ (pure (((wJ n 0 lo:Nat):Int),(1:Int),Builtin.Slice.slicePlaces ((wJ n 0 lo:Nat):Int) ((wJ n n hi:Nat):Int) 1)) _ _ s;rw[zbO];exact Zc h
theorem zeN (xs:Array Value) (i k:Nat):((List.range k).filterMap fun (m:Nat)=>xs[((i:Int)+(m:Int) * 1).toNat]?).toArray=((xs.toList.drop i).take k).toArray:=by
 have e:(fun (m:Nat)=>xs[((i:Int)+(m:Int) * 1).toNat]?)=fun m=>xs[i+m]?:=by
  funext m
  have:((i:Int)+(m:Int) * 1).toNat=i+m:=by omega
  rw[this]
 rw[e];have:=pick_run xs i k;rw[ZbS] at this;have e2:((fun x=>xs[x]?) ∘ fun x=>i+x)=fun m=>xs[i+m]?:=rfl;rw[e2] at this;rw[this]
theorem sB {t sl:Addr} {items:Array Value} {vl vu:Value} {lo hi:Option Int} {Q:Value->Shared->Prop} (ht:IsTup s.heap t items) (hs:s.heap.IsSliceOf sl vl vu .none) (pl:IsPart vl lo) (pu:IsPart vu hi)
  (hw:¬ (wJ items.size 0 lo=0/\wJ items.size items.size hi=items.size))
  (h:Q (.ref s.heap.objs.size) { s with heap:=s.heap.push { cls:=.type "tuple", data:=.seq ((items.toList.drop (wJ items.size 0 lo)).take (wJ items.size items.size hi-wJ items.size 0 lo)).toArray } })
  (hsz:items.size<=sizeLine):wpAny (model prog w) A (getItem (.ref t) (.ref sl)) Q E s:=by
 have htake:sizeOk (.seq ((items.toList.drop (wJ items.size 0 lo)).take (wJ items.size items.size hi-wJ items.size 0 lo)).toArray):=by
  show ((items.toList.drop (wJ items.size 0 lo)).take (wJ items.size items.size hi-wJ items.size 0 lo)).toArray.size<=sizeLine;rw[zzS,Z5,Z0,ZB];omega
 have hj:wJ items.size items.size hi<=items.size:=ziW _ _ (zzR _) hi;obtain ⟨os,hos,hcs,hds⟩:=id hs;have hTs:s.TypeIs (.ref sl) "slice" := ⟨os,hos,hcs⟩;unfold getItem
 try with_reducible refine ZR ?_
 first|refine Za (Zc ?_)|skip
 refine Za (Zbt ht.typeIs (by decide) ?_)
 refine Za (ZQ (name:=Str.ofString "__getitem__") ht.typeIs Zy
  (ZM Zy ht.typeIs ZbK ?_ (ZbW _ _)))
 show wpAny _ _ (Builtin.Tuple.tupleItemsOf (.ref t) >>= _) _ _ s;refine Za (ZcD ht ?_);refine Za (Zbh hTs ?_);rw[if_pos (by decide)];refine Za (kI hs pl pu ?_)
 have hno:¬ ((((wJ items.size 0 lo:Nat):Int)==0&&(1:Int)==1&&(wJ items.size items.size hi-wJ items.size 0 lo)==items.size)=true):=by
  intro q;rw[Zh,Zh] at q;have q1:((wJ items.size 0 lo:Nat):Int)=0:=eq_of_beq q.1.1;have q2:wJ items.size items.size hi-wJ items.size 0 lo=items.size:=eq_of_beq q.2;exact hw ⟨by omega,by omega⟩
 show wpAny _ _ (if (((wJ items.size 0 lo:Nat):Int)==0&&(1:Int)==1&&(wJ items.size items.size hi-wJ items.size 0 lo)==items.size)=true then _ else _) _ _ s;rw[if_neg hno,zeN]
 first
  |exact Za (m:=Builtin.Tuple.tupleExact _) (ZN (Zc ⟨_,rfl,Zc h⟩) htake)
  |exact Za (m:=Builtin.Tuple.tupleExact _) (ZN (Za (Zc (Zc ⟨_,rfl,Zc h⟩))) htake)
  |exact Za (Za (m:=Builtin.Tuple.tupleExact _) (ZN (Zc (Zc ⟨_,rfl,Zc h⟩)) htake))
  |exact Za (Za (m:=Builtin.Tuple.tupleExact _) (ZN (Zc ⟨_,rfl,Zc h⟩) htake))
end
end HT
namespace L2
open PySem PySem.Spec PyProof.Rows
abbrev TO:=St->Hp->(Option Int->Hp->Prop)->Prop
def PO (X:Cx) (e:Option Expr) (t:TO):Prop :=
 ∀ (pins:List (Addr×Obj)) (s:Shared) (σ:St) (H:Hp) (Q:Option Int->Hp->Prop),Inv X pins σ H s->t σ H Q ->
  wpAny 'a' X.A (evalPart e X.env) (fun u s'=>∃ o H',Inv X pins σ H' s'/\IsPart u o/\Q o H') X.xe s
def zgH:TO:=fun _ H Q=>Q none H
def tPart (t:TE):TO:=fun σ H Q=>t σ H fun x H1=>∃ i,x=.int i/\Q (some i) H1
section
variable {X:Cx} {e:Expr} {te:TE} {lo hi:Option Expr} {tl th:TO} {pos p2:Pos}
theorem zg7:PO X none zgH:=by
 intro pins s σ H Q I h;rw[ZcA];exact Zc ⟨none,H,I,.none,h⟩
theorem zg6 (h:PE X e te):PO X (some e) (tPart te):=by
 intro pins s σ H Q I hw;rw[evalPart_some];refine xQ (h pins s σ H _ I hw) fun u s1 ⟨x,H1,I1,r1,q1⟩=>?_;obtain ⟨i,rfl,q⟩:=q1;obtain ⟨t,rfl⟩:=r1;exact ⟨some i,H1,I1,.int i t,q⟩
def SlR (X:Cx) (r:V->Option Int->Option Int->Hp->VK->Prop):Prop :=
 ∀ (pins:List (Addr×Obj)) (s:Shared) (σ:St) (H:Hp) (x:V) (v vl vu:Value) (lo hi:Option Int) (sl:Addr) (Q:VK),Inv X pins σ H s->yY x v->s.heap.IsSliceOf sl vl vu .none->IsPart vl lo->IsPart vu hi->r x lo hi H Q ->
  ∃ T id,typeLookup (.type T) "__getitem__" = pure (some (.builtin id))/\s.TypeIs v T/\wpAny 'a' X.A (getItem v (.ref sl)) (EP X pins σ Q) X.xe s
def tSl (r:V->Option Int->Option Int->Hp->VK->Prop) (te:TE) (tl th:TO):TE:=fun σ H Q=>te σ H fun x H1=>tl σ H1 fun l H2=>th σ H2 fun u H3=>r x l u H3 Q
theorem zeQ {r:V->Option Int->Option Int->Hp->VK->Prop} (hr:SlR X r) (he:PE X e te) (hl:PO X lo tl) (hu:PO X hi th):PE X (.Subscript e (.Slice lo hi none p2) pos) (tSl r te tl th):=by
 intro pins s σ H Q I h;refine Subscript_ (xQ (he pins s σ H _ I h) fun v s1 ⟨x,H1,I1,r1,q1⟩=>?_);refine wpAny_Slice (xQ (hl pins s1 σ H1 _ I1 q1) fun vl s2 ⟨l,H2,I2,pl,q2⟩=>xQ (hu pins s2 σ H2 _ I2 q2) fun vu s3 ⟨u,H3,I3,pu,q3⟩=>?_);rw[ZcA];refine Zc ?_;have I4:Inv X pins σ H3 { s3 with heap:=s3.heap.push { cls:=.type "slice", data:=.fields #[vl,vu,.none] } }:=I3.kept (t':=s3.toks) fun b ob q=>Zb _ q;obtain ⟨T,id,hT,ht,hg⟩:=hr pins { s3 with heap:=s3.heap.push { cls:=.type "slice", data:=.fields #[vl,vu,.none] } } σ H3 x v vl vu l u s3.heap.objs.size Q I4 r1 (Heap.IsSliceOf.new ..) pl pu q3;show wpAny 'a' X.A (subscriptTail e (.Slice lo hi none p2) v (.ref s3.heap.objs.size)) (EP X pins σ Q) X.xe { s3 with heap:=s3.heap.push { cls:=.type "slice", data:=.fields #[vl,vu,.none] } };exact ZcC (ops:=[.ref s3.heap.objs.size,v]) ht hT hg (by with_unfolding_all rfl)
def cutV (xs:List V) (lo hi:Option Int):List V:=(xs.drop (HT.wJ xs.length 0 lo)).take (HT.wJ xs.length xs.length hi-HT.wJ xs.length 0 lo)
theorem pC (xs:List V) (lo hi:Option Int):(cutV xs lo hi).length<=xs.length:=by
 unfold cutV;rw[Z5,Z0];omega
def rSlT (K:PySem.W.Frag):V->Option Int->Option Int->Hp->VK->Prop:=fun x lo hi H Q=>∃ a xs,x=.ref a/\sP K H a xs /\
 ¬ (HT.wJ xs.length 0 lo=0/\HT.wJ xs.length xs.length hi=xs.length)/\∀ p,H p=none->Q (.ref p) (xP H p (.tup (cutV xs lo hi)))
theorem ziL:SlR X (rSlT X.K):=by
 intro pins s σ H x v vl vu lo hi sl Q I rx hs pl pu h;obtain ⟨a,xs,rfl,hx,hw,q⟩:=h;cases rx;obtain ⟨its,r,ht,hz⟩:=I.tuple hx;have hlen:its.toArray.size=xs.length:=by rw[zzS];exact r.length.symm
 refine ⟨"tuple", _,Zy.lookup,ht.typeIs,?_⟩;refine HT.sB ht hs pl pu (by rw[hlen];exact hw) ?_ (by rw[hlen];exact hz);rw[hlen];refine ⟨.ref s.heap.objs.size,_,I.laid (t':=s.toks) (o:=.tup (cutV xs lo hi)) (fun b ob q=>Zb _ q) (zzR _) ?_,rfl,q _ (I.hok.fresh (zzR _))⟩;exact ⟨Zn (pC xs lo hi) hz,_,(r.drop (HT.wJ xs.length 0 lo)).take (HT.wJ xs.length xs.length hi-HT.wJ xs.length 0 lo),Zcl _ _⟩
def rCatT (K:PySem.W.Frag):R2:=fun x y H Q=>∃ a b xs ys,x=.ref a/\y=.ref b/\sP K H a xs/\sP K H b ys/\xs≠[]/\xs.length+ys.length<=sizeLine /\
 (ys=[]->Q (.ref a) H)/\(ys≠[]->∀ p,H p=none->Q (.ref p) (xP H p (.tup (xs++ys))))
theorem zF.nil_iff {xs:List V} {us:List Value} (r:zF xs us):us=[]↔xs=[]:=by
 cases r with
 |nil=>simp
 |cons _ _=>simp
theorem zhj:uM X (binaryOp .Add) (rCatT X.K):=by
 intro pins s σ H x y v u Q I rx ry h;obtain ⟨a,b,xs,ys,rfl,rfl,ha,hb,hx,hz,q1,q2⟩:=h;cases rx;cases ry;obtain ⟨its,r1,p1,_⟩:=I.tuple ha;obtain ⟨its2,r2,p2,_⟩:=I.tuple hb;refine HT.zig p1 p2 (fun z=>hx (r1.nil_iff.mp z)) (fun z=>⟨.ref a,H,I,rfl,q1 (r2.nil_iff.mp z)⟩) (fun z=>?_) (by rw[← r1.length,← r2.length];exact hz);refine ⟨.ref s.heap.objs.size,_,I.laid (t':=s.toks) (o:=.tup (xs++ys)) (fun b ob q=>Zb _ q) (zzR _) ?_,rfl,q2 (fun w=>z (r2.nil_iff.mpr w)) _ (I.hok.fresh (zzR _))⟩;exact ⟨by rw[zzW];exact hz,_,r1.append r2,Zcl _ _⟩
end
end L2
namespace L2
open PySem PySem.Spec PyProof.Rows
def nH (n:Nat) (i:Int):Option Nat:=if 0<=i then (if i<n then some i.toNat else none) else if -(n:Int)<=i then some (i+n).toNat else none
def sS {α:Type} (xs:List α) (i:Int):Option α:=(nH xs.length i).bind fun j=>xs[j]?
theorem zdf {n:Nat} {i:Int} {j:Nat} (h:nH n i=some j):seqIndex? i n=some j/\j<n/\-(n:Int)<=i/\i<n:=by
 unfold nH at h
 by_cases h0:0<=i
 .rw[if_pos h0] at h
  by_cases h1:i<n
  .rw[if_pos h1] at h;have e:i.toNat=j:=Zx h;exact ⟨by rw[seqIndex_of h0 h1,e],by omega,by omega,h1⟩
  .rw[if_neg h1] at h;cases h
 .rw[if_neg h0] at h
  by_cases h1:-(n:Int)<=i
  .rw[if_pos h1] at h;have e:(i+n).toNat=j:=Zx h;exact ⟨by rw[seqIndex_neg (by omega) h1,e],by omega,h1,by omega⟩
  .rw[if_neg h1] at h;cases h
theorem zaW {α:Type} {xs:List α} {i:Int} {v:α} (h:sS xs i=some v):∃ j,seqIndex? i xs.length=some j/\xs[j]?=some v/\j<xs.length/\-(xs.length:Int)<=i/\i<xs.length:=by
 unfold sS at h
 cases e:nH xs.length i with
 |none=>rw[e] at h;cases h
 |some j =>
  rw[e] at h;obtain ⟨h1,h2,h3,h4⟩:=zdf e;exact ⟨j,h1,h,h2,h3,h4⟩
def zd2 (b:Expr):Prop:=∀ o i,subscripted b false o i=operate [o,i] (getItem o i)
def IxR (X:Cx) (r:R2):Prop :=
 ∀ (value slice:Expr) (pins:List (Addr×Obj)) (s:Shared) (σ:St) (H:Hp) (x y:V) (v u:Value) (Q:VK),Inv X pins σ H s->yY x v->yY y u->r x y H Q ->
  subscripted slice false v u=operate [v,u] (getItem v u)->wpAny 'a' X.A (subscriptTail value slice v u) (EP X pins σ Q) X.xe s
def MtR (X:Cx) (id:String) (r:V->List V->Hp->VK->Prop):Prop :=
 ∀ (pins:List (Addr×Obj)) (s:Shared) (σ:St) (H:Hp) (x:V) (xs:List V) (v:Value) (us:List Value) (Q:VK),Inv X pins σ H s->yY x v->zF xs us->r x xs H Q ->
  wpAny 'a' X.A (call (.builtin id) (v::us)) (EP X pins σ Q) X.xe s
section
variable {X:Cx} {a b:Expr} {ta tb:TE} {pos:Pos}
theorem pe_ix {r:R2} (hr:IxR X r) (ha:PE X a ta) (hb:PE X b tb) (hs:zd2 b):PE X (.Subscript a b pos) (tOp r ta tb):=by
 intro pins s σ H Q I h;exact Subscript_ (binT ha hb I h fun v u s2 x y H2 I2 rx ry q=>hr a b pins s2 σ H2 x y v u Q I2 rx ry q (hs _ _))
def rIxL (K:PySem.W.Frag):R2:=fun x y H Q=>∃ p xs i v,x=.ref p/\y=.int i/\rW K H p xs/\sS xs i=some v/\Q v H
def rIxT (K:PySem.W.Frag):R2:=fun x y H Q=>∃ p xs i v,x=.ref p/\y=.int i/\sP K H p xs/\sS xs i=some v/\Q v H
def rIxS:R2:=fun x y H Q=>∃ z i c,x=.str z/\y=.int i/\z.length<=sizeLine/\sS z.cps.toList i=some c/\Q (.str ⟨#[c]⟩) H
theorem zht:IxR X (rIxL X.K):=by
 intro value slice pins s σ H x y v u Q I rx ry h hs;obtain ⟨p,xs,i,z,rfl,rfl,hq,he,q⟩:=h;cases rx;obtain ⟨t,rfl⟩:=ry;obtain ⟨its,r,pl,hz⟩:=I.list hq;obtain ⟨j,h1,h2,h3,h4,h5⟩:=zaW he;obtain ⟨w,ew,rw'⟩:=r.get h2;have hl:=r.length;have hn:=sX;have fin:EP X pins σ Q w s:=⟨z,H,I,rw',q⟩
 by_cases h0:0<=i
 .have hj:i.toNat=j:=by
   rw[seqIndex_of h0 h5] at h1;exact Zx h1
  exact item_listR pl.isList h0 (by omega) (by rw[hj];simpa using ew) fin hs
 .have hj:(i+(its.toArray.size:Int)).toNat=j:=by
   rw[seqIndex_neg (by omega) h4] at h1;rw[zzS,← hl];exact Zx h1
  exact subscriptTail_builtinR (x:=w) pl.isList.typeIs slot_list_getitem.lookup
   (wpAny_getItem_list_neg (Q:=fun r s'=>r=w/\EP X pins σ Q r s') pl.isList (by omega) (by rw[zzS]<;>omega) (by omega) (by rw[hj];simpa using ew) ⟨rfl,fin⟩) hs
theorem zj3:IxR X (rIxT X.K):=by
 intro value slice pins s σ H x y v u Q I rx ry h hs;obtain ⟨p,xs,i,z,rfl,rfl,hq,he,q⟩:=h;cases rx;obtain ⟨t,rfl⟩:=ry;obtain ⟨its,r,pl,hz⟩:=I.tuple hq;obtain ⟨j,h1,h2,h3,h4,h5⟩:=zaW he;obtain ⟨w,ew,rw'⟩:=r.get h2;have hl:=r.length;have hn:=sX;have fin:EP X pins σ Q w s:=⟨z,H,I,rw',q⟩
 exact subscriptTail_builtinR (x:=w) pl.typeIs slot_tuple_getitem.lookup
  (getItem_tuple (j:=j) (Q:=fun r s'=>r=w/\EP X pins σ Q r s') pl (by omega) (by omega) (by rw[zzS,← hl];exact h1) (by simpa using ew) ⟨rfl,fin⟩) hs
theorem zj4:IxR X rIxS:=by
 intro value slice pins s σ H x y v u Q I rx ry h hs;obtain ⟨z,i,c,rfl,rfl,hz,he,q⟩:=h;obtain ⟨t,rfl⟩:=rx;obtain ⟨t',rfl⟩:=ry;obtain ⟨j,h1,h2,h3,h4,h5⟩:=zaW he;have hl:z.cps.toList.length=z.length:=by simp[Str.length]
 rw[hl] at h1 h4 h5;have hn:=sX
 exact ZcC (Zb6 s z t) slot_str_getitem.lookup (getItem_str (c:=c) (by
  have e1:decide (i < -(2 ^ 63:Int))=false:=decide_eq_false (by omega);have e2:decide (i>=2 ^ 63)=false:=decide_eq_false (by omega);rw[e1,e2,Bool.or_false]) (by rw[h1];simpa using h2) ⟨.str ⟨#[c]⟩,H,I.tok _,⟨_,rfl⟩,q⟩) hs
theorem zbS (its:List Value) (n j:Nat) (u:Value):Obj.mapSeq (·.setIfInBounds j u) { cls:=.type "list", data:=.seq its.toArray n }={ cls:=.type "list", data:=.seq (its.set j u).toArray n }:=by
 simp[Obj.mapSeq]
theorem Inv.lst {pins:List (Addr×Obj)} {σ:St} {H:Hp} {s:Shared} {p:Addr} {xs:List V} (I:Inv X pins σ H s) (h:H p=some (.lst xs)) :
  ∃ (its:List Value) (n:Nat),zF xs its/\s.heap.get? p=some { cls:=.type "list", data:=.seq its.toArray n }/\xs.length<=sizeLine:=by
 obtain ⟨z,its,n,r,e⟩:=I.hok p _ h;exact ⟨its,n,r,e,z⟩
theorem Inv.lstUpd {pins:List (Addr×Obj)} {σ:St} {H:Hp} {s:Shared} {p:Addr} {xs ys:List V} {its its':List Value} {n n':Nat} {f:Obj->Obj} (I:Inv X pins σ H s) (h:H p=some (.lst xs))
  (ho:s.heap.get? p=some { cls:=.type "list", data:=.seq its.toArray n }) (hf:f { cls:=.type "list", data:=.seq its.toArray n }={ cls:=.type "list", data:=.seq its'.toArray n' }) (r:zF ys its') (hz:ys.length<=sizeLine) (t:Nat) (ht:0<t:=by first|exact ZI _|exact L2.Inv.tk (by assumption)|exact L2.Inv.tk ‹L2.Inv _ _ _ _ _› | assumption|omega) :
  Inv X pins σ (xP H p (.lst ys)) { s with heap:=s.heap.update p f,toks:=t }:=by
 have e:(s.heap.update p f).get? p=some { cls:=.type "list", data:=.seq its'.toArray n' }:=by
  rw[ZD f ho (by rw[hf]<;>rfl),hf]
 refine I.write (x:=p) (e:=p) (by rw[h];trivial) (.inl rfl) (fun b u hb q=>(Zq _ _ (Ne.symm hb)).trans q) ⟨_,e⟩ ?_;exact ⟨hz,its',n',r,e⟩
def rSetL:V->V->V->Hp->(Hp->Prop)->Prop:=fun o i v H Q=>∃ p xs k j,o=.ref p/\i=.int k/\H p=some (.lst xs)/\nH xs.length k=some j/\Q (xP H p (.lst (xs.set j v)))
theorem zes:PSet X rSetL:=by
 intro pins s σ H o i v ov iv u Q I ro ri rv h;obtain ⟨p,xs,k,j,rfl,rfl,hp,hj,q⟩:=h;cases ro;obtain ⟨t,rfl⟩:=ri;obtain ⟨its,n,r,ho,hz⟩:=I.lst hp;obtain ⟨h1,h2,h3,h4⟩:=zdf hj;have hl:=r.length;have hn:=sX
 have I':Inv X pins σ (xP H p (.lst (xs.set j v))) { s with heap:=s.heap.update p (Obj.mapSeq (·.setIfInBounds j u)) } :=
  I.lstUpd hp ho (zbS its n j u) (r.set rv j) (by rw[ZbI];exact hz) s.toks
 by_cases h0:0<=k
 .have hk:k.toNat=j:=by
   rw[seqIndex_of h0 h4] at h1;exact Zx h1
  exact PySem.W.ki_setAt ho h0 (by omega) (by rw[zzS,← hl];exact h4) (by rw[hk];exact ⟨_,I',q⟩)
 .have hk:(k+(its.toArray.size:Int)).toNat=j:=by
   rw[seqIndex_neg (by omega) h3] at h1;rw[zzS,← hl];exact Zx h1
  exact PySem.W.ki_setBack ho (by omega) (by rw[zzS,← hl];exact h3) (by omega) (by rw[hk];exact ⟨_,I',q⟩)
theorem zaa (lo hi:Option Int) (n:Nat):(sliceBounds lo hi none n).1=((HT.wJ n 0 lo:Nat):Int)/\(sliceBounds lo hi none n).2.1=((HT.wJ n n hi:Nat):Int)/\(sliceBounds lo hi none n).2.2=1:=by
 refine ⟨?_,?_,rfl⟩
 .cases lo with
  |none=>simp[sliceBounds,HT.wJ]
  |some i =>
   simp only[sliceBounds,HT.wJ,Option.getD_none,show (1:Int) > 0 by decide,if_true]
   by_cases h:i<0
   .simp only[h,if_true]<;>omega
   .simp only[h,if_false]<;>omega
 .cases hi with
  |none=>simp[sliceBounds,HT.wJ]
  |some i =>
   simp only[sliceBounds,HT.wJ,Option.getD_none,show (1:Int) > 0 by decide,if_true]
   by_cases h:i<0
   .simp only[h,if_true]<;>omega
   .simp only[h,if_false]<;>omega
theorem fD (its:List Value) (lo hi:Option Int):slicePick its.toArray lo hi none=((its.drop (HT.wJ its.length 0 lo)).take (HT.wJ its.length its.length hi-HT.wJ its.length 0 lo)).toArray:=by
 obtain ⟨h1,h2,h3⟩:=zaa lo hi its.toArray.size;unfold slicePick;rw[h1,h2,h3];simp only[sliceRange_one,pick_run,zzS]<;>rfl
def rSlL (K:PySem.W.Frag):V->Option Int->Option Int->Hp->VK->Prop:=fun x lo hi H Q=>∃ a xs,x=.ref a/\rW K H a xs/\∀ p,H p=none->Q (.ref p) (xP H p (.lst (cutV xs lo hi)))
theorem zcA:SlR X (rSlL X.K):=by
 intro pins s σ H x v vl vu lo hi sl Q I rx hs pl pu h;obtain ⟨a,xs,rfl,hx,q⟩:=h;cases rx;obtain ⟨its,r,ht,hz⟩:=I.list hx;have hlen:=r.length;refine ⟨"list", _,slot_list_getitem.lookup,ht.isList.typeIs,?_⟩;refine wpAny_getItem_list_slice ht.isList hs pl pu .none (by simp) ?_ (by rw[zzS]<;>omega);rw[fD,← hlen];refine ⟨.ref s.heap.objs.size,_,I.laid (t':=s.toks) (o:=.lst (cutV xs lo hi)) (fun b ob q=>Zb _ q) (zzR _) ?_,rfl,q _ (I.hok.fresh (zzR _))⟩;exact ⟨Zn (pC xs lo hi) hz,_,0,(r.drop (HT.wJ xs.length 0 lo)).take (HT.wJ xs.length xs.length hi-HT.wJ xs.length 0 lo),Zg _ rfl⟩
theorem zae:uM X (compareOp .NotIn) (fun x y H Q=>∃ i j,x=.str i/\y=.str j/\Q (.bl (!(!(Builtin.Str.occurrences j i 0 j.length 1).isEmpty))) H):=by
 intro pins s σ H x y v u Q I rx ry h;obtain ⟨i,j,rfl,rfl,q⟩:=h;obtain ⟨t,rfl⟩:=rx;obtain ⟨t',rfl⟩:=ry;exact notIn_str ⟨.bl _,H,I,rfl,q⟩
theorem vM:xB X (.builtin "len") (fun xs H Q=>∃ p ys,xs=[.ref p]/\(rW X.K H p ys\/sP X.K H p ys)/\Q (.int ys.length) H):=by
 intro pins s σ H xs us Q I r h;obtain ⟨p,ys,rfl,hq,q⟩:=h;obtain ⟨u,rfl,rx⟩:=jL r;cases rx;have hn:=sX;rcases hq with hq|hq
 .obtain ⟨its,r',pl,hz⟩:=I.list hq;have hlen:=r'.length;exact Calls.call_len_list pl.isList (by simp only[zzS]<;>omega) ⟨.int ys.length,H,I.tok _,⟨s.toks+1,by rw[zzS,hlen]⟩,q⟩
 .obtain ⟨its,r',pl,hz⟩:=I.tuple hq;have hlen:=r'.length;exact len_tuple pl (by simp only[zzS]<;>omega) ⟨.int ys.length,H,I.tok _,⟨s.toks+1,by rw[zzS,hlen]⟩,q⟩
theorem zao:xB X (.builtin "len") (fun xs H Q=>∃ z,xs=[.str z]/\z.length<=sizeLine/\Q (.int z.length) H):=by
 intro pins s σ H xs us Q I r h;obtain ⟨z,rfl,hz,q⟩:=h;obtain ⟨u,rfl,t,rfl⟩:=jL r;have hn:=sX;exact len_str (by omega) ⟨.int z.length,H,I.tok _,⟨_,rfl⟩,q⟩
theorem zan:xB X (.type "list") (fun xs H Q=>∃ p ys,xs=[.ref p]/\(rW X.K H p ys\/sP X.K H p ys)/\∀ l,H l=none->Q (.ref l) (xP H l (.lst ys))):=by
 intro pins s σ H xs us Q I r h;obtain ⟨p,ys,rfl,hq,q⟩:=h;obtain ⟨u,rfl,rx⟩:=jL r;cases rx
 have fin:∀ (its:List Value),zF ys its->ys.length<=sizeLine->∀ (h':Heap) (c':Nat),(∀ b o',s.heap.get? b=some o'->h'.get? b=some o') ->
   h'.get? s.heap.objs.size=some { cls:=.type "list", dict:=none,data:=.seq its.toArray c',slots:=#[] }->EP X pins σ Q (.ref s.heap.objs.size) { s with heap:=h' }:=fun its r' hz h' c' kp e =>
  ⟨.ref s.heap.objs.size,_,I.laid (t':=s.toks) kp (zzR _) (show xM X.prog X.w _ h' _ (.lst ys) from ⟨hz,its,c',r',e⟩),rfl,q _ (I.hok.fresh (zzR _))⟩
 rcases hq with hq|hq
 .obtain ⟨its,r',pl,hz⟩:=I.list hq;have hlen:=r'.length;obtain ⟨o,ho,hc,n,hd⟩:=pl.isList;exact call_list_seq p (.inl rfl) ho hc hd (fun h' c' kp e=>fin its r' hz h' c' kp e) (by simp only[zzS]<;>omega)
 .obtain ⟨its,r',pl,hz⟩:=I.tuple hq;have hlen:=r'.length;obtain ⟨o,ho,hc,n,hd⟩:=pl;exact call_list_seq p (.inr rfl) ho hc hd (fun h' c' kp e=>fin its r' hz h' c' kp e) (by simp only[zzS]<;>omega)
theorem dQ:xB X (.type "tuple") (fun xs H Q=>∃ p ys,xs=[.ref p]/\((rW X.K H p ys/\∀ l,H l=none->Q (.ref l) (xP H l (.tup ys)))\/(sP X.K H p ys/\Q (.ref p) H))):=by
 intro pins s σ H xs us Q I r h;obtain ⟨p,ys,rfl,h⟩:=h;obtain ⟨u,rfl,rx⟩:=jL r;cases rx;rcases h with ⟨hq,q⟩|⟨hq,q⟩
 .obtain ⟨its,r',pl,hz⟩:=I.list hq;have hlen:=r'.length;refine call_tuple_list pl.isList (fun h' kp=>?_) (by simp only[zzS]<;>omega);have I1:Inv X pins σ H { s with heap:=h' }:=I.kept (t':=s.toks) kp
  have I2:Inv X pins σ (xP H h'.objs.size (.tup ys)) { s with heap:=h'.push { cls:=.type "tuple", data:=.seq its.toArray } } :=
   I1.laid (t':=s.toks) (fun b o e=>Zb _ e) (zzR _) (show xM X.prog X.w _ _ _ (.tup ys) from ⟨hz,its,r',Zcl _ _⟩)
  exact ⟨.ref h'.objs.size,_,I2,rfl,q _ (I1.hok.fresh (zzR _))⟩
 .obtain ⟨its,r',pl,hz⟩:=I.tuple hq;exact call_tuple_same pl ⟨.ref p,H,I,rfl,q⟩
def tyV (K:PySem.W.Frag) (T:String) (x:V) (H:Hp):Prop:=match x with
 | .str _=>T = "str"
 | .int _=>T = "int"
 | .ref p=>(T = "list" /\ ∃ xs,rW K H p xs)\/(T = "tuple" /\ ∃ o,K.lookup p=some o/\o.cls=.type "tuple" /\ o.dict=none) \/
   (T = "dict" /\ ((∃ kvs,H p=some (.dK kvs))\/∃ kvs,H p=some (.dT kvs)))\/(T = "set" /\ ∃ S n,H p=some (.set S n))
 |_=>False
theorem zfL {pins:List (Addr×Obj)} {σ:St} {H:Hp} {s:Shared} {T:String} {x:V} {v:Value} (I:Inv X pins σ H s) (r:yY x v) (ty:tyV X.K T x H) :
  s.TypeIs v T/\∀ a,v=.ref a->∃ ob,s.heap.get? a=some ob/\ob.dict=none:=by
 cases x with
 |str z =>
  obtain ⟨t,rfl⟩:=r;cases (show T = "str" from ty);exact ⟨Zb6 s z t,fun _ e=>nomatch e⟩
 |int i =>
  obtain ⟨t,rfl⟩:=r;cases (show T = "int" from ty);exact ⟨ZbF s i t,fun _ e=>nomatch e⟩
 |ref p =>
  cases r;rcases ty with ⟨rfl,xs,hq⟩|⟨rfl,o,hk,hc,hd⟩|⟨rfl,hk⟩|⟨rfl,S,n,hk⟩
  .obtain ⟨its,_,pl,_⟩:=I.list hq;refine ⟨pl.isList.typeIs,fun a e=>?_⟩;cases e;obtain ⟨o,n,e,c,hd,_⟩:=pl;exact ⟨o,e,hd⟩
  .refine ⟨⟨o,I.kIn p o hk,hc⟩,fun a e=>?_⟩;cases e;exact ⟨o,I.kIn _ o hk,hd⟩
  .have z:∃ o,s.heap.get? p=some o/\o.ExactDict:=by
    rcases hk with ⟨kvs,hk⟩|⟨kvs,hk⟩
    .obtain ⟨_,_,_,_,o,_,_,e,ex,_⟩:=I.hok p _ hk;exact ⟨o,e,ex⟩
    .obtain ⟨_,_,_,_,o,_,_,e,ex,_⟩:=I.hok p _ hk;exact ⟨o,e,ex⟩
   obtain ⟨o,e,ex⟩:=z;refine ⟨⟨o,e,ex.1⟩,fun a e2=>?_⟩;cases e2;exact ⟨o,e,ex.2.1⟩
  .obtain ⟨o,_,_,_,e,ex,_⟩:=I.hok p _ hk;refine ⟨⟨o,e,ex.1⟩,fun a e2=>?_⟩;cases e2;exact ⟨o,e,ex.2.1⟩
 |_=>exact False.elim ty
def tBM0 (K:PySem.W.Frag) (T:String) (r:V->List V->Hp->VK->Prop) (to:TE):TE:=fun σ H Q=>to σ H fun x H1=>tyV K T x H1/\r x [] H1 Q
def tBM (K:PySem.W.Frag) (T:String) (r:V->List V->Hp->VK->Prop) (to:TE) (t:TA):TE:=fun σ H Q=>to σ H fun x H1=>tyV K T x H1/\t σ H1 fun xs H2=>r x xs H2 Q
variable {o e:Expr} {es:List Expr} {to:TE} {t:TA} {name:Str} {apos cpos:Pos} {T id:String} {r:V->List V->Hp->VK->Prop}
theorem zjt (pa:PlainAttrs T) (slot:Slot T name id) (hty:typeOf (.builtin id)=pure (.type "method_descriptor")) (hm:MtR X id r) (ho:PE X o to)
  (hbase:attributeBase o name X.env (eval o X.env)=eval o X.env:=by rfl) (hline:(apos.endLine==cpos.line)=true:=by rfl):PE X (.Call (.Attribute o name apos) [] [] cpos) (tBM0 X.K T r to):=by
 intro pins s σ H Q I h;refine wpAny_Call_method0_late hbase hline (xQ (ho pins s σ H _ I h) fun v s1 ⟨x,H1,I1,r1,ty,q1⟩=>?_);obtain ⟨h1,h2⟩:=zfL I1 r1 ty;exact ⟨T,id,pa,slot,hty,h1,h2,Calls.callWith_builtin rfl (PySem.evalArgs_none (hm pins s1 σ H1 x [] v [] Q I1 r1 .nil q1))⟩
theorem pe_bm (pa:PlainAttrs T) (slot:Slot T name id) (hty:typeOf (.builtin id)=pure (.type "method_descriptor")) (hm:MtR X id r) (ho:PE X o to) (ha:PA X (e::es) t)
  (hbase:attributeBase o name X.env (eval o X.env)=eval o X.env:=by rfl)
  (hfew:((backTo cpos (starEach (e::es) X.env)).all (fun x=>!x.1)&&(backToKw cpos (keywordEach [] X.env)).all (fun x=>x.1.isSome)
   && decide ((e::es).length+([]:List Keyword).length+(if ([]:List Keyword).isEmpty then 0 else 1)<30))=true:=by rfl)
  (hline:(apos.endLine==cpos.line)=true:=by rfl) (hs:starEach (e::es) X.env=(false,eval e X.env)::starEach es X.env:=by rfl) (hplain:(backTo cpos (starEach es X.env)).any (·.1)=false:=by rfl) :
  PE X (.Call (.Attribute o name apos) (e::es) [] cpos) (tBM X.K T r to t):=by
 intro pins s σ H Q I h;refine wpAny_Call_method_late hbase hfew hline rfl (xQ (ho pins s σ H _ I h) fun v s1 ⟨x,H1,I1,r1,ty,q1⟩=>?_);obtain ⟨h1,h2⟩:=zfL I1 r1 ty;refine ⟨T,id,pa,slot,hty,h1,h2,?_⟩;have hA:=ha cpos pins s1 σ H1 _ I1 q1;rw[hs] at hA ⊢;refine Calls.callWith_builtin (by show (false || (backTo cpos (starEach es X.env)).any (·.1))=false;rw[hplain]<;>rfl) (Calls.evalArgs_plain ?_);exact xQ hA fun us s2 ⟨vs,H2,I2,r2,q2⟩=>hm pins s2 σ H2 x vs v us Q I2 r1 r2 q2
/- xs.append(e),list.index on a module's tuple .. are MtR facts of 06m -/
end
end L2
namespace L2
open PySem PySem.Spec PyProof.Rows
def MtM (X:Cx) (id:String) (r:V->List V->Hp->VK->Prop):Prop :=
 ∀ (pins:List (Addr×Obj)) (s:Shared) (σ:St) (H:Hp) (x:V) (xs:List V) (v:Value) (us:List Value) (Q:VK),Inv X pins σ H s->yY x v->zF xs us->r x xs H Q ->
  wpAny 'a' X.A (call (.builtin id) (v::us)) (EP X pins σ Q) X.xe s
theorem zF.one:∀ {x:V} {us:List Value},zF [x] us->∃ u,us=[u]/\yY x u
 |_,_,.cons r .nil=>⟨_,rfl,r⟩
theorem zF.zero:∀ {us:List Value},zF [] us->us=[]
 |_,.nil=>rfl
theorem zF.dropLast {xs:List V} {us:List Value} (h:zF xs us):zF xs.dropLast us.dropLast:=by
 induction h with
 |nil=>exact .nil
 |cons r t ih =>
  cases t with
  |nil=>exact .nil
  |cons q t'=>exact .cons r ih
theorem zF.reverse {xs:List V} {us:List Value} (h:zF xs us):zF xs.reverse us.reverse:=by
 induction h with
 |nil=>exact .nil
 |cons r t ih=>rw[Zaq,Zaq];exact zF.append ih (.cons r .nil)
theorem zF.rep {xs:List V} {us:List Value} (h:zF xs us):∀ k:Nat,zF (List.replicate k xs).flatten (List.replicate k us).flatten
 | 0=>.nil
 |k+1=>by
  rw[Zag,Zag,ZaH,ZaH];exact zF.append h (zF.rep h k)
theorem zbW {α:Type} (l:List α):l.eraseIdx (l.length-1)=l.dropLast:=by
 induction l with
 |nil=>rfl
 |cons a r ih =>
  cases r with
  |nil=>rfl
  |cons b r =>
   have e:(a::b::r).length-1=((b::r).length-1)+1:=by
    have h1:(a::b::r).length=r.length+2:=rfl;have h2:(b::r).length=r.length+1:=rfl;omega
   rw[e,List.eraseIdx_cons_succ,ih]
   all_goals rfl
theorem bU (its:List Value):∀ (k:Nat) (acc:List Value),
  List.foldl (fun x1 x2=>x1++x2) acc.toArray (List.replicate k its.toArray)=(acc++(List.replicate k its).flatten).toArray
 | 0,acc=>by simp
 |k+1,acc=>by
  have e:acc.toArray++its.toArray=(acc++its).toArray:=by simp
  have e2:(acc++its)++(List.replicate k its).flatten=acc++(List.replicate (k+1) its).flatten:=by
   rw[Zag,ZaH,Zbq]
  rw[← e2,← bU its k (acc++its),← e,Zag,List.foldl_cons]
section
variable {X:Cx} {pins:List (Addr×Obj)} {σ:St} {H:Hp} {s:Shared} {l b:Addr} {xs ys zs:List V}
theorem Inv.lset {its its':List Value} {n:Nat} {f:Array Value->Array Value} {t':Nat} (I:Inv X pins σ H s) (hH:H l=some (.lst xs))
  (e:s.heap.get? l=some { cls:=.type "list", data:=.seq its.toArray n }) (hf:f its.toArray=its'.toArray) (hv:zF ys its') (hz:ys.length<=sizeLine) (ht:0<t':=by first|exact ZI _|exact L2.Inv.tk (by assumption)|exact L2.Inv.tk ‹L2.Inv _ _ _ _ _› | assumption|omega) :
  Inv X pins σ (xP H l (.lst ys)) { s with heap:=s.heap.update l (Obj.mapSeq f),toks:=t' }:=by
 have q:=PySem.IsL.update e f;rw[hf] at q;refine I.write (x:=l) (e:=l) (by rw[hH];exact trivial) (.inl rfl) (fun b' u hb hu=>(Zq s.heap (Obj.mapSeq f) (Ne.symm hb)).trans hu) ⟨_,q⟩ ?_;exact ⟨hz,its',_,hv,q⟩
theorem Inv.lnew {its:List Value} {t':Nat} (I:Inv X pins σ H s) (hv:zF ys its) (hz:ys.length<=sizeLine) (ht:0<t':=by first|exact ZI _|exact L2.Inv.tk (by assumption)|exact L2.Inv.tk ‹L2.Inv _ _ _ _ _› | assumption|omega) :
  Inv X pins σ (xP H s.heap.objs.size (.lst ys)) { s with heap:=s.heap.push { cls:=.type "list", data:=.seq its.toArray },toks:=t' } :=
 I.laid (fun _ _ q=>Zb _ q) (zzR _) ⟨hz,its,0,hv,Zg _ rfl⟩
theorem Inv.fresh (I:Inv X pins σ H s):H s.heap.objs.size=none:=I.hok.fresh (zzR _)
theorem Inv.lstM (I:Inv X pins σ H s) (hH:H l=some (.lst xs)):xs.length<=sizeLine/\∃ (its:List Value) (n:Nat),zF xs its/\xs.length=its.length/\s.heap.get? l=some { cls:=.type "list", data:=.seq its.toArray n }:=by
 obtain ⟨z,its,n,r,e⟩:=I.hok l _ hH;exact ⟨z,its,n,r,r.length,e⟩
theorem zeV {n:Nat} (h:n<=sizeLine):Builtin.List.listTooLong n=false:=by
 unfold Builtin.List.listTooLong;exact decide_eq_false (by omega)
end
section
variable {X:Cx}
def zgX:V->List V->Hp->VK->Prop:=fun x vs H Q=>∃ l xs y,x=.ref l/\vs=[y]/\H l=some (.lst xs)/\xs.length<sizeLine/\Q .non (xP H l (.lst (xs++[y])))
theorem zcY:MtM X "list.append" zgX:=by
 intro pins s σ H x vs v us Q I rx rv h;obtain ⟨l,xs,y,rfl,rfl,hH,hz,q⟩:=h;cases rx;obtain ⟨u,rfl,ru⟩:=rv.one;obtain ⟨z,its,n,r,hl,e⟩:=I.lstM hH;refine Zav F.slot_list_append ⟨_,e,rfl⟩ F.entry_list_append (F.args_list_append_2 _ _) (PySem.list_append l its.toArray n u (by rw[zzS];omega)) ⟨e,?_⟩;refine ⟨.non,_,I.lset (its':=its++[u]) hH e (by simp) (r.append (.cons ru .nil)) ?_,rfl,q⟩;rw[zzW,List.length_singleton];omega
def rPop:V->List V->Hp->VK->Prop:=fun x vs H Q=>∃ l xs y,x=.ref l/\vs=[]/\H l=some (.lst xs)/\xs[xs.length-1]?=some y/\Q y (xP H l (.lst xs.dropLast))
theorem zjL:MtM X "list.pop" rPop:=by
 intro pins s σ H x vs v us Q I rx rv h;obtain ⟨l,xs,y,rfl,rfl,hH,hy,q⟩:=h;cases rx;have hus:=rv.zero;subst hus;obtain ⟨z,its,n,r,hl,e⟩:=I.lstM hH;obtain ⟨u,hu,ru⟩:=r.get hy
 have hy':its.toArray[its.toArray.size-1]?=some u:=by
  show its.toArray[its.length-1]?=some u;rw[← ZaY,← hl];exact hu
 refine Zav F.slot_list_pop ⟨_,e,rfl⟩ F.entry_list_pop (F.args_list_pop_1 _) (MeetsSeq.list_pop_last l its.toArray n u hy' (by rw[zzS];omega)) ⟨e,?_⟩;refine ⟨y,_,I.lset (its':=its.dropLast) hH e ?_ r.dropLast ?_,ru,q⟩
 .show its.toArray.eraseIdxIfInBounds (its.toArray.size-1)=its.dropLast.toArray;rw[zzS,List.eraseIdxIfInBounds_toArray,zbW]
 .rw[ZbB];omega
def rCat:R2:=fun x y H Q=>∃ l b xs zs,x=.ref l/\y=.ref b/\H l=some (.lst xs)/\H b=some (.lst zs)/\xs.length+zs.length<=sizeLine/\∀ p,H p=none->Q (.ref p) (xP H p (.lst (xs++zs)))
theorem zjC:uM X (binaryOp .Add) rCat:=by
 intro pins s σ H x y v u Q I rx ry h;obtain ⟨l,b,xs,zs,rfl,rfl,hH,hB,hz,q⟩:=h;cases rx;cases ry;obtain ⟨z,its,n,r,hl,e⟩:=I.lstM hH;obtain ⟨z2,its2,n2,r2,hl2,e2⟩:=I.lstM hB;refine PySem.P.add_list e e2 ?_ (by rw[zzS,zzS];omega);have ea:its.toArray++its2.toArray=(its++its2).toArray:=by simp
 rw[ea];exact ⟨.ref _,_,I.lnew (t':=s.toks) (r.append r2) (by rw[zzW];omega),rfl,q _ I.fresh⟩
def rRep:R2:=fun x y H Q=>∃ l k xs,x=.ref l/\y=.int k/\H l=some (.lst xs)/\-(2 ^ 63)<=k/\k<2 ^ 63/\xs.length * k.toNat<=sizeLine /\
 ∀ p,H p=none->Q (.ref p) (xP H p (.lst (List.replicate k.toNat xs).flatten))
theorem zhp {α:Type} (xs:List α) (k:Nat):(List.replicate k xs).flatten.length=k * xs.length:=by
 induction k with
 |zero=>simp
 |succ k ih=>rw[Zag,ZaH,zzW,ih,Nat.succ_mul,Nat.add_comm]
theorem zjy:uM X (binaryOp .Mult) rRep:=by
 intro pins s σ H x y v u Q I rx ry h;obtain ⟨l,k,xs,rfl,rfl,hH,h1,h2,hz,q⟩:=h;cases rx;obtain ⟨t,rfl⟩:=ry;obtain ⟨z,its,n,r,hl,e⟩:=I.lstM hH;have hlen:its.toArray.size * k.toNat<=sizeLine:=by rw[zzS,← hl];exact hz
 have hcap:¬ its.toArray.size * k.toNat > (2 ^ 63-1) / 8:=by
  have:(sizeLine:Nat)<=(2 ^ 63-1) / 8:=by decide
  omega
 have hfit:¬ (!Builtin.List.listFitsIndex k)=true:=by
  rw[fitsIndex_both h1 h2];exact zzN
 have hlong:¬ Builtin.List.listTooLong (its.toArray.size * k.toNat)=true:=by
  rw[zeV hlen];exact zzN
 have hnew:List.foldl (fun x1 x2=>x1++x2) #[] (List.replicate (if its.toArray.isEmpty=true then 0 else k.toNat) its.toArray)=(List.replicate k.toNat its).flatten.toArray:=by
  have f0:∀ m:Nat,List.foldl (fun x1 x2=>x1++x2) #[] (List.replicate m its.toArray)=(List.replicate m its).flatten.toArray:=fun m=>by
   have:=bU its m [];rw[Za1] at this;exact this
  rw[f0]
  cases its with
  |nil=>simp
  |cons a r'=>rw[if_neg (by simp)]
 refine Za9 (T := "list") (U := "int") (by decide) ⟨_,e,rfl⟩ (fun s'=>ZbF s' k t) noFill_list_mul Zcj ZaZ repeat_list Zca.lookup
  (Zav ZaZ (ZbF s k t) Zb9 (Zb2 _ _) (int___rmul___int_list k t l its.toArray n)
   ⟨e,rfl,⟨_,e,rfl⟩,Zav F.slot_list_mul ⟨_,e,rfl⟩ F.entry_list_mul (F.args_list_mul_2 _ _) (AutoListH.list___mul___list_int_3 l its.toArray n k t hfit hcap hlong) ⟨e,?_⟩⟩)
 rw[hnew];exact ⟨.ref _,_,I.lnew (t':=s.toks) (r.rep k.toNat) (by rw[zhp,Nat.mul_comm];exact hz),rfl,q _ I.fresh⟩
end
section
variable {prog:Program} {w:World} {A:Around} {E:Value->Shared->Prop} {s:Shared}
set_option maxRecDepth 100000 in
end
section
variable {X:Cx}
end
end L2
namespace L2
open PySem PySem.Spec PyProof.Rows
section
variable {κ:Type} [DecidableEq κ]
def vG (kvs:List (κ×V)) (k:κ):Option V:=(kvs.find? fun kv=>decide (kv.1=k)).map (·.2)
def vF (kvs:List (κ×V)) (k:κ) (v:V):List (κ×V) :=
 if (kvs.any fun kv=>decide (kv.1=k))=true then kvs.map (fun kv=>if kv.1=k then (kv.1,v) else kv) else kvs++[(k,v)]
theorem mY {p:κ×V} {r:List (κ×V)} {k:κ} (e:p.1=k):vG (p::r) k=some p.2:=by simp[vG,ZZ,e]
theorem mW {p:κ×V} {r:List (κ×V)} {k:κ} (e:¬ p.1=k):vG (p::r) k=vG r k:=by simp[vG,ZZ,e]
theorem zaZ (k:κ):∀ kvs:List (κ×V),(kvs.any fun kv=>decide (kv.1=k))=(vG kvs k).isSome
 | []=>rfl
 |p::r=>by
  rw[Zay]
  by_cases e:p.1=k
  .simp only[mY e,decide_eq_true e,Bool.true_or,Option.isSome_some]
  .rw[mW e,decide_eq_false e,Zcz];exact zaZ k r
theorem uS (kvs:List (κ×V)) (k:κ) (v:V):(vF kvs k v).length<=kvs.length+1:=by
 unfold vF
 split
 .rw[zzM];omega
 .rw[zzW,Zf,Zo];omega
theorem dN.isSome_eq {o:Option V} {u:Option Value} (r:dN o u):o.isSome=u.isSome:=by
 cases o with
 |none=>cases u with
  |none=>rfl
  |some _=>exact (show False from r).elim
 |some _=>cases u with
  |none=>exact (show False from r).elim
  |some _=>rfl
theorem KV.val {kvs:List (κ×V)} {vs:List (κ×Value)} (r:KV kvs vs) (k:κ):dN (vG kvs k) (valueAt vs k):=by
 unfold KV at r
 induction r with
 |nil=>exact True.intro
 | @cons p q ps qs h t ih =>
  obtain ⟨h1,h2⟩:=h
  by_cases e:p.1=k
  .have e':q.1=k:=h1.symm.trans e;have b:valueAt (q::qs) k=some q.2:=by simp[valueAt,ZZ,e']
   rw[mY e,b];exact h2
  .have e':¬ q.1=k:=fun z=>e (h1.trans z);have b:valueAt (q::qs) k=valueAt qs k:=by simp[valueAt,ZZ,e']
   rw[mW e,b];exact ih
theorem KV.any {kvs:List (κ×V)} {vs:List (κ×Value)} (r:KV kvs vs) (k:κ):(kvs.any fun kv=>decide (kv.1=k))=vs.any fun kv=>decide (kv.1=k):=by
 unfold KV at r
 induction r with
 |nil=>rfl
 |cons h t ih=>rw[Zay,Zay,ih,h.1]
theorem KV.repl {kvs:List (κ×V)} {vs:List (κ×Value)} (r:KV kvs vs) (k:κ) {y:V} {u:Value} (ry:yY y u) :
  KV (kvs.map fun kv=>if kv.1=k then (kv.1,y) else kv) (vs.map fun kv=>if kv.1=k then (kv.1,u) else kv):=by
 unfold KV at r ⊢
 induction r with
 |nil=>exact .nil
 | @cons p q ps qs h t ih =>
  rw[zzU,zzU];refine .cons ?_ ih;obtain ⟨h1,h2⟩:=h
  by_cases e:p.1=k
  .rw[if_pos e,if_pos (h1.symm.trans e)];exact ⟨h1,ry⟩
  .rw[if_neg e,if_neg (fun z=>e (h1.trans z))];exact ⟨h1,h2⟩
theorem KV.put {kvs:List (κ×V)} {vs:List (κ×Value)} (r:KV kvs vs) (k:κ) {y:V} {u:Value} (ry:yY y u):KV (vF kvs k y) (stored vs k u):=by
 unfold vF stored;rw[r.any k]
 by_cases e:(vs.any fun kv=>decide (kv.1=k))=true
 .rw[if_pos e,if_pos e];exact r.repl k ry
 .rw[if_neg e,if_neg e];exact Paired.snoc r ⟨rfl,ry⟩
theorem KV.keys {kvs:List (κ×V)} {vs:List (κ×Value)} (r:KV kvs vs):kvs.map (·.1)=vs.map (·.1):=by
 unfold KV at r
 induction r with
 |nil=>rfl
 |cons h t ih=>rw[zzU,zzU,ih,h.1]
theorem KV.length {kvs:List (κ×V)} {vs:List (κ×Value)} (r:KV kvs vs):kvs.length=vs.length:=Zb7 r
end
theorem cG {P:Program} {w:World} {k:yM} {u:Value} (r:yY (kV k) u):(xN P w).is k u=true:=by
 cases k with
 |inl i=>obtain ⟨t,e⟩:=(show ∃ t,u=Value.int i t from r);subst e;exact zaC P w i t
 |inr x=>obtain ⟨t,e⟩:=(show ∃ t,u=Value.str x t from r);subst e;exact zaB P w x t
theorem cD {P:Program} {w:World}:∀ {ks:List yM} {us:List Value},zF (ks.map kV) us->ItemsAre (xN P w) ks us
 | [],_,r=>by rw[zzV] at r;cases r;exact .nil
 |k::ks,_,r=>by
  rw[zzU] at r
  cases r with
  |cons h t=>exact .cons (cG h) (cD t)
abbrev KT (H:Hp):List (List yM×V)->List (List yM×Addr×Value)->Prop:=Paired fun p q=>p.1=q.1/\H q.2.1=some (.tup (p.1.map kV))/\yY p.2 q.2.2
theorem KT.val {H:Hp} {kvs:List (List yM×V)} {xs:List (List yM×Addr×Value)} (r:KT H kvs xs) (k:List yM):dN (vG kvs k) ((atKey xs k).map (·.2)):=by
 induction r with
 |nil=>exact True.intro
 | @cons p q ps qs h t ih =>
  obtain ⟨h1,_,h2⟩:=h
  by_cases e:p.1=k
  .have e':q.1=k:=h1.symm.trans e;have b:atKey (q::qs) k=some q.2:=by simp[atKey,ZZ,e']
   rw[mY e,b];exact h2
  .have e':¬ q.1=k:=fun z=>e (h1.trans z);have b:atKey (q::qs) k=atKey qs k:=by simp[atKey,ZZ,e']
   rw[mW e,b];exact ih
theorem KT.repl {H:Hp} {kvs:List (List yM×V)} {xs:List (List yM×Addr×Value)} (r:KT H kvs xs) (k:List yM) {y:V} {u:Value} (ry:yY y u) :
  KT H (kvs.map fun kv=>if kv.1=k then (kv.1,y) else kv) (xs.map (putAt k u)):=by
 induction r with
 |nil=>exact .nil
 | @cons p q ps qs h t ih =>
  rw[zzU,zzU];refine .cons ?_ ih;obtain ⟨h1,h2,h3⟩:=h;unfold putAt
  by_cases e:p.1=k
  .rw[if_pos e,if_pos (h1.symm.trans e)];exact ⟨h1,h2,ry⟩
  .rw[if_neg e,if_neg (fun z=>e (h1.trans z))];exact ⟨h1,h2,h3⟩
theorem KT.put {H:Hp} {kvs:List (List yM×V)} {xs:List (List yM×Addr×Value)} (r:KT H kvs xs) (k:List yM) {b:Addr} {y:V} {u:Value} (hb:H b=some (.tup (k.map kV))) (ry:yY y u) :
  KT H (vF kvs k y) (storedH xs k b u):=by
 have e:(kvs.any fun kv=>decide (kv.1=k))=(atKey xs k).isSome:=by
  rw[zaZ,(r.val k).isSome_eq,Zb5]
 unfold vF storedH;rw[e]
 by_cases q:(atKey xs k).isSome=true
 .rw[if_pos q,if_pos q];exact r.repl k ry
 .rw[if_neg q,if_neg q];exact Paired.snoc r ⟨rfl,hb,ry⟩
theorem KT.keeps {H H':Hp} {kvs:List (List yM×V)} {xs:List (List yM×Addr×Value)} (r:KT H kvs xs) (ht:∀ b ys,H b=some (.tup ys)->H' b=some (.tup ys)):KT H' kvs xs :=
 Paired.mapP r fun _ _ z=>⟨z.1,ht _ _ z.2.1,z.2.2⟩
section
variable {P:Program} {w:World} {H:Hp} {h:Heap} {a:Addr}
theorem zi3 {u:HO} (ok:uK P w H h) (e:Rd H a u):xM P w H h a u:=e.ok ok
theorem pD {kvs:List (yM×V)} (ok:uK P w H h) (e:Rd H a (.dK kvs)):kvs.length<=sizeLine/\(a==sysModules)=false/\∃ vs,KV kvs vs/\h.DictOf (xN P w) a vs :=
 show xM P w H h a (.dK kvs) from zi3 ok e
theorem zkA {kvs:List (yM×V)} (ok:uK P w H h) (e:H a=some (.dK kvs)):kvs.length<=sizeLine/\(a==sysModules)=false/\∃ vs,KV kvs vs/\h.DictOf (xN P w) a vs:=pD ok (.inl e)
theorem fY {ks:List yM} (ok:uK P w H h) (e:H a=some (.tup (ks.map kV))):(tupleKind (xN P w)).is h ks a:=by
 obtain ⟨_,its,r,o,h1,h2,n,h3⟩:=(show xM P w H h a (.tup (ks.map kV)) from ok a _ e);exact ⟨o,its.toArray,n,h1,h2,h3,by simpa using cD r⟩
theorem zdF {kvs:List (List yM×V)} (ok:uK P w H h) (e:Rd H a (.dT kvs)):kvs.length<=sizeLine/\(a==sysModules)=false /\
  ∃ xs,KT H kvs xs/\h.DictOfH (tupleKind (xN P w)) a xs:=by
 obtain ⟨z,y,xs,r,o,es,ep,h1,h2,h3,h4,h5⟩:=(show xM P w H h a (.dT kvs) from zi3 ok e);refine ⟨z,y,xs,r,o,es,ep,h1,h2,h3,h4,fun x hx=>?_,h5⟩
 have all:∀ {l:List (List yM×V)} {m:List (List yM×Addr×Value)},KT H l m->∀ x∈m,(tupleKind (xN P w)).is h x.1 x.2.1:=by
  intro l m q
  induction q with
  |nil=>intro x hx;exact nomatch hx
  | @cons p q ps qs hq t ih =>
   intro x hx;rcases Zp.mp hx with e|hx
   .subst e;exact fY ok (by rw[← hq.1];exact hq.2.1)
   .exact ih x hx
 exact all r x hx
theorem dt_of {kvs:List (List yM×V)} (ok:uK P w H h) (e:H a=some (.dT kvs)):kvs.length<=sizeLine/\(a==sysModules)=false /\
  ∃ xs,KT H kvs xs/\h.DictOfH (tupleKind (xN P w)) a xs:=zdF ok (.inl e)
end
def DGet (H:Hp) (a:Addr) (y:V) (r:Option V):Prop :=
 (∃ kvs k,Rd H a (.dK kvs)/\y=kV k/\r=vG kvs k)\/∃ kvs k b,Rd H a (.dT kvs)/\y=.ref b/\H b=some (.tup (k.map kV))/\r=vG kvs k
def DPut (H:Hp) (a:Addr) (y v:V) (H':Hp):Prop :=
 (∃ kvs k,H a=some (.dK kvs)/\y=kV k/\kvs.length<sizeLine/\H'=xP H a (.dK (vF kvs k v))) \/
 ∃ kvs k b,H a=some (.dT kvs)/\y=.ref b/\H b=some (.tup (k.map kV))/\kvs.length<sizeLine/\H'=xP H a (.dT (vF kvs k v))
section
variable {X:Cx} {pins:List (Addr×Obj)} {σ:St} {H:Hp} {s:Shared} {a:Addr} {y v:V} {u r:Value} {o:Option V} {A:Around} {E:Value->Shared->Prop}
theorem Inv.big (I:Inv X pins σ H s):sysModules<s.heap.objs.size:=by
 have h:mainGlobals<s.heap.objs.size:=(I.mod.glob.keeps I.bk).lt;exact Nat.lt_trans (by decide) h
theorem zdL {Q:Value->Shared->Prop} (hu:A.units+1<cLine) (I:Inv X pins σ H s) (g:DGet H a y (some v)) (ry:yY y u) (h:∀ w' s',Inv X pins σ H s'->yY v w'->Q w' s') :
  wpAny 'a' A (getItem (.ref a) u) Q E s:=by
 rcases g with ⟨kvs,k,e,ey,l⟩|⟨kvs,k,b,e,ey,eb,l⟩
 .subst ey;obtain ⟨z,hd,vs,rel,dd⟩:=pD I.hok e;obtain ⟨w',hw,rw'⟩:=dN.some_of (v:=v) (o:=valueAt vs k) (by rw[l];exact rel.val k);exact wpAny_getItem_of (cG ry) dd.mapOf hw (h w' _ (I.tok _) rw')
 .subst ey;cases (show u=Value.ref b from ry);obtain ⟨z,hd,xs,rel,dd⟩:=zdF I.hok e;obtain ⟨w',hw,rw'⟩:=dN.some_of (v:=v) (o:=(atKey xs k).map (·.2)) (by rw[l];exact rel.val k);obtain ⟨p,hp,hp2⟩:=Zs.mp hw;refine wpAny_getItem_heap (Zbn hu) (fY I.hok eb) dd hp ?_;rw[hp2];exact h w' _ (I.tok _) rw'
theorem d_in {Q:Value->Shared->Prop} (hu:A.units+1<cLine) (I:Inv X pins σ H s) (g:DGet H a y o) (ry:yY y u) (h:∀ s',Inv X pins σ H s'->Q (.bool o.isSome) s') :
  wpAny 'a' A (compareOp .In u (.ref a)) Q E s:=by
 rcases g with ⟨kvs,k,e,ey,l⟩|⟨kvs,k,b,e,ey,eb,l⟩
 .subst ey;obtain ⟨z,hd,vs,rel,dd⟩:=pD I.hok e;refine wpAny_in_of (cG ry) hd dd.mapOf ?_;rw[← (rel.val k).isSome_eq,← l];exact h _ (I.tok _)
 .subst ey;cases (show u=Value.ref b from ry);obtain ⟨z,hd,xs,rel,dd⟩:=zdF I.hok e;refine wpAny_in_heap (Zbn hu) (fY I.hok eb) hd dd ?_;have q:=(rel.val k).isSome_eq;rw[Zb5] at q;rw[← q,← l];exact h _ (I.tok _)
theorem zia {Q:Value->Shared->Prop} (hu:A.units+1<cLine) (I:Inv X pins σ H s) (g:DGet H a y o) (ry:yY y u) (h:∀ s',Inv X pins σ H s'->Q (.bool (!o.isSome)) s') :
  wpAny 'a' A (compareOp .NotIn u (.ref a)) Q E s:=by
 rcases g with ⟨kvs,k,e,ey,l⟩|⟨kvs,k,b,e,ey,eb,l⟩
 .subst ey;obtain ⟨z,hd,vs,rel,dd⟩:=pD I.hok e;refine wpAny_notIn_of (cG ry) hd dd.mapOf ?_;rw[← (rel.val k).isSome_eq,← l];exact h _ (I.tok _)
 .subst ey;cases (show u=Value.ref b from ry);obtain ⟨z,hd,xs,rel,dd⟩:=zdF I.hok e;refine wpAny_notIn_heap (Zbn hu) (fY I.hok eb) hd dd ?_;have q:=(rel.val k).isSome_eq;rw[Zb5] at q;rw[← q,← l];exact h _ (I.tok _)
theorem zaO {h':Heap} {t':Nat} {ob:HO} (I:Inv X pins σ H s) (mu:Mut (H a)) (hs:Heap.SameBut a s.heap h') (he:∃ q,h'.get? a=some q) (new:xM X.prog X.w (xP H a ob) h' a ob) (ht:0<t':=by first|exact ZI _|exact L2.Inv.tk (by assumption)|exact L2.Inv.tk ‹L2.Inv _ _ _ _ _› | assumption|omega) :
  Inv X pins σ (xP H a ob) { s with heap:=h',toks:=t' } :=
 I.write (x:=a) (e:=a) mu (.inl rfl) (fun b q hb z=>(hs.2 b hb).trans z) he new
theorem zgo {P:Program} {w:World} {H':Hp} {h':Heap} {kvs:List (yM×V)} {vs:List (yM×Value)} (z:kvs.length<=sizeLine) (hd:(a==sysModules)=false) (rel:KV kvs vs) (dd:h'.DictOf (xN P w) a vs) :
  xM P w H' h' a (.dK kvs):=⟨z,hd,vs,rel,dd⟩
theorem zdK {H':Hp} {Q:Unit->Shared->Prop} (hu:A.units+1<cLine) (I:Inv X pins σ H s) (g:DPut H a y v H') (ry:yY y u) (rv:yY v r) (h:∀ s',Inv X pins σ H' s'->Q () s') :
  wpAny 'a' A (setItem (.ref a) u r) Q E s:=by
 rcases g with ⟨kvs,k,e,ey,l,eH⟩|⟨kvs,k,b,e,ey,eb,l,eH⟩
 .subst ey eH;obtain ⟨z,hd,vs,rel,dd⟩:=zkA I.hok e;have hz:vs.length<=sizeLine:=by rw[← rel.length];exact z
  have hl:(vF kvs k v).length<=sizeLine:=by have:=uS kvs k v;omega
  refine wpAny_setItem_pairs (hsz:=hz) (cG ry) dd fun h' dd' hs=>h _ ?_;have he:∃ q,h'.get? a=some q:=let ⟨q,_,_,hq,_⟩:=dd';⟨q,hq⟩;exact zaO I (by rw[e];exact True.intro) hs he (zgo hl hd (rel.put k rv) dd')
 .subst ey eH;cases (show u=Value.ref b from ry);obtain ⟨z,hd,xs,rel,dd⟩:=dt_of I.hok e;have hz:xs.length<=sizeLine:=by rw[← Zb7 rel];exact z
  have hl:(vF kvs k v).length<=sizeLine:=by have:=uS kvs k v;omega
  refine wpAny_setItem_heap (hsz:=hz) (Zbn hu) (fY I.hok eb) dd fun h' dd' hs=>h _ ?_;obtain ⟨q,es,ep,hq,h2,h3,h4,_,h5⟩:=dd';refine zaO I (by rw[e];exact True.intro) hs ⟨q,hq⟩ ⟨hl,hd,_,(rel.put k eb rv).keeps fun c ys ec=>?_,q,es,ep,hq,h2,h3,h4,h5⟩;rw[zE (ne_of ec e (fun z=>nomatch z))];exact ec
end
section
variable {X:Cx} {pins:List (Addr×Obj)} {σ:St} {H:Hp} {s:Shared} {a:Addr} {kvs:List (yM×V)} {k:yM} {u:Value} {A:Around} {E:Value->Shared->Prop}
theorem d_len {Q:Value->Shared->Prop} (I:Inv X pins σ H s) (e:Rd H a (.dK kvs)) (h:∀ t s',Inv X pins σ H s'->Q (.int kvs.length t) s'):wpAny 'a' A (call (.builtin "len") [.ref a]) Q E s:=by
 obtain ⟨z,hd,vs,rel,dd⟩:=pD I.hok e;refine call_len_dict hd dd (by rw[← rel.length];rw[Zt] at z;omega) ?_;rw[← rel.length];exact h _ _ (I.tok _)
end
section
variable {X:Cx} {o i e value:Expr} {pos pos' tpos:Pos} {td ty tv:TE}
end
theorem zbw {P:Program} {w:World} {H:Hp} (h:Heap) (hb:sysModules<h.objs.size):xM P w H (h.push { cls:=.type "dict", data:=.dict #[] }) h.objs.size (.dK []) :=
 ⟨Zan _,beq_eq_false_iff_ne.mpr (Ne.symm (Zj hb)),[],.nil,Heap.DictOf.new h⟩
def ziE:TE:=fun _ H Q=>∀ p,H p=none->Q (.ref p) (xP H p (.dK []))
section
variable {X:Cx} {pos:Pos}
theorem zeR:PE X (.Dict [] [] pos) ziE:=fun pins s σ H Q I h =>
 wpAny_Dict_empty ⟨.ref s.heap.objs.size,_,I.laid (a:=s.heap.objs.size) (o:=.dK []) (t':=s.toks) (fun _ _ q=>Zb _ q) (zzR _) (zbw s.heap I.big),rfl,h _ (I.hok.fresh (zzR _))⟩
end
def bA:List (TE×TE)->St->Hp->(List (V×V)->Hp->Prop)->Prop
 | [],_,H,Q=>Q [] H
 | (tk,tv)::r,σ,H,Q=>tk σ H fun x H1=>tv σ H1 fun y H2=>bA r σ H2 fun ps H3=>Q ((x,y)::ps) H3
abbrev VV:List (V×V)->List (Value×Value)->Prop:=Paired fun p q=>yY p.1 q.1/\yY p.2 q.2
def PPs (X:Cx) (pos:Pos) (keys:List (Option Expr)) (values:List Expr) (trs:List (TE×TE)):Prop :=
 ∀ (pins:List (Addr×Obj)) (s:Shared) (σ:St) (H:Hp) (Q:List (V×V)->Hp->Prop),Inv X pins σ H s->bA trs σ H Q ->
  wpAny 'a' X.A (evalPairs (pairTrees keys values X.env pos)) (fun vs s'=>∃ ps H',Inv X pins σ H' s'/\VV ps vs/\Q ps H') X.xe s
theorem zg5 {X:Cx} {pos:Pos}:PPs X pos [] [] []:=fun pins s σ H Q I h=>pairTrees_nil_walk ⟨[],H,I,.nil,h⟩
theorem zeK {X:Cx} {pos:Pos} {k v:Expr} {ks:List (Option Expr)} {vs:List Expr} {tk tv:TE} {trs:List (TE×TE)} (hk:PE X k tk) (hv:PE X v tv) (hr:PPs X pos ks vs trs) :
  PPs X pos (some k::ks) (v::vs) ((tk,tv)::trs):=fun pins s σ H Q I h =>
 pairTrees_cons_walk (xQ (hk pins s σ H _ I h) fun u s1 ⟨x,H1,I1,rx,q1⟩=>xQ (hv pins s1 σ H1 _ I1 q1) fun w2 s2 ⟨y,H2,I2,ry,q2⟩ =>
  xQ (hr pins s2 σ H2 _ I2 q2) fun ws s3 ⟨ps,H3,I3,rel,q3⟩=>⟨(x,y)::ps,H3,I3,.cons ⟨rx,ry⟩ rel,q3⟩)
def rA (kvs more:List (yM×V)):List (yM×V):=more.foldl (fun acc kv=>vF acc kv.1 kv.2) kvs
theorem KV.merge:∀ {more:List (yM×V)} {rs:List (yM×Value)} {kvs:List (yM×V)} {vs:List (yM×Value)},KV more rs->KV kvs vs->KV (rA kvs more) (merged vs rs):=by
 intro more rs kvs vs r;unfold KV at r
 induction r generalizing kvs vs with
 |nil=>intro q;exact q
 | @cons p q ps qs h t ih =>
  intro r0
  have e:KV (vF kvs p.1 p.2) (stored vs q.1 q.2):=by
   have:=r0.put p.1 h.2;rw[← h.1];exact this
  exact ih e
theorem tO:∀ (more kvs:List (yM×V)),(rA kvs more).length<=kvs.length+more.length
 | [],kvs=>by show kvs.length<=kvs.length+0;omega
 |p::r,kvs=>by
  have h1:=tO r (vF kvs p.1 p.2);have h2:=uS kvs p.1 p.2;show (rA (vF kvs p.1 p.2) r).length<=_;rw[Zf];omega
theorem fM {P:Program} {w:World}:∀ {kvs:List (yM×V)} {ws:List (Value×Value)},VV (kvs.map fun kv=>(kV kv.1,kv.2)) ws->∃ rs,Carries (xN P w) ws rs/\KV kvs rs
 | [],_,r=>by rw[zzV] at r;cases r;exact ⟨[],True.intro,.nil⟩
 |p::kvs,_,r=>by
  rw[zzU] at r
  cases r with
  | @cons a b as bs h t =>
   obtain ⟨rs,c,q⟩:=fM (P:=P) (w:=w) t;obtain ⟨b1,b2⟩:=b;exact ⟨(p.1,b2)::rs,⟨cG h.1,rfl,c⟩,.cons ⟨rfl,h.2⟩ q⟩
def tDisp (trs:List (TE×TE)):TE:=fun σ H Q=>∀ p,H p=none->bA trs σ (xP H p (.dK [])) fun ps H2=>H2 p=some (.dK [])/\∃ kvs:List (yM×V),ps=kvs.map (fun kv=>(kV kv.1,kv.2))/\kvs.length<=15/\Q (.ref p) (xP H2 p (.dK (rA [] kvs)))
theorem zhb {X:Cx} {pos:Pos} {keys:List (Option Expr)} {values:List Expr} {trs:List (TE×TE)} (h:PPs X pos keys values trs) (hall:keys.all (·.isSome)=true) (hl:keys.length=values.length) (h0:keys≠[])
  (h15:keys.length<=15):PE X (.Dict keys values pos) (tDisp trs):=by
 intro pins s σ H Q I q;have hn:=I.hok.fresh (zzR s.heap.objs.size);have I1:=I.laid (a:=s.heap.objs.size) (o:=.dK []) (h':=s.heap.push { cls:=.type "dict", data:=.dict #[] }) (t':=s.toks) (fun _ _ q=>Zb _ q) (zzR _) (zbw s.heap I.big);refine wpAny_Dict_walk (knd:=xN X.prog X.w) hall hl h0 h15 (xQ (h pins _ σ _ _ I1 (q _ hn)) fun ws s2 ⟨ps,H2,I2,rel,e,kvs,ep,lk,q2⟩=>?_);subst ep;obtain ⟨rs,c,rk⟩:=fM (P:=X.prog) (w:=X.w) rel;obtain ⟨z,hd,vs0,r0,dd⟩:=zkA I2.hok e;cases r0;refine ⟨rs,c,dd,fun h' dd' hs=>⟨.ref s.heap.objs.size,_,?_,rfl,q2⟩⟩
 have hz:(rA [] kvs).length<=sizeLine:=by
  have h1:=tO kvs [];rw[Zo] at h1;rw[Zt];omega
 have he:∃ q,h'.get? s.heap.objs.size=some q:=let ⟨q,_,_,hq,_⟩:=dd';⟨q,hq⟩;exact zaO I2 (by rw[e];exact True.intro) hs he (zgo hz hd (rk.merge .nil) dd') (Nat.add_pos_left I2.tk _)
structure M1 (X:Cx) (o:Expr) (m:Str) (apos:Pos) (e:Expr) (cpos:Pos):Prop where
 base:attributeBase o m X.env (eval o X.env)=eval o X.env
 few:((backTo cpos (starEach [e] X.env)).all (fun x=>!x.1)&&(backToKw cpos (keywordEach [] X.env)).all (fun x=>x.1.isSome)
  && decide (([e]:List Expr).length+([]:List Keyword).length+(if ([]:List Keyword).isEmpty then 0 else 1)<30))=true
 line:(apos.endLine==cpos.line)=true
 trees:backTo cpos (starEach [e] X.env)=[(false,eval e X.env)]
def IsD (H:Hp) (a:Addr):Prop:=(∃ kvs,Rd H a (.dK kvs))\/∃ kvs,Rd H a (.dT kvs)
theorem zkk {X:Cx} {pins:List (Addr×Obj)} {σ:St} {H:Hp} {s:Shared} {a:Addr} (I:Inv X pins σ H s) (d:IsD H a) :
  s.TypeIs (.ref a) "dict" /\ (∀ b,Value.ref a=.ref b->∃ ob,s.heap.get? b=some ob/\ob.dict=none)/\(a==sysModules)=false:=by
 rcases d with ⟨kvs,e⟩|⟨kvs,e⟩
 .obtain ⟨_,hd,vs,_,dd⟩:=pD I.hok e;refine ⟨dd.typeIs,fun b q=>?_,hd⟩;cases q;obtain ⟨ob,_,_,h1,h2,_⟩:=dd;exact ⟨ob,h1,h2.2.1⟩
 .obtain ⟨_,hd,xs,_,dd⟩:=zdF I.hok e;refine ⟨dd.typeIs,fun b q=>?_,hd⟩;cases q;obtain ⟨ob,_,_,h1,h2,_⟩:=dd;exact ⟨ob,h1,h2.2.1⟩
section
variable {X:Cx} {pins:List (Addr×Obj)} {σ:St} {H:Hp} {s:Shared} {a:Addr} {y d:V} {u r:Value} {o:Option V} {A:Around} {E:Value->Shared->Prop}
end
section
variable {X:Cx} {o e f:Expr} {apos cpos:Pos} {td ty tx:TE}
end
section
variable {X:Cx} {pins:List (Addr×Obj)} {σ:St} {H:Hp} {s:Shared} {a:Addr} {kvs:List (yM×V)} {A:Around} {E:Value->Shared->Prop}
end
section
variable {X:Cx} {pins:List (Addr×Obj)} {σ:St} {H:Hp} {s:Shared} {a:Addr} {y:V} {u:Value} {A:Around} {E:Value->Shared->Prop}
end
end L2
namespace Att
open PySem PySem.W PySem.Calls PyProof.Rows
theorem nV {P:Params} {h:Heap}:∀ (ns:List Int) (vs:List Value),WellAll P h vs (ns.map WData.int)->IntsAre vs ns:=by
 intro ns
 induction ns with
 |nil =>
  intro vs w;rw[zzV] at w;cases w;exact .nil
 |cons n ns ih =>
  intro vs w;rw[zzU] at w
  cases w with
  |cons a b =>
   cases a;exact .cons _ _ (ih _ b)
theorem zcE {l:OpenLaw} {n:Nat} (hn:l.most=some n) {P:Params} {h:Heap} {args:List WData} {vals:List Value}
  (hpre:l.row.toRowW.claim.pre args=true) (hwl:WellAll P h vals args) :
  ∃ a vs ns,vals=[Value.ref a]/\args=[WData.list (ns.map WData.int)]/\h.get? a=some { cls:=.type "list", data:=.seq vs.toArray }/\IntsAre vs ns/\ns.length<=n:=by
 have hsh:WShape.hasAll [] args [.list .int]=true:=(pre_splitW hpre).1;have hc:l.pre.holds [] { args:=args }=true:=(pre_splitW hpre).2;obtain ⟨d,r,rfl,h1,h2⟩:=hasAllW_cons hsh;obtain rfl:=hasAllW_nil h2;obtain ⟨xs,rfl,h3⟩:=hasW_list h1;obtain ⟨ns,rfl⟩:=items_int h3
 have hlen:ns.length<=n:=by
  unfold OpenLaw.pre at hc
  have h4:(WTm.not (.lt (.lit (.int (n:Int))) (.len (.arg 0)))).holds [] { args:=[.list (ns.map .int)] }=true:=by
   have h4:=(holds_andW hc).1;rw[hn] at h4;exact h4
  have h5:=condW_of h4 (w_not (w_lt w_lit (w_len_list (w_arg rfl))));rw[zzM] at h5;refine Zba fun q=>?_;have q':(n:Int)<((ns.length:Nat):Int):=by omega
  first
   | (rw[decide_eq_true q'] at h5;exact absurd h5 (by decide))
   | (simp at h5;omega)
 cases hwl with
 |cons w1 w2 =>
  cases w2
  cases w1 with
  |list ho hall=>exact ⟨_,_,ns,rfl,rfl,ho,nV ns _ hall,hlen⟩
theorem zcO (l:OpenLaw) (args:List WData):l.row.toRowW.claim.post args (.bool true) args=true :=
 postW_of (r:=l.row.toRowW) (X:=(true==true))
  (show WShape.has [] (.bool true) .bool=true by first|rfl|decide|simp[WShape.has,WShape.arms,WShape.armsAll])
  (show (WTm.eq .res (.lit (.bool true))).value [] { args:=args,res:=some (.bool true),after:=args }=some (.bool (true==true)) from w_eq_bool (w_res rfl) w_lit) rfl
theorem attach_call {l:OpenLaw} {n:Nat} {q:Program} {loose:List Str} {XP:(Str->Option Value)->Heap->Prop} {YP:World->Heap->Prop} {d:DefRec}
  (hn:l.most=some n) (hdf:d.params.defaults=[])
  (call:∀ (w:World) (s₀ s₁:Shared) (mg mb:Str->Option Value) (fa:Addr) (o:Obj) (pm cd doc:Value) (a:Addr) (vs:List Value) (ns:List Int),
   Ground q loose [] XP w s₀ mg mb s₁.heap->YP w s₁.heap ->
   s₁.heap.get? fa=some o->o.data=.func (docDef d.name d.params d.body d.scope pm cd doc)->s₁.heap.CodeRec cd d.name->mg d.name=some (.ref fa) ->
   s₁.heap.get? a=some { cls:=.type "list", data:=.seq vs.toArray }->IntsAre vs ns->ns.length<=n->s₁.gens=#[] ->
   codeAny (model l.prog w) callerA (.call (.ref fa) ⟨[.ref a],[]⟩) (fun r s'=>r=.ok (.ret (.bool true))/\OldK s₁.heap s'.heap/\s'.os=s₁.os/\AllBare s'.gens) s₁) :
  WalkO q loose XP YP l.row.toRowW d [] (fun f vs=>PySem.call f vs):=by
 intro w s₀ s₁ mg mb G Y fa o pm cd doc dV kV ho hd hcd hD hmg hg args vals as hpre hlay hrd hwl hlo;obtain rfl:dV=.none:=Dflts.none hD hdf;obtain rfl:kV=.none:=Dflts.noKw hD;obtain ⟨a,vs,ns,rfl,rfl,hobj,hints,hlen⟩:=zcE hn hpre hwl;refine enter_call (Zbw (call w s₀ s₁ mg mb fa o pm cd doc a vs ns G Y ho (fd_plain hd) hcd hmg hobj hints hlen hg) fun r s' hq=>?_);obtain ⟨rfl,h2,h3,h4⟩:=hq;exact ⟨.inl ⟨.bool true,.bool true,[],rfl,fun _=>rfl,.bool true,zcO l _,fun _=>⟨List.Pairwise.nil,fun _ hm=>(nomatch hm)⟩⟩,h2,h3,h4⟩
section
variable {prog:Program} {w:World} {A:Around} {E:Value->Shared->Prop} {s:Shared} {K:Frag}
end
end Att
namespace L2
open PySem PySem.Spec PyProof.Rows
theorem kM:∀ {vs:List Value} {ns:List Int},IntsAre vs ns->zF (ns.map V.int) vs
 |_,_,.nil=>.nil
 |_,_,.cons n t h=>.cons ⟨t,rfl⟩ (kM h)
def Only (H:Hp):Prop:=∀ b,H b=none\/∃ o xs,H b=some (.frz o (.lst xs))
theorem ze6 {P:Program} {w:World} {K:PySem.W.Frag} {mg mb:Str->Option Value} {CX:CXT} {k:Nat} {fa a:Addr} {fd:FuncData} {x:Str} {sp:Sp} {s₁:Shared} {vs:List Value} {ns:List Int}
  (KX:K.In s₁.heap) (hns:s₁.heap.Ns mainGlobals mg) (hb:s₁.heap.Ns builtinsNs mb) (hbb:∀ x:Str,x ≠ "__name__" -> mb x=bootBuiltins x) (hlim:s₁.heap.NoLimit) (hg:s₁.gens=#[])
  (ha:s₁.heap.get? a=some { cls:=.type "list", data:=.seq vs.toArray }) (hi:IntsAre vs ns) (hl:ns.length<=sizeLine) (hr:Room k callerA)
  (F:∀ base:Heap,K.In base->base.Ns mainGlobals mg->FnOk P w K mg base CX k fa fd [x] sp) (hbind:∀ (s:Shared) (u:Value),BindsTo s fd ⟨[u],[]⟩ [(x,u)])
  (hsp:∀ H:Hp,Only H->rW K H a (ns.map V.int)->sp [.ref a] H (fun v _=>v=.bl true) fun _ _ _=>False)
  (hCX:∀ H e s',CX [] H s₁ (fun _ _ _=>False) e s'->False) (hx:fd.scope.names.lookup x=some .local) :
  codeAny (model P w) callerA (.call (.ref fa) ⟨[.ref a],[]⟩) (fun r s'=>r=.ok (.ret (.bool true))/\OldK s₁.heap s'.heap/\s'.os=s₁.os/\AllBare s'.gens) s₁:=by
 have rv:=kM hi;have lenV:=hi.length
 have core:∀ H:Hp,Only H->rW K H a (ns.map V.int)->uK P w H s₁.heap->(∀ b,H b≠none->b=a)->(H a≠none->K.lookup a=none) ->
   codeAny (model P w) callerA (.call (.ref fa) ⟨[.ref a],[]⟩) (fun r s'=>r=.ok (.ret (.bool true))/\OldK s₁.heap s'.heap/\s'.os=s₁.os/\AllBare s'.gens) s₁:=by
  intro H hO hS hok hA hK;have base_of:∀ {b:Addr} {o:Obj},s₁.heap.get? b=some o->H b=none->(hidT s₁.heap H).get? b=some o:=fun e n=>zfh e n
  have noA:∀ {b:Addr} {o:Obj} {es:Array DictEntry} {ep:Nat},s₁.heap.get? b=some o->o.data=.dict es ep->H b=none:=fun {b o es ep} e d=>by
   cases q:H b with
   |none=>rfl
   |some u =>
    have e':b=a:=hA b (by rw[q];simp);subst e';rw[ha] at e;cases e;have d':Data.seq vs.toArray _=Data.dict es ep:=d;cases d'
  have nsK:∀ {b:Addr} {m:Str->Option Value},s₁.heap.Ns b m->(hidT s₁.heap H).Ns b m:=fun {b m} ⟨o,es,ep,e,d,r⟩=>⟨o,es,ep,base_of e (noA e d),d,r⟩
  have hKb:K.In (hidT s₁.heap H):=fun b o e=>base_of (KX b o e) (by
   cases q:H b with
   |none=>rfl
   |some u =>
    have e':b=a:=hA b (by rw[q];simp);subst e';rw[hK (by rw[q];simp)] at e;cases e)
  have hM:Mod K mg (hidT s₁.heap H):=⟨hKb,nsK hns,⟨mb,nsK hb,hbb⟩,let ⟨mc,h1,h2⟩:=hlim;⟨mc,nsK h1,h2⟩⟩;have e0:Env0 P w K mg (hidT s₁.heap H) callerA [] { s₁ with toks:=1 } H:=⟨rfl,hM,fun b o e=>zhk e,Nat.le_of_eq (zdk _ _),trivial,fun b hb=>absurd (show b∈([]:List Addr) from hb) (by simp),hok,.of_eq hg,Nat.one_pos⟩;refine Zbw ((F _ hKb (nsK hns)).one x rfl hx callerA [] s₁ H ⟨[.ref a],[]⟩ [.ref a] [.ref a] _ _ hr e0 (hbind s₁ (.ref a)) (.cons rfl .nil) (hsp H hO hS)) fun r s' h=>?_
  cases r with
  |error e=>exact (hCX H e s' h).elim
  |ok fl =>
   cases fl with
   |next=>exact False.elim h
   |brk=>exact False.elim h
   |cont=>exact False.elim h
   |ret u =>
    obtain ⟨v,H',os,_,bare,un,hok',r',q⟩:=h;have q':v=.bl true:=q;subst q';obtain rfl:u=Value.bool true:=r';refine ⟨rfl,OldK.of_keep fun b o e=>?_,os,bare⟩
    cases q:H b with
    |none=>exact un.keep b o e q (by intro z;exact absurd (show b∈([]:List Addr) from z) (by simp)) (by simp)
    |some u =>
     rcases hO b with z|⟨ob,xs,z⟩
     .rw[q] at z;cases z
     .have z2:=un.frzs b ob _ z;obtain ⟨e1,_⟩:=hok b _ z;obtain ⟨e2,_⟩:=hok' b _ z2;rw[e] at e1;cases e1;exact e2
 cases hk:K.lookup a with
 |some o =>
  have e:=KX a o hk;rw[ha] at e;cases e;refine core (fun _=>none) (fun _=>.inl rfl) (.inr ⟨_,vs.toArray,_,hk,rfl,rfl,rfl,by rw[zzS,lenV];exact hl,by simpa using rv⟩) (fun b u z=>by have z':(none:Option HO)=some u:=z;cases z') (fun b z=>absurd rfl z) fun z=>absurd rfl z
 |none =>
  refine core (fun b=>if b=a then some (.frz { cls:=.type "list", data:=.seq vs.toArray } (.lst (ns.map V.int))) else none) (fun b=>?_) (.inl (.inr ⟨{ cls:=.type "list", data:=.seq vs.toArray },if_pos rfl⟩)) (fun b u z=>?_) (fun b z=>?_) fun _=>hk
  .by_cases hb:b=a
   .exact .inr ⟨_,_,if_pos hb⟩
   .exact .inl (if_neg hb)
  .by_cases hb:b=a
   .have z':=(if_pos hb).symm.trans z;cases z';subst hb;exact ⟨ha,by rw[zzM];exact hl,vs,_,rv,ha⟩
   .have z':=(if_neg hb).symm.trans z;cases z'
  .by_cases hb:b=a
   .exact hb
   .exact absurd (if_neg hb) z
end L2
namespace L2
open PySem PySem.Spec PyProof.Rows
abbrev KOf {K:PySem.W.Frag} {h:Heap} (_:K.In h):PySem.W.Frag:=K
theorem walk_of {l:PySem.W.OpenLaw} {n k:Nat} {q:Program} {loose:List Str} {XP:(Str->Option Value)->Heap->Prop} {YP:World->Heap->Prop} {d:DefRec} {K:Params->PySem.W.Frag} {CX:World->CXT} {sp:World->Sp} {x:Str}
  (hn:l.most=some n) (hn2:n<=sizeLine) (hdf:d.params.defaults=[]) (hr:Room k callerA)
  (hY:∀ (w:World) (h:Heap),YP w h->(K w.params).In h)
  (F:∀ (w:World) (mg:Str->Option Value) (fa:Addr) (h:Heap),(K w.params).In h->h.Ns mainGlobals mg->mg d.name=some (.ref fa) ->
   ∃ fd:FuncData,(∀ (s:Shared) (u:Value),BindsTo s fd ⟨[u],[]⟩ [(x,u)])/\fd.scope.names.lookup x=some .local /\
    ∀ base:Heap,(K w.params).In base->base.Ns mainGlobals mg->FnOk l.prog w (K w.params) mg base (CX w) k fa fd [x] (sp w))
  (hsp:∀ (w:World) (H:Hp) (a:Addr) (ns:List Int),ns.length<=n->Only H->rW (K w.params) H a (ns.map V.int)->sp w [.ref a] H (fun v _=>v=.bl true) fun _ _ _=>False)
  (hCX:∀ (w:World) (H:Hp) (s:Shared) (e:Value) (s':Shared),CX w [] H s (fun _ _ _=>False) e s'->False) :
  PySem.W.WalkO q loose XP YP l.row.toRowW d [] (fun f vs=>PySem.call f vs):=by
 refine Att.attach_call hn hdf fun w s₀ s₁ mg mb fa o pm cd doc a vs ns G Y ho hd hcd hmg hobj hints hlen hg=>?_;have KX:=hY w _ Y;obtain ⟨fd,hb,hx,hF⟩:=F w mg fa _ KX G.T.g hmg;exact ze6 KX G.T.g G.T.b G.T.builtins G.T.nolimit hg hobj hints (Zn hlen hn2) hr hF hb (fun H hO hS=>hsp w H a ns hlen hO hS) (fun H e s'=>hCX w H s₁ e s') hx
end L2
/- THE LAST THEOREM (shape;LID,My.* are yours):
   My.Adr: a structure of the addresses that your layer names (classes,functions);My.Txt K t: a structure (Prop) of the equations over K;
   My.txt_mk:{K} {implicit addresses ..} (e1:nsIn K mainGlobals "law" = some (some (.ref f))) (e2:K.lookup f=some ⟨oc,od,.func (fnOf "law" "law" params body scope dV kV doc pm an cdv ct),sl⟩) (e3:codeIn K cdv "law" = true) ..:∃ t,My.Txt K t
set_option maxRecDepth 100000 in
set_option maxHeartbeats 0 in
theorem PySem.Challenge.cw_LID_holds : PySem.Challenge.rw_LID.Holds := by
 w_on;o_law;k_head;(case hw=>w_witness2)
 k_fill
 refine L2.walk_of (l:=PySem.Challenge.rw_LID) (n:=63) (k:=40) (x := "script") (CX:=fun w=>..) (sp:=fun _=>My.sp_law) rfl (by decide) rfl ⟨rfl,by decide,by decide⟩ (fun w h Y=>PySem.W.kIn_of Y) ?F ?S ?C
 case F =>
  intro w mg fa h KX G hmg
  have T:∃ t,My.Txt (L2.KOf KX) t:=by
   dsimp only[L2.KOf]                          -- K must stand as «<heap const> w.params» for k_is;refine' My.txt_mk ?e1 ?e2 ?e3 ..
   (case e1=>PySem.W.k_is)                    -- in the order: a name -> its address -> its object -> its parts
   (case e2=>PySem.W.k_is)
   ..
  obtain ⟨t,T⟩:=T;have e0:=hmg.symm.trans (PySem.W.mg_of KX G T.law);cases e0                                       -- fa is the law's own address;exact ⟨_,fun s u=>.of_eq rfl,fun base kb nb=>My.law_fn T kb nb⟩     -- if «.of_eq rfl» comes too early: refine' ⟨_,?b,fun base kb nb=>My.law_fn T kb nb⟩;exact fun s u=>.of_eq rfl
 case S=>exact fun w H a ns hl hO hS=>..
 case C=>exact ..
(the tactic k_is has no namespace: write k_is) -/
namespace L2
open PySem PySem.Spec PyProof.Rows
def yP (s:Stmt):Arguments:=match s with
 | .FunctionDef _ a _ _ _ _ _ _ _ _=>a
 |_=>{ posonlyargs:=[],args:=[],vararg:=none,kwonlyargs:=[],kw_defaults:=[],kwarg:=none,defaults:=[] }
def zI (s:Stmt):List Stmt:=match s with
 | .FunctionDef _ _ b _ _ _ _ _ _ _=>b
 |_=>[]
def zX (s:Stmt):Scope:=match s with
 | .FunctionDef _ _ _ _ _ _ sc _ _ _=>sc
 |_=>{ kind:=.function,names:=[],isGenerator:=false,isCoroutine:=false }
abbrev CX0:CXT:=fun _ _ _ _ _ _=>False
abbrev E0:XK:=fun _ _ _=>False
theorem zju {X:Cx}:zbB CX0 X E0:=fun _ _ _ _ _ _ _ h=>h.elim
section
variable {P:Program} {w:World} {K:PySem.W.Frag} {mg:Str->Option Value} {base:Heap}
end
section
variable {X:Cx}
end
section
variable {κ:Type} [DecidableEq κ]
end
end L2
namespace L3
open PySem PySem.Spec PyProof.Rows L2
inductive W where
 |non|bl (b:Bool)|int (i:Int)|str (x:Str)|ty (n:String)|ref (a:Addr)|tup (ws:List W)|lsf (ws:List W)
  |exc (C:Addr) (ns:List Str) (ws:List W)|dcf (ks:List Str) (ws:List W)
abbrev yS:=PySem.W.Frag
def KL (K:yS) (a:Addr) (xs:List V):Prop:=∃ (o:Obj) (its:Array Value) (n:Nat),K.lookup a=some o/\o.cls=.type "list" /\ o.dict=none/\o.data=.seq its n/\its.size<=sizeLine/\zF xs its.toList
def zil:List DictEntry->List Str->List V->Prop
 | [],ks,vs=>ks=[]/\vs=[]
 |e::r,ks,vs=>∃ k t v ks' vs',ks=k::ks'/\vs=v::vs'/\e.key=.str k t/\yY v e.val/\zil r ks' vs'
def KD (K:yS) (a:Addr) (ks:List Str) (vs:List V):Prop:=∃ (o:Obj) (es:Array DictEntry) (ep:Nat),K.lookup a=some o/\o.ExactDict/\o.data=.dict es ep/\es.size<=sizeLine/\(a==sysModules)=false/\zil es.toList ks vs
def dL (a C:Addr) (dx:Option Addr):Heap->Prop:=fun h=>∃ fs,h.get? a=some { cls:=.ref C,dict:=dx,data:=.fields fs }
def ExAt (H:Hp) (a C:Addr) (l:List (Str×V)):Prop:=(H a=some (.ext (dL a C none))/\l=[])\/∃ dx,H a=some (.ext (dL a C (some dx)))/\H dx=some (.xd l)
def isX:HO->Prop
 | .ext _=>True
 | .frz _ (.dK _)=>True
 | .xd _=>True
 |_=>False
mutual
def wO (K:yS) (H:Hp):W->V->Prop
 | .non,v=>v=.non
 | .bl b,v=>v=.bl b
 | .int i,v=>v=.int i
 | .str x,v=>v=.str x
 | .ty n,v=>v=.ty n
 | .ref a,v=>v=.ref a
 | .tup ws,v=>∃ a vs,v=.ref a/\sP K H a vs/\zG K H ws vs
 | .lsf ws,v=>∃ a vs,v=.ref a/\KL K a vs/\zG K H ws vs
 | .exc C ns ws,v=>∃ a vs,v=.ref a/\ExAt H a C (ns.zip vs)/\zG K H ws vs
 | .dcf ks ws,v=>∃ a vs,v=.ref a/\KD K a ks vs/\zG K H ws vs
def zG (K:yS) (H:Hp):List W->List V->Prop
 | [],vs=>vs=[]
 |w::ws,vs=>∃ v r,vs=v::r/\wO K H w v/\zG K H ws r
end
def yO (K:yS) (H H':Hp):Prop:=(∀ a xs,sP K H a xs->sP K H' a xs)/\∀ a o,isX o->H a=some o->H' a=some o
theorem yO.refl {K:yS} {H:Hp}:yO K H H:=⟨fun _ _ h=>h,fun _ _ _ h=>h⟩
theorem yO.trans {K:yS} {H H1 H2:Hp} (a:yO K H H1) (b:yO K H1 H2):yO K H H2:=⟨fun x xs h=>b.1 x xs (a.1 x xs h),fun x o i h=>b.2 x o i (a.2 x o i h)⟩
theorem ExAt.mono {K:yS} {H H':Hp} (g:yO K H H') {a C:Addr} {l:List (Str×V)} (h:ExAt H a C l):ExAt H' a C l:=by
 rcases h with ⟨h,e⟩|⟨dx,h,h'⟩
 .exact .inl ⟨g.2 _ _ True.intro h,e⟩
 .exact .inr ⟨dx,g.2 _ _ True.intro h,g.2 _ _ True.intro h'⟩
section
variable {K:yS} {H H':Hp}
mutual
theorem wO.mono (g:yO K H H'):∀ {w:W} {v:V},wO K H w v->wO K H' w v
 | .non,_,h=>h
 | .bl _,_,h=>h
 | .int _,_,h=>h
 | .str _,_,h=>h
 | .ty _,_,h=>h
 | .ref _,_,h=>h
 | .tup _,_,⟨a,vs,e,s,r⟩=>⟨a,vs,e,g.1 a vs s,zG.mono g r⟩
 | .lsf _,_,⟨a,vs,e,s,r⟩=>⟨a,vs,e,s,zG.mono g r⟩
 | .exc _ _ _,_,⟨a,vs,e,s,r⟩=>⟨a,vs,e,s.mono g,zG.mono g r⟩
 | .dcf _ _,_,⟨a,vs,e,s,r⟩=>⟨a,vs,e,s,zG.mono g r⟩
theorem zG.mono (g:yO K H H'):∀ {ws:List W} {vs:List V},zG K H ws vs->zG K H' ws vs
 | [],_,h=>h
 |_::_,_,⟨v,r,e,h,t⟩=>⟨v,r,e,wO.mono g h,zG.mono g t⟩
end
theorem zG.length:∀ {ws:List W} {vs:List V},zG K H ws vs->vs.length=ws.length
 | [],_,h=>by rw[show _=[] from h];rfl
 |_::_,_,⟨v,r,e,_,t⟩=>by rw[e,Zf,Zf,zG.length t]
theorem zG.append:∀ {ws:List W} {vs:List V} {ws':List W} {vs':List V},zG K H ws vs->zG K H ws' vs'->zG K H (ws++ws') (vs++vs')
 | [],_,_,_,h,h'=>by rw[show _=[] from h];exact h'
 |_::_,_,_,_,⟨v,r,e,h,t⟩,h'=>by rw[e];exact ⟨v,_,rfl,h,zG.append t h'⟩
theorem zG.get:∀ {ws:List W} {vs:List V} {i:Nat} {w:W},zG K H ws vs->ws[i]?=some w->∃ v,vs[i]?=some v/\wO K H w v
 | [],_,_,_,_,e=>by simp at e
 |_::_,_,0,_,⟨v,r,e,h,t⟩,q=>by simp at q;subst q;subst e;exact ⟨v,rfl,h⟩
 |_::_,_,i+1,w,⟨v,r,e,h,t⟩,q=>by
  subst e;obtain ⟨u,h1,h2⟩:=zG.get (i:=i) (w:=w) t (by simpa using q);exact ⟨u,by simpa using h1,h2⟩
theorem zG.get':∀ {ws:List W} {vs:List V} {i:Nat} {v:V},zG K H ws vs->vs[i]?=some v->∃ w,ws[i]?=some w/\wO K H w v
 | [],_,_,_,h,e=>by rw[show _=[] from h] at e;simp at e
 |_::_,_,0,_,⟨v,r,e,h,t⟩,q=>by subst e;simp at q;subst q;exact ⟨_,rfl,h⟩
 |_::_,_,i+1,w,⟨v,r,e,h,t⟩,q=>by
  subst e;obtain ⟨u,h1,h2⟩:=zG.get' (i:=i) (v:=w) t (by simpa using q);exact ⟨u,by simpa using h1,h2⟩
theorem zG.set {w:W} {v:V} (q:wO K H w v):∀ {ws:List W} {vs:List V} (i:Nat),zG K H ws vs->zG K H (ws.set i w) (vs.set i v)
 | [],_,_,h=>by rw[show _=[] from h];rfl
 |_::_,_,0,⟨_,r,e,_,t⟩=>by rw[e];exact ⟨_,_,rfl,q,t⟩
 |_::_,_,i+1,⟨v,r,e,h,t⟩=>by rw[e];exact ⟨_,_,rfl,h,zG.set q i t⟩
theorem zG.take:∀ {ws:List W} {vs:List V} (n:Nat),zG K H ws vs->zG K H (ws.take n) (vs.take n)
 | [],_,_,h=>by rw[show _=[] from h];simp;rfl
 |_::_,_,0,_=>by simp;rfl
 |_::_,_,n+1,⟨v,r,e,h,t⟩=>by rw[e];exact ⟨_,_,rfl,h,zG.take n t⟩
theorem zG.drop:∀ {ws:List W} {vs:List V} (n:Nat),zG K H ws vs->zG K H (ws.drop n) (vs.drop n)
 | [],_,_,h=>by rw[show _=[] from h];simp;rfl
 |_::_,_,0,h=>h
 |_::_,_,n+1,⟨v,r,e,h,t⟩=>by rw[e];exact zG.drop n t
theorem zG.reverse:∀ {ws:List W} {vs:List V},zG K H ws vs->zG K H ws.reverse vs.reverse
 | [],_,h=>by rw[show _=[] from h];rfl
 |_::_,_,⟨v,r,e,h,t⟩=>by
  rw[e,Zaq,Zaq];exact zG.append (zG.reverse t) ⟨v,[],rfl,h,rfl⟩
theorem zG.dropLast {ws:List W} {vs:List V} (h:zG K H ws vs):zG K H ws.dropLast vs.dropLast:=by
 rw[List.dropLast_eq_take,List.dropLast_eq_take,h.length];exact h.take _
end
inductive O where
 |lst (ws:List W)
  |fix (ws:List W)
 |dic (kvs:List (yM×W))
 |ins (C:Addr) (fs:List (Str×W))
  |fzd (kvs:List (yM×W))
def isFz:O->Bool
 | .fzd _=>true
 |_=>false
abbrev Hw:=Addr->Option O
def put (G:Hw) (a:Addr) (o:O):Hw:=fun b=>if b=a then some o else G b
theorem zW {G:Hw} {a:Addr} {o:O}:put G a o a=some o:=by unfold put;rw[if_pos rfl]
theorem xJ {G:Hw} {a b:Addr} {o:O} (h:b≠a):put G a o b=G b:=by unfold put;rw[if_neg h]
theorem pE {G:Hw} {a b:Addr} {o:O} (h:G a=some o) (h':G b=none):a≠b:=by
 intro e;subst e;rw[h] at h';cases h'
def yQ (K:yS) (H:Hp) {κ:Type}:List (κ×W)->List (κ×V)->Prop
 | [],l=>l=[]
 |p::r,l=>∃ v t,l=(p.1,v)::t/\wO K H p.2 v/\yQ K H r t
def dO (K:yS) (H:Hp):O->HO->Prop
 | .lst ws,o=>∃ vs,o=.lst vs/\zG K H ws vs
 | .fix ws,o=>∃ vs ob,(o=.lst vs\/o=.frz ob (.lst vs))/\zG K H ws vs
 | .dic kvs,o=>∃ l,o=.dK l/\yQ K H kvs l
 | .ins C fs,o=>∃ dx l,o=.ins C dx l/\yQ K H fs l
 | .fzd kvs,o=>∃ ob l,o=.frz ob (.dK l)/\yQ K H kvs l
def xR (K:yS) (H:Hp) (G:Hw):Prop:=∀ a o,G a=some o->∃ u,H a=some u/\dO K H o u
theorem yQ.mono {K:yS} {H H':Hp} (g:yO K H H') {κ:Type}:∀ {l:List (κ×W)} {l':List (κ×V)},yQ K H l l'->yQ K H' l l'
 | [],_,h=>h
 |_::_,_,⟨v,t,e,h,r⟩=>⟨v,t,e,h.mono g,yQ.mono g r⟩
theorem dO.mono {K:yS} {H H':Hp} (g:yO K H H'):∀ {o:O} {u:HO},dO K H o u->dO K H' o u
 | .lst _,_,⟨vs,e,r⟩=>⟨vs,e,r.mono g⟩
 | .fix _,_,⟨vs,ob,e,r⟩=>⟨vs,ob,e,r.mono g⟩
 | .dic _,_,⟨l,e,r⟩=>⟨l,e,r.mono g⟩
 | .ins _ _,_,⟨dx,l,e,r⟩=>⟨dx,l,e,r.mono g⟩
 | .fzd _,_,⟨ob,l,e,r⟩=>⟨ob,l,e,r.mono g⟩
theorem dO.notX {K:yS} {H:Hp}:∀ {o:O} {u:HO},isFz o=false->dO K H o u->¬ isX u
 | .lst _,_,_,⟨vs,e,r⟩=>by subst e;exact id
 | .fix _,_,_,⟨vs,ob,e,r⟩=>by rcases e with e|e<;>subst e<;>exact id
 | .dic _,_,_,⟨l,e,r⟩=>by subst e;exact id
 | .ins _ _,_,_,⟨dx,l,e,r⟩=>by subst e;exact id
 | .fzd _,_,m,_=>nomatch m
theorem dO.notTup {K:yS} {H:Hp}:∀ {o:O} {u:HO},dO K H o u->(∀ xs,u≠.tup xs)/\∀ ob xs,u≠.frz ob (.tup xs)
 | .lst _,_,⟨vs,e,r⟩=>by subst e;exact ⟨(fun _ z=>nomatch z),(fun _ _ z=>nomatch z)⟩
 | .fix _,_,⟨vs,ob,e,r⟩=>by
  rcases e with e|e<;>subst e
  .exact ⟨(fun _ z=>nomatch z),(fun _ _ z=>nomatch z)⟩
  .exact ⟨(fun _ z=>nomatch z),(fun _ _ z=>nomatch z)⟩
 | .dic _,_,⟨l,e,r⟩=>by subst e;exact ⟨(fun _ z=>nomatch z),(fun _ _ z=>nomatch z)⟩
 | .ins _ _,_,⟨dx,l,e,r⟩=>by subst e;exact ⟨(fun _ z=>nomatch z),(fun _ _ z=>nomatch z)⟩
 | .fzd _,_,⟨ob,l,e,r⟩=>by subst e;exact ⟨(fun _ z=>nomatch z),(fun _ _ z=>nomatch z)⟩
section
variable {K:yS} {H H':Hp} {G:Hw} {a:Addr}
theorem xR.free (h:xR K H G) (e:H a=none):G a=none:=by
 cases q:G a with
 |none=>rfl
 |some o =>
  obtain ⟨u,e',_⟩:=h a o q;rw[e] at e';cases e'
theorem zbp {u:HO} (h:∀ xs,¬ Rd H a (.tup xs)) (hx:∀ o,isX o->H a≠some o):yO K H (xP H a u):=⟨fun b xs s=>by
 rcases s with s|s
 .have hb:b≠a:=by rintro rfl;exact h xs s
  left
  rcases s with s|⟨o,s⟩
  .exact .inl (by rw[zE hb];exact s)
  .exact .inr ⟨o,by rw[zE hb];exact s⟩
 .exact .inr s,fun b o i s=>by
 have hb:b≠a:=by rintro rfl;exact hx o i s
 rw[zE hb];exact s⟩
theorem xI {u:HO} (h:H a=none):yO K H (xP H a u):=zbp (fun xs s=>by
 rcases s with s|⟨o,s⟩<;>(rw[h] at s;cases s)) (fun o _ s=>by rw[h] at s;cases s)
theorem xR.grow {o:O} {u:HO} (h:xR K H G) (e:G a=some o) (m:isFz o=false:=by rfl):yO K H (xP H a u):=by
 obtain ⟨u',e',r⟩:=h a o e;refine zbp (fun xs s=>?_) (fun o' i s=>?_)
 .rcases s with s|⟨ob,s⟩
  .rw[e'] at s;cases s;exact r.notTup.1 xs rfl
  .rw[e'] at s;cases s;exact r.notTup.2 ob xs rfl
 .rw[e'] at s;cases s;exact r.notX m i
theorem xR.new {o:O} {u:HO} (h:xR K H G) (e:H a=none) (r:dO K (xP H a u) o u):xR K (xP H a u) (put G a o):=fun b ob q=>by
 by_cases hb:b=a
 .subst hb;rw[zW] at q;cases q;exact ⟨u,yD,r⟩
 .rw[xJ hb] at q;obtain ⟨u',e',r'⟩:=h b ob q;exact ⟨u',by rw[zE hb];exact e',r'.mono (xI e)⟩
theorem xR.tup {u:HO} (h:xR K H G) (e:H a=none):xR K (xP H a u) G:=fun b ob q=>by
 obtain ⟨u',e',r'⟩:=h b ob q;exact ⟨u',by rw[zE (yK e' e)];exact e',r'.mono (xI e)⟩
theorem xR.chg {o o':O} {u:HO} (h:xR K H G) (e:G a=some o') (r:dO K (xP H a u) o u) (m:isFz o'=false:=by rfl):xR K (xP H a u) (put G a o):=fun b ob q=>by
 by_cases hb:b=a
 .subst hb;rw[zW] at q;cases q;exact ⟨u,yD,r⟩
 .rw[xJ hb] at q;obtain ⟨u',e',r'⟩:=h b ob q;exact ⟨u',by rw[zE hb];exact e',r'.mono (h.grow e m)⟩
theorem xR.lst {ws:List W} (h:xR K H G) (e:G a=some (.lst ws)):∃ vs,H a=some (.lst vs)/\zG K H ws vs:=by
 obtain ⟨u,e',vs,rfl,r⟩:=h a _ e;exact ⟨vs,e',r⟩
theorem xR.dic {kvs:List (yM×W)} (h:xR K H G) (e:G a=some (.dic kvs)):∃ l,H a=some (.dK l)/\yQ K H kvs l:=by
 obtain ⟨u,e',vs,rfl,r⟩:=h a _ e;exact ⟨vs,e',r⟩
end
def yU (G:Hw) (a:Addr):Option (List W):=match G a with
 |some (.lst ws)=>some ws
 |some (.fix ws)=>some ws
 |_=>none
theorem xR.seq {K:yS} {H:Hp} {G:Hw} {a:Addr} {ws:List W} (h:xR K H G) (e:yU G a=some ws):∃ vs,rW K H a vs/\zG K H ws vs:=by
 unfold yU at e
 split at e
 .rename_i q;cases e;obtain ⟨vs,e',r⟩:=h.lst q;exact ⟨vs,.of e',r⟩
 .rename_i q;cases e;obtain ⟨u,e',vs,ob,z,r⟩:=h a _ q;refine ⟨vs,?_,r⟩;rcases z with rfl|rfl
  .exact .inl (.inl e')
  .exact .inl (.inr ⟨_,e'⟩)
 .cases e
abbrev xE:=List (Option W)
def yT (K:yS) (H:Hp) (σ:xE) (τ:L2.St):Prop:=σ.length=τ.length/\∀ (i:Nat) (w:W),σ[i]?=some (some w)->∃ v,τ[i]?=some (some v)/\wO K H w v
theorem yT.mono {K:yS} {H H':Hp} (g:yO K H H') {σ:xE} {τ:L2.St} (h:yT K H σ τ):yT K H' σ τ :=
 ⟨h.1,fun i w e=>let ⟨v,e',r⟩:=h.2 i w e;⟨v,e',r.mono g⟩⟩
theorem yT.set {K:yS} {H:Hp} {σ:xE} {τ:L2.St} {w:W} {v:V} (h:yT K H σ τ) (r:wO K H w v) (i:Nat):yT K H (σ.set i (some w)) (τ.set i (some v)):=by
 refine ⟨by simp[h.1],fun j w' e=>?_⟩;rw[List.getElem?_set] at e ⊢
 by_cases hj:i=j
 .subst hj;rw[if_pos rfl] at e ⊢
  by_cases hl:i<σ.length
  .rw[if_pos hl] at e;cases e;rw[if_pos (h.1▸hl)];exact ⟨v,rfl,r⟩
  .rw[if_neg hl] at e;cases e
 .rw[if_neg hj] at e ⊢;exact h.2 j w' e
abbrev Q3:=W->Hw->Prop
abbrev E3:=xE->Hw->Q3->Prop
abbrev T3:=xE->Hw->(Bool->Hw->Prop)->Prop
abbrev A3:=xE->Hw->(List W->Hw->Prop)->Prop
structure End3 where
 nx:xE->Hw->Prop
 rt:Q3
 bk:xE->Hw->Prop:=fun _ _=>False
 ct:xE->Hw->Prop:=fun _ _=>False
abbrev S3:=End3->xE->Hw->Prop
section
variable (K:yS)
def xO (t:E3):TE:=fun τ H Q=>∃ σ G,yT K H σ τ/\xR K H G/\t σ G fun w G'=>∀ v H',yO K H H'->wO K H' w v->xR K H' G'->Q v H'
def qK (t:T3):TT:=fun τ H Q=>∃ σ G,yT K H σ τ/\xR K H G/\t σ G fun b G'=>∀ H',yO K H H'->xR K H' G'->Q b H'
def uV (t:A3):TA:=fun τ H Q=>∃ σ G,yT K H σ τ/\xR K H G/\t σ G fun ws G'=>∀ vs H',yO K H H'->zG K H' ws vs->xR K H' G'->Q vs H'
structure Fine (H:Hp) (D3:End3) (D:Ends):Prop where
 nx:∀ σ G τ H',yO K H H'->yT K H' σ τ->xR K H' G->D3.nx σ G->D.nx τ H'
 bk:∀ σ G τ H',yO K H H'->yT K H' σ τ->xR K H' G->D3.bk σ G->D.bk τ H'
 ct:∀ σ G τ H',yO K H H'->yT K H' σ τ->xR K H' G->D3.ct σ G->D.ct τ H'
 rt:∀ w G v H',yO K H H'->wO K H' w v->xR K H' G->D3.rt w G->D.rt v H'
def lowS (t:S3):TS:=fun D τ H=>∃ σ G D3,yT K H σ τ/\xR K H G/\Fine K H D3 D/\t D3 σ G
end
theorem Fine.grow {K:yS} {H H':Hp} {D3:End3} {D:Ends} (f:Fine K H D3 D) (g:yO K H H'):Fine K H' D3 D :=
 ⟨fun σ G τ H2 g2=>f.nx σ G τ H2 (g.trans g2),fun σ G τ H2 g2=>f.bk σ G τ H2 (g.trans g2),fun σ G τ H2 g2=>f.ct σ G τ H2 (g.trans g2),fun w G v H2 g2=>f.rt w G v H2 (g.trans g2)⟩
def wI (t:E3):Prop:=∀ σ G (Q Q':Q3),(∀ w G',Q w G'->Q' w G')->t σ G Q->t σ G Q'
def uL (t:T3):Prop:=∀ σ G (Q Q':Bool->Hw->Prop),(∀ w G',Q w G'->Q' w G')->t σ G Q->t σ G Q'
def kT (t:A3):Prop:=∀ σ G (Q Q':List W->Hw->Prop),(∀ w G',Q w G'->Q' w G')->t σ G Q->t σ G Q'
section
variable {K:yS} {H:Hp} {σ:xE} {τ:L2.St} {G:Hw}
theorem xH {t:E3} {R:Q3} {S:VK} (m:wI t) (hs:yT K H σ τ) (ha:xR K H G) (h:t σ G R)
  (k:∀ w G1 v H1,yO K H H1->yT K H1 σ τ->wO K H1 w v->xR K H1 G1->R w G1->S v H1):xO K t τ H S :=
 ⟨σ,G,hs,ha,m σ G _ _ (fun w G' r v H' g rp ab=>k w G' v H' g (hs.mono g) rp ab r) h⟩
theorem fJ {t:T3} {R:Bool->Hw->Prop} {S:Bool->Hp->Prop} (m:uL t) (hs:yT K H σ τ) (ha:xR K H G) (h:t σ G R)
  (k:∀ b G1 H1,yO K H H1->yT K H1 σ τ->xR K H1 G1->R b G1->S b H1):qK K t τ H S :=
 ⟨σ,G,hs,ha,m σ G _ _ (fun w G' r H' g ab=>k w G' H' g (hs.mono g) ab r) h⟩
theorem tK {t:A3} {R:List W->Hw->Prop} {S:List V->Hp->Prop} (m:kT t) (hs:yT K H σ τ) (ha:xR K H G) (h:t σ G R)
  (k:∀ w G1 v H1,yO K H H1->yT K H1 σ τ->zG K H1 w v->xR K H1 G1->R w G1->S v H1):uV K t τ H S :=
 ⟨σ,G,hs,ha,m σ G _ _ (fun w G' r v H' g rp ab=>k w G' v H' g (hs.mono g) rp ab r) h⟩
end
end L3
namespace L2
section
variable {X:Cx} {e:PySem.Expr} {st:PySem.Stmt} {sts:List PySem.Stmt}
theorem PE.imp {t t':TE} (h:PE X e t) (k:∀ σ H Q,t' σ H Q->t σ H Q):PE X e t':=fun pins s σ H Q I q=>h pins s σ H Q I (k σ H Q q)
theorem PT.imp {t t':TT} (h:PT X e t) (k:∀ σ H Q,t' σ H Q->t σ H Q):PT X e t':=fun pins s σ H Q I q=>h pins s σ H Q I (k σ H Q q)
theorem PW.imp {t t':TT} (h:PW X e t) (k:∀ σ H Q,t' σ H Q->t σ H Q):PW X e t':=fun wh pins s σ H Q I q=>h wh pins s σ H Q I (k σ H Q q)
theorem PA.imp {es:List PySem.Expr} {t t':TA} (h:PA X es t) (k:∀ σ H Q,t' σ H Q->t σ H Q):PA X es t':=fun pos pins s σ H Q I q=>h pos pins s σ H Q I (k σ H Q q)
theorem PS.imp {t t':TS} (h:PS X st t) (k:∀ D σ H,t' D σ H->t D σ H):PS X st t':=fun pins s σ H D I q=>h pins s σ H D I (k D σ H q)
theorem dM.imp {t t':TS} (h:dM X sts t) (k:∀ D σ H,t' D σ H->t D σ H):dM X sts t':=fun pins s σ H D I q=>h pins s σ H D I (k D σ H q)
end
end L2
set_option genInjectivity false
set_option genSizeOfSpec false
namespace L2
open PySem PySem.Spec PyProof.Rows PySem.Calls
def clo (env:Env):List (Str×NameKind)->List (Str×Addr)->List (Str×Addr)
 | [],acc=>acc
 | (n,k)::r,acc=>if (k==NameKind.free)=true then clo env r ((n,(env.cells.lookup n).getD 0)::acc) else clo env r acc
theorem zaQ (env:Env):∀ (l:List (Str×NameKind)) (acc:List (Str×Addr)) {x:Str} {c:Addr},(clo env l acc).lookup x=some c ->
  ((∃ k,(x,k)∈l/\k=.free)/\c=(env.cells.lookup x).getD 0)\/acc.lookup x=some c
 | [],acc,x,c,h=>.inr h
 | (n,k)::r,acc,x,c,h=>by
  unfold clo at h
  by_cases hk:(k==NameKind.free)=true
  .rw[if_pos hk] at h;rcases zaQ env r _ h with ⟨⟨k',m,e⟩,q⟩|h
   .exact .inl ⟨⟨k',Zk _ m,e⟩,q⟩
   .rw[ZK] at h
    by_cases hx:(x==n)=true
    .rw[hx] at h;have e:x=n:=eq_of_beq hx;subst e;exact .inl ⟨⟨k,zzT,eq_of_beq hk⟩,(Zx h).symm⟩
    .rw[Zbx] at hx;rw[hx] at h;exact .inr h
  .rw[if_neg hk] at h;rcases zaQ env r _ h with ⟨⟨k',m,e⟩,q⟩|h
   .exact .inl ⟨⟨k',Zk _ m,e⟩,q⟩
   .exact .inr h
theorem zaS (env:Env):∀ (l:List (Str×NameKind)) (acc:List (Str×Addr)) {x:Str},(∃ c,acc.lookup x=some c)->∃ c,(clo env l acc).lookup x=some c
 | [],acc,x,h=>h
 | (n,k)::r,acc,x,h=>by
  unfold clo
  split
  .refine zaS env r _ ?_;rw[ZK];cases x==n
   .exact h
   .exact ⟨_,rfl⟩
  .exact zaS env r _ h
theorem zaR (env:Env):∀ (l:List (Str×NameKind)) (acc:List (Str×Addr)) {x:Str},(x,NameKind.free)∈l->∃ c,(clo env l acc).lookup x=some c
 | (n,k)::r,acc,x,h=>by
  unfold clo;rcases Zp.mp h with h|h
  .cases h;rw[if_pos (by decide)];refine zaS env r _ ?_;rw[ZK,beq_self_eq_true];exact ⟨_,rfl⟩
  .split
   .exact zaR env r _ h
   .exact zaR env r _ h
theorem sU {env:Env} {scope:Scope} (h:∀ x,(x,NameKind.free)∈scope.names->∃ c,env.cells.lookup x=some c):closureFor scope env=pure (clo env scope.names []):=by
 simp only[closureFor]
 have key:∀ (l:List (Str×NameKind)) (acc:List (Str×Addr)),(∀ x,(x,NameKind.free)∈l->∃ c,env.cells.lookup x=some c) ->
   (forIn l acc fun x r=>match x with|(name,kind)=>if (kind==NameKind.free)=true then (do let a ← cellOf env name;pure (ForInStep.yield ((name,a)::r))) else pure (ForInStep.yield r):Sem (List (Str×Addr)))=pure (clo env l acc):=by
  intro l
  induction l with
  |nil=>intro acc _;rfl
  |cons p r ih =>
   intro acc hh;obtain ⟨n,k⟩:=p;rw[List.forIn_cons]
   by_cases hk:(k==NameKind.free)=true
   .have ek:k=.free:=eq_of_beq hk;obtain ⟨c,hc⟩:=hh n (by rw[ek];exact zzT);simp only[hk,if_true];have e1:cellOf env n=pure c:=by unfold cellOf;rw[hc]
    rw[e1];simp only[pure_bind];rw[ih _ fun x hx=>hh x (Zk _ hx)]
    conv=>rhs;unfold clo
    rw[if_pos hk,hc]
    all_goals rfl
   .simp only[hk];rw[if_neg (by simp)];simp only[pure_bind];rw[ih _ fun x hx=>hh x (Zk _ hx)]
    conv=>rhs;unfold clo
    rw[if_neg hk]
 have:=key scope.names [] h;simpa using this
theorem wR {env:Env}:∀ {names:List (Str×NameKind)} {x:Str} {k':NameKind},
  (names.map fun (n,k)=>if (k==NameKind.free&&env.scope.kind==.function&&env.kindOf n==some .cell) then (n,NameKind.cell) else (n,k)).lookup x=some k' ->
  ∃ k,names.lookup x=some k/\(k'=k\/(k=.free/\k'=.cell))
 | [],_,_,h=>by simp at h
 | (n,k)::r,x,k',h=>by
  rw[zzU] at h
  by_cases hc:(k==NameKind.free&&env.scope.kind==.function&&env.kindOf n==some .cell)=true
  .simp only[hc,if_true] at h;rw[ZK] at h ⊢
   cases hx:x==n with
   |true =>
    rw[hx] at h;cases h;simp only[Zh,beq_iff_eq] at hc;exact ⟨k,rfl,.inr ⟨hc.1.1,rfl⟩⟩
   |false=>rw[hx] at h;exact wR h
  .simp only[hc,if_false] at h;rw[if_neg (by simp)] at h;rw[ZK] at h ⊢
   cases hx:x==n with
   |true=>rw[hx] at h;cases h;exact ⟨k,rfl,.inl rfl⟩
   |false=>rw[hx] at h;exact wR h
theorem qJ {α:Type}:∀ {l:List (Str×α)} {x:Str} {v:α},l.lookup x=some v->(x,v)∈l
 | (n,k)::r,x,v,h=>by
  rw[ZK] at h
  cases hx:x==n with
  |true=>rw[hx] at h;cases h;rw[eq_of_beq hx];exact zzT
  |false=>rw[hx] at h;exact Zk _ (qJ h)
theorem zaT:∀ (l:List (Str×NameKind)) (n:Nat) (acc:List (Str×Addr)) {x:Str} {c:Addr},(cellsFrom n l acc).lookup x=some c->acc.lookup x=some c\/((x,NameKind.cell)∈l/\n<=c)
 | [],n,acc,x,c,h=>.inl h
 | (y,k)::r,n,acc,x,c,h=>by
  unfold cellsFrom at h
  split at h
  .rename_i hk;rcases zaT r _ _ h with h|⟨h,q⟩
   .rw[ZK] at h
    by_cases hx:(x==y)=true
    .rw[hx] at h;cases eq_of_beq hx;cases eq_of_beq hk;exact .inr ⟨zzT,Nat.le_of_eq (Zx h)⟩
    .rw[Zbx] at hx;rw[hx] at h;exact .inl h
   .exact .inr ⟨Zk _ h,Nat.le_of_succ_le q⟩
  .rcases zaT r _ _ h with h|⟨h,q⟩
   .exact .inl h
   .exact .inr ⟨Zk _ h,q⟩
theorem zbx:∀ (l:List (Str×NameKind)) (n:Nat) (acc:List (Str×Addr)) {x:Str},(∃ c,acc.lookup x=some c)->∃ c,(cellsFrom n l acc).lookup x=some c
 | [],n,acc,x,h=>h
 | (y,k)::r,n,acc,x,h=>by
  unfold cellsFrom
  split
  .refine zbx r _ _ ?_;rw[ZK];cases x==y
   .exact h
   .exact ⟨_,rfl⟩
  .exact zbx r _ _ h
theorem zdQ:∀ (l:List (Str×NameKind)) (n:Nat) (acc:List (Str×Addr)) {x:Str},(x,NameKind.cell)∈l->∃ c,(cellsFrom n l acc).lookup x=some c
 | (y,k)::r,n,acc,x,h=>by
  unfold cellsFrom;rcases Zp.mp h with h|h
  .cases h;rw[if_pos (by decide)];refine zbx r _ _ ?_;rw[ZK,beq_self_eq_true];exact ⟨_,rfl⟩
  .split
   .exact zdQ r _ _ h
   .exact zdQ r _ _ h
def Inj (n:Nat) (l:List (Str×Addr)):Prop:=(∀ x c,l.lookup x=some c->c<n)/\∀ x y c,l.lookup x=some c->l.lookup y=some c->x=y
theorem zdP:∀ (l:List (Str×NameKind)) (n:Nat) (acc:List (Str×Addr)),Inj n acc->∀ x y c,(cellsFrom n l acc).lookup x=some c->(cellsFrom n l acc).lookup y=some c->x=y
 | [],n,acc,h=>h.2
 | (z,k)::r,n,acc,h=>by
  unfold cellsFrom
  split
  .refine zdP r (n+1) ((z,n)::acc) ⟨fun x c e=>?_,fun x y c e e'=>?_⟩
   .rw[ZK] at e
    cases hx:x==z with
    |true=>rw[hx] at e;cases e;exact Zcf _
    |false=>rw[hx] at e;exact ZaK (h.1 x c e)
   .rw[ZK] at e e'
    cases hx:x==z with
    |true =>
     rw[hx] at e;cases e
     cases hy:y==z with
     |true=>rw[eq_of_beq hx,eq_of_beq hy]
     |false=>rw[hy] at e';exact absurd (h.1 y _ e') (Zai _)
    |false =>
     rw[hx] at e
     cases hy:y==z with
     |true=>rw[hy] at e';cases e';exact absurd (h.1 x _ e) (Zai _)
     |false=>rw[hy] at e';exact h.2 x y c e e'
  .exact zdP r n acc h
theorem zaU:∀ (l:List (Str×NameKind)) (h:Heap) (acc:List (Str×Addr)),(∀ x c,acc.lookup x=some c->∃ v,h.IsCell c v)->∀ x c,(cellsFrom h.objs.size l acc).lookup x=some c->∃ v,(pushCells h l).IsCell c v
 | [],h,acc,k=>k
 | (z,q)::r,h,acc,k=>by
  unfold cellsFrom pushCells
  split
  .have:=zaU r (h.push { cls:=.type "cell", data:=.cell none }) ((z,h.objs.size)::acc) (fun x c e=>by
    rw[ZK] at e
    cases hx:x==z with
    |true=>rw[hx] at e;cases e;exact ⟨_,_,Zg _ rfl,rfl⟩
    |false =>
     rw[hx] at e;obtain ⟨v,o,ho,hd⟩:=k x c e;exact ⟨v,o,Zb _ ho,hd⟩)
   rw[Zaa] at this;exact this
  .exact zaU r h acc k
theorem nfe {M:Model} {A:Around} {E:Value->Shared->Prop} {s:Shared} {sc:Scope} {gl:Addr} {cl:List (Str×Addr)} {qual:Str} {env:Env} {Q:Env->Shared->Prop}
  (hQ:∀ h',h'=pushCells (s.heap.push { cls:=.type "dict", data:=.dict #[] }) sc.names->h'.Ns s.heap.objs.size (fun _=>none)->(∀ b o,s.heap.get? b=some o->h'.get? b=some o) ->
   Q { scope:=sc,locals:=s.heap.objs.size,globals:=gl,cells:=cellsFrom (s.heap.objs.size+1) sc.names cl,qual:=qual,func:=none,code:=env.code,frame:=env.frame,builtins:=env.builtins } { s with heap:=h' }) :
  wpAny M A (newFunctionEnv sc gl cl [] qual none .none (some env)) Q E s:=by
 simp only[newFunctionEnv,Option.isSome_some,if_true];refine Za (wpAny_alloc (Za (wpAny_layCells _ (fun name kind cells=>by cases hkc:kind==NameKind.cell<;>simp[hkc]) _ _ _ _ ?_)));rw[show ({ s with heap:=s.heap.push { cls:=.type "dict", data:=.dict #[] } }:Shared).heap.objs.size=s.heap.objs.size+1 from Zaa ..];rw[List.forIn_nil];refine Za (Zc (Zc (hQ _ rfl ((Heap.Ns.new s.heap (.type "dict")).keeps (ZbN _ _)) fun b o e=>ZbN _ _ b o (Zb _ e))))
end L2
namespace L2
open PySem PySem.Spec PyProof.Rows PySem.Calls
theorem zal (elt target iter:Expr) (ifs:List Expr) (scope:Scope) (pos:Pos) (it acc:Value) (env:Env) :
  compTurn (.ListComp elt [⟨target,iter,ifs,0⟩] scope pos) 0 it acc env=(do
   standAt iter.pos
   match ← pyNext it with
   |none=>pure (.done .next)
   |some v =>
    letOwnedTupleGo target it v
    assign target env v
    let mut ok:=true
    for c in ifs do
     if ok then ok ← isTrue c env (eval c env)
    if ok then
     (do let _ ← call (.builtin "list.append") [acc,← eval elt env])
    again (.compLoop (.ListComp elt [⟨target,iter,ifs,0⟩] scope pos) 0 it acc env)):=by rfl
section
variable {prog:Program} {w:World} {A:Around} {R:Result->Shared->Prop} {s:Shared}
theorem zam {elt target iter:Expr} {ifs:List Expr} {scope:Scope} {pos:Pos} {it acc:Value} {env:Env} (I:Nat->Shared->Prop)
  (turn:∀ n s,I n s->wpAny (model prog w) A (pyNext it) (fun r s₁=>match r with
   |none=>R (.ok .next) s₁
   |some v=>wpAny (model prog w) A (letOwnedTupleGo target it v) (fun _ s₁=>wpAny (model prog w) A (assign target env v) (fun _ s₂ =>
     wpAny (model prog w) A (forIn ifs true fun c r=>if r=true then do let ok ← isTrue c env (eval c env);pure (ForInStep.yield ok) else pure (ForInStep.yield r)) (fun ok s₃ =>
      if ok=true then wpAny (model prog w) A (eval elt env) (fun x s₄ =>
       wpAny (model prog w) A (call (.builtin "list.append") [acc,x]) (fun _ s₅=>∃ m,m<n/\I m s₅) (fun _ _=>False) s₄) (notedBy (model prog w) A env fun e s'=>R (.error e) s') s₃
      else ∃ m,m<n/\I m s₃) (fun _ _=>False) s₂) (fun _ _=>False) s₁) (fun _ _=>False) s₁) (fun _ _=>False) s)
  (n:Nat) (h:I n s) :
  codeAny (model prog w) A (.compLoop (.ListComp elt [⟨target,iter,ifs,0⟩] scope pos) 0 it acc env) R s:=by
 refine codeAny_loop rfl I (fun n s hI=>?_) n h;show wpAny _ A ((compTurn (.ListComp elt [⟨target,iter,ifs,0⟩] scope pos) 0 it acc env).onRaise (fun x=>do noteFrame x env;theTreesLotGoes x)) _ _ s;refine wpAny_noted ?_;rw[zal];refine Za (ZbE (Za (Z2 (turn n s hI) (fun r s₁ h₁=>?_) fun _ _ h'=>h'.elim)))
 cases r with
 |none=>exact Zc h₁
 |some v =>
  refine Za (Z2 h₁ (fun _ s₁ h₁=>?_) fun _ _ h'=>h'.elim);refine Za (Z2 h₁ (fun _ s₂ h₂=>Za (Z2 h₂ (fun ok s₃ h₃=>?_) fun _ _ h'=>h'.elim)) fun _ _ h'=>h'.elim)
  cases ok with
  |false=>exact Zc ⟨rfl,h₃⟩
  |true =>
   exact Za (Za (Z2 h₃ (fun x s₄ h₄=>Za (Z2 h₄ (fun _ s₅ h₅=>Zc (Zc ⟨rfl,h₅⟩)) fun _ _ h'=>h'.elim)) fun _ _ h'=>h'))
end
structure IsBlock (X:Cx) (N:List Str) (sc:Scope) (X':Cx):Prop where
 prog:X'.prog=X.prog
 w:X'.w=X.w
 K:X'.K=X.K
 mg:X'.mg=X.mg
 base:X'.base=X.base
 A:X'.A=X.A
 calm:X'.calm=X.calm
 N:X'.N=N
 scope:X'.env.scope=relabel sc X.env
 xe:X'.xe=fun _ _=>False
 fn:∀ x,sc.names.lookup x=some .cell->X'.fn x=true
def ocl (X:Cx) (sc:Scope) (C:Addr):List (Str×Addr):=cellsFrom (C+1) sc.names (clo X.env sc.names [])
def qQ (X:Cx) (N:List Str) (sc:Scope) (C:Addr) (s2:Shared) (H2:Hp) (fp:List Addr) (pins:List (Addr×Obj)) (xe:Value->Shared->Prop):Cx where
 prog:=X.prog
 w:=X.w
 K:=X.K
 mg:=X.mg
 base:=X.base
 A:=X.A
 N:=N
 s₀:=s2
 H₀:=H2
 env:=compEnvC sc (ocl X sc C) C X.env
 outer:=X.stack
 stack:=X.stack
 ex:=fp
 fn:=fun x=>sc.names.lookup x==some .cell
 calm:=X.calm
 pn:=X.pn++pins
 xe:=xe
theorem zbZ (X:Cx) (N:List Str) (sc:Scope) (C:Addr) (s2:Shared) (H2:Hp) (fp:List Addr) (pins:List (Addr×Obj)) (xe:Value->Shared->Prop):IsBlock X N sc (qQ X N sc C s2 H2 fp pins xe).nox :=
 ⟨rfl,rfl,rfl,rfl,rfl,rfl,rfl,rfl,rfl,rfl,fun x h=>by show (sc.names.lookup x==some .cell)=true;rw[h];rfl⟩
structure BlkSc (X:Cx) (sc:Scope):Prop where
 kind:sc.kind=.function
 cells:∀ x,(x,NameKind.cell)∈sc.names->sc.names.lookup x=some .cell
 frees:∀ x,(x,NameKind.free)∈sc.names->sc.names.lookup x=some .free
 free:∀ x,(x,NameKind.free)∈sc.names->X.env.kindOf x=some .cell\/X.env.kindOf x=some .free
 names:∀ y∈sc.names,y.2=.local->sc.names.lookup y.1=some .local
section
variable {X:Cx} {pins:List (Addr×Obj)} {σ:St} {H2:Hp} {s2:Shared} {sc:Scope} {N:List Str} {C:Addr} {fp:List Addr} {xe:Value->Shared->Prop}
theorem uO (ok:X.Ok) (B:BlkSc X sc) {x:Str} {c:Addr} (h:(clo X.env sc.names []).lookup x=some c):X.env.cells.lookup x=some c/\sc.names.lookup x=some .free:=by
 rcases zaQ _ _ _ h with ⟨⟨k,m,e⟩,q⟩|h
 .subst e;have hf:=B.free x m;obtain ⟨c',hc'⟩:=ok.has x hf;rw[hc'] at q;exact ⟨by rw[hc',q];rfl,B.frees x m⟩
 .simp at h
theorem uZ (ok:X.Ok) (B:BlkSc X sc) {x:Str} {c:Addr} (h:(ocl X sc C).lookup x=some c):(X.env.cells.lookup x=some c/\sc.names.lookup x=some .free)\/(sc.names.lookup x=some .cell/\C<c):=by
 rcases zaT _ _ _ h with h|⟨h,q⟩
 .exact .inl (uO ok B h)
 .exact .inr ⟨B.cells x h,q⟩
theorem B_has (B:BlkSc X sc) {x:Str} (h:(relabel sc X.env).names.lookup x=some .cell\/(relabel sc X.env).names.lookup x=some .free):(x,NameKind.free)∈sc.names\/(x,NameKind.cell)∈sc.names:=by
 rcases h with h|h
 .obtain ⟨k,hk,e⟩:=wR h;rcases e with e|⟨e,_⟩
  .subst e;exact .inr (qJ hk)
  .subst e;exact .inl (qJ hk)
 .obtain ⟨k,hk,e⟩:=wR h;rcases e with e|⟨e,z⟩
  .subst e;exact .inl (qJ hk)
  .cases z
theorem zcT {x:Str} (h:(x,NameKind.free)∈sc.names\/(x,NameKind.cell)∈sc.names):∃ c,(ocl X sc C).lookup x=some c:=by
 rcases h with h|h
 .exact zbx _ _ _ (zaR _ _ _ h)
 .exact zdQ _ _ _ h
theorem zdR (I2:Inv X pins σ H2 s2) {x:Str} {c:Addr} (h:X.env.cells.lookup x=some c):c<s2.heap.objs.size:=by
 obtain ⟨v,o,e,_⟩:=I2.cell x c h;exact Zd e
theorem fK (I2:Inv X pins σ H2 s2) (B:BlkSc X sc) (f2:∀ b∈fp,uJ X pins H2 b) (hfp:∀ b∈fp,b<s2.heap.objs.size) (hC:s2.heap.objs.size<=C):(qQ X N sc C s2 H2 fp pins xe).Ok where
 mod:=I2.ok.mod
 kind:=B.kind
 glob:=I2.ok.glob
 blt:=I2.ok.blt
 above:=hC
 inj:=zdP _ _ _ ⟨fun x c h=>ZaK (Ze (zdR I2 (uO I2.ok B h).1) hC),fun x y c hx hy=>I2.ok.inj x y c (uO I2.ok B hx).1 (uO I2.ok B hy).1⟩
 has:=fun x h=>zcT (B_has B h)
 cab:=fun x c h e=>by
  rcases uZ I2.ok B e with ⟨_,q⟩|⟨_,q⟩
  .have h:(sc.names.lookup x==some .cell)=true:=h;rw[q] at h;cases h
  .exact Zn hC (ZaO q)
 hd:=I2.ok.hd
 frames:=I2.ok.frames
 stk:=.inl rfl
 exf:=fun b hb=>⟨Zj (Ze (hfp b hb) hC),fun x c h=>by
  rcases uZ I2.ok B h with ⟨q,_⟩|⟨_,q⟩
  .exact (f2 b hb).2.2.2.2.1 x c q
  .exact Z8 (Nat.lt_trans (Ze (hfp b hb) hC) q)⟩
 bs:=I2.bs
 bsz:=Zn I2.ok.bsz I2.sz
 noex:=fun b o e hb=>by
  rcases (f2 b hb).2.2.2.1 with h|h
  .exact I2.ok.noex b o e h
  .exact absurd (Ze (Zd e) (Zn I2.ok.bsz h)) (Zai _)
 exfs:=fun b hb hm=>by
  rcases Zp.mp (I2.stkSub b hm) with h|h
  .exact (f2 b hb).2.1 h
  .exact (f2 b hb).2.2.1 h
 funs:=I2.stack
 frf:=I2.stkFree
theorem zdU {s4:Shared} {τ:St} {m:Str->Option Value} (I2:Inv X pins σ H2 s2) (B:BlkSc X sc) (f2:∀ b∈fp,uJ X pins H2 b) (hfp:∀ b∈fp,b<s2.heap.objs.size) (hC:s2.heap.objs.size<=C)
  (ho:s4.os=s2.os) (hg:s4.gens=s2.gens) (keep:∀ b o,s2.heap.get? b=some o->s4.heap.get? b=some o) (hcs:∀ x c,(ocl X sc C).lookup x=some c->∃ v,s4.heap.IsCell c v) (hns:s4.heap.Ns C m) (hl:τ.length=N.length)
  (cap:∀ (i:Nat) (x:Str) (v:V),N[i]?=some x->τ[i]?=some (some v)->Vis (relabel sc X.env) x->sc.names.lookup x=some .free/\∃ j:Nat,X.N[j]?=some x/\σ[j]?=some (some v)) (h4:0<s4.toks) :
  Inv (qQ X N sc C s2 H2 fp pins xe) [] τ H2 s4:=by
 refine ⟨fK I2 B f2 hfp hC,ho,by rw[hg];exact I2.bare,Un.kept keep,⟨m,hns,fun i x v hN hτ hv=>?_⟩,hcs,I2.hok.fresh hC,fun x c h=>?_,fun p hp=>?_,I2.hok.kept keep,hl,h4⟩
 .obtain ⟨hnl,j,hj,hσ⟩:=cap i x v hN hτ hv;have hmem:=qJ hnl;have hf:=B.free x hmem
  have hkind:(relabel sc X.env).names.lookup x=some .cell\/(relabel sc X.env).names.lookup x=some .free:=by
   rcases hv with h|h|h
   .obtain ⟨k,hk,e⟩:=wR h;rw[hnl] at hk;cases hk;rcases e with e|⟨_,e⟩<;>cases e
   .exact .inl h
   .exact .inr h
  obtain ⟨m0,_,hl0⟩:=I2.loc;obtain ⟨u,r,lk⟩:=hl0 j x v hj hσ (hf.elim (fun h=>.inr (.inl h)) fun h=>.inr (.inr h));refine ⟨u,r,.inr ⟨hkind,?_⟩⟩;rcases lk with ⟨hk,_⟩|⟨_,c,hc,hcell⟩
  .rw[hk] at hf;rcases hf with hf|hf<;>cases hf
  .obtain ⟨c',hc'⟩:=zcT (X:=X) (C:=C) (.inl hmem);rcases uZ I2.ok B hc' with ⟨e,_⟩|⟨e,_⟩
   .rw[hc] at e;cases e;refine ⟨c,hc',?_⟩;obtain ⟨o,e1,r1⟩:=hcell;exact ⟨o,keep _ _ e1,r1⟩
   .rw[hnl] at e;cases e
 .rcases uZ I2.ok B h with ⟨e,_⟩|⟨_,e⟩
  .exact I2.freeC x c e
  .exact I2.hok.fresh (Zn hC (ZaO e))
 .have hp':p∈X.pn++pins:=by simpa[qQ] using hp
  obtain ⟨q1,q2,q3,q4,q5⟩:=I2.pin p hp';refine ⟨keep _ _ q1,q2,Zj (Ze (Zd q1) hC),fun z=>?_,q5⟩;rcases Zp.mp (I2.stkSub _ z) with h|h
  .exact q3 h
  .exact q4 h
end
theorem uK.adopt {P:Program} {w:World} {H:Hp} {h h':Heap} {a:Addr} {o:HO} (x:uK P w H h) (k:∀ b u v,H b=some v->h.get? b=some u->h'.get? b=some u) (hn:H a=none) (new:xM P w (xP H a o) h' a o):uK P w (xP H a o) h':=fun b u e=>by
 by_cases hb:b=a
 .subst hb;rw[yD] at e;cases e;exact new
 .rw[zE hb] at e;refine (x b u e).stay (fun c v hc q=>?_) (fun c q=>by rw[zE (yK q hn)];exact q) fun c xs q=>by rw[zE (yK q hn)];exact q
  rcases hc with rfl|hc
  .exact k _ _ _ e q
  .exact k _ _ _ hc q
end L2
namespace L2
open PySem PySem.Spec PyProof.Rows PySem.Calls
def PTs (X:Cx) (ifs:List Expr) (t:TT):Prop :=
 ∀ (pins:List (Addr×Obj)) (s:Shared) (σ:St) (H:Hp) (Q:Bool->Hp->Prop),Inv X pins σ H s->t σ H Q ->
  wpAny 'a' X.A (forIn ifs true fun c r=>if r=true then do let ok ← isTrue c X.env (eval c X.env);pure (ForInStep.yield ok) else pure (ForInStep.yield r)) (TP X pins σ Q) X.xe s
theorem zcL {X:Cx}:PTs X [] (fun _ H Q=>Q true H):=fun _ _ _ H _ I h=>wpAny_tests_nil ⟨H,I,h⟩
theorem zgZ {X:Cx} {c:Expr} {t:TT} (h:PT X c t):PTs X [c] t:=fun pins s σ H Q I q=>wpAny_tests_one (h pins s σ H Q I q)
def tLCb (J:It) (τ:St) (g:TG) (tc:TT) (te:TE) (Qf:List V->Hp->Prop) (H1:Hp):Prop :=
 ∃ Pv:Nat->Nat->St->List V->Hp->Prop,(∃ m,Pv 0 m τ [] H1)/\∀ i m τ acc H,Pv i m τ acc H ->
  (J.stop i H/\Qf acc H) \/
  (J.go i H/\acc.length<sizeLine/\∀ x H',J.yld i H x H'->g x τ H' fun σ2 H2=>tc σ2 H2 fun b H3=>if b=true then te σ2 H3 fun v H4=>∃ m',m' < m/\Pv (i+1) m' σ2 (acc++[v]) H4 else ∃ m',m' < m/\Pv (i+1) m' σ2 acc H3)
structure Off (X:Cx) (pins:List (Addr×Obj)) (C:Addr):Prop where
 ne:C≠X.env.locals
 ge:X.s₀.heap.objs.size<=C
 cl:∀ x c,X.env.cells.lookup x=some c->c≠C
 pn:∀ p∈X.pn++pins,p.1≠C
theorem Off.turned {X:Cx} {pins:List (Addr×Obj)} {C:Addr} {σ:St} {H:Hp} {s:Shared} {h':Heap} (o:Off X pins C) (I:Inv X pins σ H s) (hn:H C=none) (k:Heap.SameBut C s.heap h'):Inv X pins σ H { s with heap:=h' } :=
 I.turned (t':=s.toks) (fun b u hb e=>k.extBut b u hb e) hn o.ne (.inr o.ge) o.cl o.pn
theorem Inv.off {X:Cx} {pins:List (Addr×Obj)} {σ:St} {H:Hp} {s:Shared} {C:Addr} (I:Inv X pins σ H s) (hC:s.heap.objs.size<=C):Off X pins C :=
 ⟨(Zj (Ze I.lt hC)).symm,Zn I.sz hC,fun x c h=>by
  obtain ⟨v,o,e,_⟩:=I.cell x c h;exact Zj (Ze (Zd e) hC),fun p hp=>Zj (Ze (Zd (I.pin p hp).1) hC)⟩
abbrev vR (its:List Value) (n:Nat):Obj:={ cls:=.type "list", data:=.seq its.toArray n }
set_option maxHeartbeats 8000000 in
theorem zaG {X:Cx} {pins:List (Addr×Obj)} {σ τ:St} {H2:Hp} {s2:Shared} {sc:Scope} {N:List Str} {fp:List Addr} {it:Addr} {tn:Nat->Heap->Prop} {J:It} {tg iter elt:Expr} {ifs:List Expr} {pos:Pos} {g:TG} {tc:TT} {te:TE}
  {Qf:List V->Hp->Prop} {RR:Value->Addr->Result->Shared->Prop} {E:Value->Shared->Prop}
  (hc:X.calm=true) (I2:Inv X pins σ H2 s2) (T:Turn X.prog X.w X.K tg J fp it tn) (t0:tn 0 s2.heap) (f2:∀ b∈fp,uJ X pins H2 b) (B:BlkSc X sc) (hl:τ.length=N.length)
  (cap:∀ (i:Nat) (x:Str) (v:V),N[i]?=some x->τ[i]?=some (some v)->Vis (relabel sc X.env) x->sc.names.lookup x=some .free/\∃ j:Nat,X.N[j]?=some x/\σ[j]?=some (some v))
  (hg:∀ X',IsBlock X N sc X'->PG X' tg g) (ht:∀ X',IsBlock X N sc X'->PTs X' ifs tc) {PX:Cx->Prop} (hpx:∀ D C,s2.heap.objs.size<=C->PX (qQ X N sc C s2 H2 fp pins (notedBy 'a' X.A (compEnvC sc (ocl X sc C) C X.env) fun e s'=>RR (.ref D) C (.error e) s'))) (he:∀ X',IsBlock X N sc X'.nox->PX X'->PE X' elt te)
  (h:tLCb J τ g tc te Qf H2)
  (fin:∀ (D C:Addr) (acc:List V) (H':Hp) (s':Shared) (m:Str->Option Value),D≠C->H' D=none->H' C=none->Off X pins C->Inv X pins σ (xP H' D (.lst acc)) s'->s'.heap.Ns C m->Qf acc H'->RR (.ref D) C (.ok .next) s') :
  wpAny 'a' X.A (newList []) (fun acc s₃=>wpAny 'a' X.A (newFunctionEnv sc X.env.globals (clo X.env sc.names []) [] X.env.qual none .none (some X.env)) (fun cenv s₄ =>
   codeAny 'a' X.A (.compStart (.ListComp elt [⟨tg,iter,ifs,0⟩] sc pos) 0 (.ref it) acc { cenv with scope:=relabel sc X.env }) (RR acc cenv.locals) s₄) E s₃) E s2:=by
 refine ZN (nfe fun h₁ heq hns₁ hk₁=>?_);dsimp only at heq hns₁ hk₁ ⊢;generalize hH2:s2.heap.push { cls:=.type "list", dict:=none,data:=.seq ([]:List Value).toArray }=G2 at heq hns₁ hk₁ ⊢
 have hcs:∀ x c,(ocl X sc G2.objs.size).lookup x=some c->∃ v,h₁.IsCell c v:=fun x c e=>by
  rw[heq];refine zaU sc.names (G2.push { cls:=.type "dict", data:=.dict #[] }) (clo X.env sc.names []) (fun y d q=>?_) x c (by rw[Zaa];exact e);obtain ⟨v,o,ho,hd⟩:=I2.cell y d (uO I2.ok B q).1;exact ⟨v,o,Zb _ (hH2▸Zb _ ho),hd⟩
 have hC:G2.objs.size=s2.heap.objs.size+1:=by rw[← hH2,Zaa]
 have hDC:s2.heap.objs.size≠G2.objs.size:=by rw[hC];exact Zj (Zcf _)
 have hCle:s2.heap.objs.size<=G2.objs.size:=by rw[hC];exact Zcx _
 have below:∀ b,b<s2.heap.objs.size->b≠G2.objs.size/\b≠s2.heap.objs.size:=fun b hb=>⟨by rw[hC];exact Zj (ZaK hb),Zj hb⟩
 have hfp:∀ b∈fp,b<s2.heap.objs.size:=fun b hb=>by
  obtain ⟨o,e,_⟩:=T.obj _ _ t0 b hb;exact Zd e
 have hDf:∀ b∈fp,b≠s2.heap.objs.size:=fun b hb=>(below b (hfp b hb)).2;have hCf:∀ b∈fp,b≠G2.objs.size:=fun b hb=>(below b (hfp b hb)).1;have old:∀ b o,s2.heap.get? b=some o->h₁.get? b=some o:=fun b o e=>hk₁ b o (hH2▸Zb _ e);have hacc:h₁.get? s2.heap.objs.size=some (vR [] 0):=hk₁ _ _ (hH2▸Zg _ rfl)
 have fresh:∀ a,s2.heap.objs.size<=a->s2.heap.get? a=none:=fun a ha=>by
  cases e:s2.heap.get? a with
  |none=>rfl
  |some o'=>exact absurd (Zd e) (Nat.not_lt.mpr ha)
 have hsub:∀ b∈pW X.stack,b<s2.heap.objs.size:=fun b hb=>by
  obtain ⟨_,o,e,_⟩:=I2.stack.mem hb;exact Zd e
 obtain ⟨Pv,⟨m0,p0⟩,step⟩:=h;generalize hD:s2.heap.objs.size=D at *;generalize hCe:G2.objs.size=C at *;have hpx:=hpx D C hCle;have hXb:IsBlock X N sc (qQ X N sc C s2 H2 fp pins (notedBy 'a' X.A (compEnvC sc (ocl X sc C) C X.env) fun e s'=>RR (.ref D) C (.error e) s')).nox:=zbZ ..;generalize hXd:qQ X N sc C s2 H2 fp pins (notedBy 'a' X.A (compEnvC sc (ocl X sc C) C X.env) fun e s'=>RR (.ref D) C (.error e) s')=X' at hXb hpx;have exe:X'.xe=notedBy 'a' X.A (compEnvC sc (ocl X sc C) C X.env) fun e s'=>RR (.ref D) C (.error e) s':=by rw[← hXd];rfl
 have J0:Inv X' [] τ H2 { s2 with heap:=h₁ }:=by
  rw[← hXd];exact zdU (s4:={ s2 with heap:=h₁ }) I2 B f2 (by rw[hD];exact hfp) (by rw[hD];exact hCle) rfl rfl old hcs hns₁ hl cap I2.tk
 have offD:Off X' [] D:=by
  rw[← hXd];refine ⟨hDC,by show s2.heap.objs.size<=D;rw[hD];exact zzR _,fun x c hx=>?_,fun p hp=>?_⟩
  .rcases uZ I2.ok B hx with ⟨q,_⟩|⟨_,q⟩
   .have:=zdR I2 q;rw[hD] at this;exact Zj this
   .exact Z8 (Nat.lt_of_le_of_lt hCle q)
  .have hp':p∈X.pn++pins:=by simpa[qQ] using hp
   have:=Zd (I2.pin p hp').1;rw[hD] at this;exact Zj this
 have offC:Off X pins C:=I2.off (by rw[hD];exact hCle)
 have fpok:∀ {H':Hp} {ob:Obj},(∀ b∈fp,H' b=none)->∀ b∈fp,uJ X' [(D,ob)] H' b:=fun {H' ob} hn b hb=>by
  rw[← hXd];refine ⟨hn b hb,hCf b hb,fun z=>(fK (N:=N) I2 B f2 (by rw[hD];exact hfp) (by rw[hD];exact hCle)).exfs b hb z,.inl hb,fun x c hx=>(fK (N:=N) I2 B f2 (by rw[hD];exact hfp) (by rw[hD];exact hCle)).exf b hb |>.2 x c hx,fun p hp=>?_⟩;rcases ZE.mp hp with hp|hp
  .exact (f2 b hb).2.2.2.2.2 p hp
  .rw[zzO hp];exact (hDf b hb).symm
 have Dfs:D∉X'.fs:=by
  rw[← hXd];intro z;exact Zai _ (hsub D z)
 have pinD:∀ {H':Hp} {τ':St} {s':Shared} {its:List Value} {n:Nat},Inv X' [] τ' H' s'->H' D=none->s'.heap.get? D=some (vR its n)->Inv X' [(D,vR its n)] τ' H' s':=fun {H' τ' s' its n} I hn e =>
  I.pins_of fun p hp=>by
   rw[zzO hp];exact ⟨e,hn,by rw[← hXd];exact hDC,Dfs,fun v z=>nomatch z⟩
 have loop:∀ s₃:Shared,s₃={ s2 with heap:=h₁ } ->
   codeAny 'a' X.A (.compLoop (.ListComp elt [⟨tg,iter,ifs,0⟩] sc pos) 0 (.ref it) (.ref D) (compEnvC sc (ocl X sc C) C X.env)) (RR (.ref D) C) s₃:=by
  rintro s₃ rfl;have tn0:tn 0 h₁:=T.keep _ _ _ t0 fun b _ o e=>old b o e;have fr0:∀ b∈fp,H2 b=none:=fun b hb=>(f2 b hb).1;have Df0:H2 D=none:=I2.hok.fresh (by rw[hD];exact zzR _);have eX:X'.env=compEnvC sc (ocl X sc C) C X.env:=by rw[← hXd];rfl
  have ep:X'.prog=X.prog:=hXb.prog;have ew:X'.w=X.w:=hXb.w;have eA:X'.A=X.A:=hXb.A;refine zam (fun k s'=>∃ i τ' acc H' its n,Inv X' [] τ' H' s'/\tn i s'.heap/\(∀ b∈fp,H' b=none)/\H' D=none/\s'.heap.get? D=some (vR its n)/\zF acc its/\acc.length<=sizeLine/\Pv i k τ' acc H') ?_ m0 ⟨0,τ,[],H2,[],0,J0,tn0,fr0,Df0,hacc,.nil,Zan _,p0⟩;rintro k s3 ⟨i,τ3,acc,H3,its,n,I3,st3,fr3,D3,o3,v3,lenA,p3⟩;have I3':=pinD I3 D3 o3;rcases step i k τ3 acc H3 p3 with ⟨stop,qf⟩|⟨go,hsz,turn⟩
  .have td:=T.done X' ep ew hXb.K (by rw[hXb.calm];exact hc) i _ s3 τ3 H3 (fun _ _=>False) I3' (fpok fr3) st3 stop;rw[eA] at td;refine xQ td fun r s4 ⟨hr,I4⟩=>?_;subst hr;have o4:=(I4.pin (D,vR its n) (Zv _ (ZG.mpr rfl))).1;obtain ⟨m4,hn4,_⟩:=I4.loc;rw[eX] at hn4;refine fin D C acc H3 s4 m4 hDC D3 ?_ offC ?_ hn4 qf
   .have:=I4.free;rw[eX] at this;exact this
   .have base:Un (pW X.stack) fp H2 H3 s2.heap s4.heap:=by have:=I4.base;rw[← hXd] at this;exact this
    have hb:∀ b o,s2.heap.get? b=some o->b≠D:=fun b o e=>by have:=Zd e;rw[hD] at this;exact Zj this
    refine I2.call' (ch:=fp) (by have:=I4.os;rw[← hXd] at this;exact this) ⟨base.keep,base.slot,fun b o e n' hx=>?_,base.there,fun b xs e=>?_,fun b o u e=>?_,fun b ps e=>?_⟩ ?_ I4.bare ?_ I4.tk
    .rw[zE (hb b o e)];exact base.free b o e n' hx
    .rw[zE (yK (base.tups b xs e) D3)];exact base.tups b xs e
    .rw[zE (yK (base.frzs b o u e) D3)];exact base.frzs b o u e
    .obtain ⟨mo,e'⟩:=base.tbls b ps e;exact ⟨mo,by rw[zE (yK e' D3)];exact e'⟩
    .have hk:=I4.hok;rw[ep,ew] at hk;exact hk.adopt (fun b u v _ q=>q) D3 ⟨lenA,its,n,v3,o4⟩
    .intro b hb';obtain ⟨q1,q2,q3,q4,q5,q6⟩:=f2 b hb';exact ⟨q4,q2,q5,q6⟩
  .have td:=T.item X' ep ew hXb.K (by rw[hXb.calm];exact hc) i _ s3 τ3 H3 (fun _ _=>False) I3' (fpok fr3) st3 go;rw[eA] at td;refine xQ td fun r s4 ⟨u,hr,h4⟩=>?_;subst hr;refine xQ h4 fun _ s5 ⟨x,H5,I5,r5,y5,st5,fr5⟩=>?_;have I5':=I5.pinned (fpok fr5) (T.obj _ _ st5);have q1:=hg X'.nox hXb _ s5 τ3 H5 x u _ (I5'.wish _) r5 (turn x H5 y5);rw[show X'.nox.prog=X.prog from ep,show X'.nox.w=X.w from ew,show X'.nox.A=X.A from eA,show X'.nox.env=_ from eX,hXb.xe] at q1;refine xQ q1 fun _ s6 ⟨σ6,H6,I6,q6⟩=>?_;have q2:=ht X'.nox hXb _ s6 σ6 H6 _ I6 q6;rw[show X'.nox.prog=X.prog from ep,show X'.nox.w=X.w from ew,show X'.nox.A=X.A from eA,show X'.nox.env=_ from eX,hXb.xe] at q2;refine xQ q2 fun b s7 ⟨H7,I7n,q7⟩=>?_;have I7:=I7n.unwish
   have back:∀ {H8:Hp} {s8:Shared},Inv X' ([(D,vR its n)]++rM fp s5.heap) σ6 H8 s8->Inv X' [] σ6 H8 s8/\tn (i+1) s8.heap/\(∀ b∈fp,H8 b=none)/\H8 D=none/\s8.heap.get? D=some (vR its n):=fun {H8 s8} I8=>by
    have pp:∀ p,p∈[(D,vR its n)]++rM fp s5.heap->_:=fun p hp=>I8.pin p (Zv _ hp);refine ⟨I8.pins_of (pins':=[]) (fun p hp=>nomatch hp),T.keep _ _ _ st5 fun b hb o e=>(pp (b,o) (Zv _ (vT hb e))).1,fun b hb=>?_,?_,?_⟩
    .obtain ⟨o,e,d⟩:=T.obj _ _ st5 b hb;exact (pp (b,o) (Zv _ (vT hb e))).2.1
    .exact (pp (D,vR its n) (ZT _ (ZG.mpr rfl))).2.1
    .exact (pp (D,vR its n) (ZT _ (ZG.mpr rfl))).1
   cases b with
   |false =>
    rw[if_neg (by decide)] at q7;rw[if_neg (by decide)];obtain ⟨m',hm,p'⟩:=q7;obtain ⟨b1,b2,b3,b4,b5⟩:=back I7;exact ⟨m',hm,i+1,σ6,acc,H7,its,n,b1,b2,b3,b4,b5,v3,lenA,p'⟩
   |true =>
    rw[if_pos rfl] at q7;rw[if_pos rfl];have q3:=he X' hXb hpx _ s7 σ6 H7 _ I7 q7;rw[ep,ew,eA,eX,exe] at q3;refine xQ q3 fun y s8 ⟨v,H8,I8,r8,m',hm,p'⟩=>?_;obtain ⟨b1,b2,b3,b4,b5⟩:=back I8;refine append_at (hsz:=by show its.toArray.size<=sizeLine;rw[zzS,← v3.length];exact ZaO hsz) b5 fun h₅ hs₅ hD₅=>?_;refine ⟨m',hm,i+1,σ6,acc++[v],H8,its++[y],n+1,offD.turned b1 b4 hs₅,T.keep _ _ _ b2 fun b hb o e=>hs₅.extBut b o (hDf b hb) e,b3,b4,?_,v3.append (.cons r8 .nil),by rw[zzW];exact hsz,p'⟩;show h₅.get? D=_;rw[hD₅,List.push_toArray]
 exact codeAny_compStart_list (loop _ rfl) (T.self _ 0 _ _ _ (T.keep _ _ _ t0 fun b _ o e=>old b o e) (loop _ rfl))
def tLC (wi:TI) (cap:St->St) (g:TG) (tc:TT) (te:Hp->TE):TE:=fun σ H Q=>wi σ H fun J H1=>tLCb J (cap σ) g tc (te H) (fun acc H'=>∀ p,H' p=none->Q (.ref p) (xP H' p (.lst acc))) H1
section
variable {X:Cx} {sc:Scope} {N:List Str} {tg iter elt:Expr} {ifs:List Expr} {pos:Pos} {wi:TI} {g:TG} {tc:TT} {te:Hp->TE} {cap:St->St}
def Caps (X:Cx) (sc:Scope) (N:List Str) (cap:St->St):Prop:=∀ σ:St,σ.length=X.N.length->(cap σ).length=N.length /\
 ∀ (i:Nat) (x:Str) (v:V),N[i]?=some x->(cap σ)[i]?=some (some v)->Vis (relabel sc X.env) x->sc.names.lookup x=some .free/\∃ j:Nat,X.N[j]?=some x/\σ[j]?=some (some v)
theorem pe_lc (hc:X.calm=true) (hi:PI X tg iter wi) (B:BlkSc X sc) (hcap:Caps X sc N cap)
  (hg:∀ X',IsBlock X N sc X'->PG X' tg g) (ht:∀ X',IsBlock X N sc X'->PTs X' ifs tc) (he:∀ H X',IsBlock X N sc X'->PE X' elt (te H))
  (hs:∀ x,foldedSetIterable iter X.env x=pure x:=by intro _;rfl):PE X (.ListComp elt [⟨tg,iter,ifs,0⟩] sc pos) (tLC wi cap g tc te):=by
 intro pins s σ H Q I h;rw[eval_ListComp];refine Zbg (use:=none) rfl hs (sU fun x hx=>I.ok.has x (B.free x hx)) B.kind B.names (xQ (hi pins s σ H _ I h) fun v s1 h1=>xQ h1 fun itv s2 h2=>?_);obtain ⟨it,fp,tn,J,H2,e,I2,T,st2,f2,q⟩:=h2;subst e;obtain ⟨cl,cc⟩:=hcap σ I.len;refine zaG (RR:=fun acc C=>compPost 'a' X.A X.xe none (EP X pins σ Q) acc C) hc I2 T st2 f2 B cl cc hg ht (PX:=fun _=>True) (fun _ _ _=>trivial) (fun X' b _=>(he H X'.nox b).nox) q fun D C acc H' s' m hDC hD hC off I' hn qf=>?_;refine ⟨m,hn,fun h' hk=>⟨.ref D,_,off.turned I' (by rw[zE hDC.symm];exact hC) hk,rfl,qf D hD⟩⟩
theorem zeG {i:Nat} {y:Str} {py spos:Pos} (hc:X.calm=true) (hi:PI X tg iter wi) (B:BlkSc X sc) (hcap:Caps X sc N cap)
  (hg:∀ X',IsBlock X N sc X'->PG X' tg g) (ht:∀ X',IsBlock X N sc X'->PTs X' ifs tc) (he:∀ H X',IsBlock X N sc X'->PE X' elt (te H))
  (hN:X.N.Nodup) (hy:X.N[i]?=some y) (hx:Loc X.env.scope y) (hf:X.fn y=true\/X.env.scope.names.lookup y=some .local)
  (hsw:swapsWith (.ListComp elt [⟨tg,iter,ifs,0⟩] sc pos) (some (.Name y py)) spos.line X.env=pure true)
  (hs:∀ x,foldedSetIterable iter X.env x=pure x:=by intro _;rfl):PS X (.Assign [.Name y py] (.ListComp elt [⟨tg,iter,ifs,0⟩] sc pos) spos) (tAsg (tLC wi cap g tc te) (zfi i)):=by
 intro pins s σ H D I h;rw[exec_Assign_Name_used _ _ _ _ hsw];refine Za (ZbE (Za ?_));show wpAny _ X.A (do let _ ← comprehension (.ListComp elt [⟨tg,iter,ifs,0⟩] sc pos) sc X.env _ (newList []) false (eval iter X.env) (some (assign (.Name y py) X.env))) _ _ s
 refine Za (Z2 (Zbg (use:=some (assign (.Name y py) X.env)) (Q:=fun _ s'=>SP X pins D .next s') rfl hs (sU fun x hx=>I.ok.has x (B.free x hx)) B.kind B.names
  (xQ (hi pins s σ H _ I h) fun v s1 h1=>xQ h1 fun itv s2 h2=>?_)) (fun _ s' hq=>Zc (Zc hq)) fun _ _ e=>e)
 obtain ⟨it,fp,tn,J,H2,e,I2,T,st2,f2,q⟩:=h2;subst e;obtain ⟨cl,cc⟩:=hcap σ I.len;refine zaG (RR:=fun acc C=>compPost 'a' X.A X.xe (some (assign (.Name y py) X.env)) (fun _ s'=>SP X pins D .next s') acc C) hc I2 T st2 f2 B cl cc hg ht (PX:=fun _=>True) (fun _ _ _=>trivial) (fun X' b _=>(he H X'.nox b).nox) q fun D' C acc H' s' m hDC hD hC off I' hn qf=>?_;show wpAny _ X.A (assign (.Name y py) X.env (.ref D')) _ _ _;refine wpAny_assign_Name (dB I' hN hy hx (v:=.ref D') rfl (fun s'' I'' hsm=>?_) hf);obtain ⟨a,hsb,ha⟩:=hsm
 have hCa:C≠a:=by
  rcases ha with ha|ha
  .rw[ha];exact off.ne
  .exact (off.cl y a ha).symm
 refine ⟨m,hn.sameBut hsb hCa,fun h' hk=>⟨_,_,off.turned I'' (by rw[zE hDC.symm];exact hC) hk,qf D' hD⟩⟩
end
end L2
namespace L3
open PySem PySem.Spec PyProof.Rows L2 PySem.SeqAt
mutual
def jB:W->W->Bool
 | .non,.non=>true
 | .bl a,.bl b=>a==b
 | .bl a,.int j=>(if a then 1 else 0)==j
 | .int i,.bl b=>i==(if b then 1 else 0)
 | .int i,.int j=>i==j
 | .str x,.str y=>x==y
 | .tup xs,.tup ys=>jU xs ys
 |_,_=>false
def jU:List W->List W->Bool
 | [],[]=>true
 |x::xs,y::ys=>jB x y&&jU xs ys
 |_,_=>false
end
mutual
def kR:W->Bool
 | .ref _=>false
 | .ty _=>false
 | .lsf _=>false
 | .exc _ _ _=>false
 | .dcf _ _=>false
 | .tup ws=>xF ws
 |_=>true
def xF:List W->Bool
 | []=>true
 |w::ws=>kR w&&xF ws
end
mutual
def uD:W->Nat
 | .tup ws=>jQ ws+1
 |_=>0
def jQ:List W->Nat
 | []=>0
 |w::ws=>max (uD w) (jQ ws)
end
theorem xA {w:W} {ws:List W}:xF (w::ws)=true↔kR w=true/\xF ws=true:=by simp[xF]
section
variable {X:Cx} {pins:List (Addr×Obj)} {σ:L2.St} {H:Hp} {s:Shared}
theorem W.ind {P:W->Prop} (non:P .non) (bl:∀ b,P (.bl b)) (int:∀ i,P (.int i)) (str:∀ x,P (.str x)) (ty:∀ n,P (.ty n)) (ref:∀ a,P (.ref a)) (tup:∀ ws,(∀ w∈ws,P w)->P (.tup ws)) (lsf:∀ ws,P (.lsf ws)) (exc:∀ C ns ws,P (.exc C ns ws)) (dcf:∀ ks ws,P (.dcf ks ws)):∀ w:W,P w:=fun w =>
 W.rec (motive_1:=P) (motive_2:=fun ws=>∀ w∈ws,P w) non bl int str ty ref (fun ws h=>tup ws h) (fun ws _=>lsf ws) (fun C ns ws _=>exc C ns ws) (fun ks ws _=>dcf ks ws) (fun _ h=>nomatch h) (fun w ws h hs v hv=>(Zp.mp hv).elim (fun e=>e▸h) (hs v)) w
theorem zbY:∀ (ws:List W),(∀ w∈ws,kR w=true->jB w w=true)->xF ws=true->jU ws ws=true:=by
 intro ws
 induction ws with
 |nil=>intro _ _;simp[jU]
 |cons w ws ih =>
  intro h hp;have h':=xA.mp hp;simp only[jU,h w zzT h'.1,ih (fun z hz=>h z (Zk _ hz)) h'.2,Zcy]
theorem zfr {w:W}:kR w=true->jB w w=true:=by
 induction w using W.ind with
 |non=>intro _;simp[jB]
 |bl _=>intro _;simp[jB]
 |int _=>intro _;simp[jB]
 |str _=>intro _;simp[jB]
 |ty _=>intro h;cases h
 |lsf _=>intro h;cases h
 |exc _ _ _=>intro h;cases h
 |dcf _ _=>intro h;cases h
 |ref _=>intro h;cases h
 |tup ws ih=>intro h;exact zbY ws ih h
theorem cT (I:Inv X pins σ H s):∀ (xs ys:List W) (vs:List V),(∀ x∈xs,∀ (y:W) (v:V),wO X.K H x v->wO X.K H y v->kR x=true->kR y=true->x=y)->zG X.K H xs vs->zG X.K H ys vs->xF xs=true->xF ys=true->xs=ys:=by
 intro xs
 induction xs with
 |nil =>
  intro ys vs _ h h' _ _
  cases ys with
  |nil=>rfl
  |cons y ys=>obtain ⟨_,_,e,_⟩:=h';rw[show _=[] from h] at e;cases e
 |cons x xs ih =>
  intro ys vs hx h h' px py;obtain ⟨v,r,e,q,t⟩:=h;subst e
  cases ys with
  |nil=>cases h'
  |cons y ys =>
   obtain ⟨v',r',e',q',t'⟩:=h';cases e';rw[hx x zzT y v q q' (xA.mp px).1 (xA.mp py).1,ih ys r (fun z hz=>hx z (Zk _ hz)) t t' (xA.mp px).2 (xA.mp py).2]
theorem zcH (I:Inv X pins σ H s):∀ (x y:W) (v:V),wO X.K H x v->wO X.K H y v->kR x=true->kR y=true->x=y:=by
 intro x
 induction x using W.ind with
 |tup xs ih =>
  intro y v h h' hx hy;obtain ⟨a,vs,e,q,r⟩:=h;subst e
  cases y with
  |tup ys =>
   obtain ⟨b,us,e',q',r'⟩:=h';cases e';have:=I.tuple_inj q q';subst this;rw[cT I xs ys vs ih r r' hx hy]
  |ref _=>cases hy
  |ty _=>cases hy
  |lsf _=>cases hy
  |exc _ _ _=>cases hy
  |dcf _ _=>cases hy
  |non=>cases h'
  |bl _=>cases h'
  |int _=>cases h'
  |str _=>cases h'
 |ty _=>intro y v _ _ hx;cases hx
 |lsf _=>intro y v _ _ hx;cases hx
 |exc _ _ _=>intro y v _ _ hx;cases hx
 |dcf _ _=>intro y v _ _ hx;cases hx
 |ref _=>intro y v _ _ hx;cases hx
 |non =>
  intro y v h h' _ hy;cases h
  cases y with
  |tup ys=>obtain ⟨_,_,e,_⟩:=h';cases e
  |ref _=>cases hy
  |ty _=>cases hy
  |lsf _=>cases hy
  |exc _ _ _=>cases hy
  |dcf _ _=>cases hy
  |non=>rfl
  |bl _=>cases h'
  |int _=>cases h'
  |str _=>cases h'
 |bl _ =>
  intro y v h h' _ hy;cases h
  cases y with
  |tup ys=>obtain ⟨_,_,e,_⟩:=h';cases e
  |ref _=>cases hy
  |ty _=>cases hy
  |lsf _=>cases hy
  |exc _ _ _=>cases hy
  |dcf _ _=>cases hy
  |non=>cases h'
  |bl _=>cases h';rfl
  |int _=>cases h'
  |str _=>cases h'
 |int _ =>
  intro y v h h' _ hy;cases h
  cases y with
  |tup ys=>obtain ⟨_,_,e,_⟩:=h';cases e
  |ref _=>cases hy
  |ty _=>cases hy
  |lsf _=>cases hy
  |exc _ _ _=>cases hy
  |dcf _ _=>cases hy
  |non=>cases h'
  |bl _=>cases h'
  |int _=>cases h';rfl
  |str _=>cases h'
 |str _ =>
  intro y v h h' _ hy;cases h
  cases y with
  |tup ys=>obtain ⟨_,_,e,_⟩:=h';cases e
  |ref _=>cases hy
  |ty _=>cases hy
  |lsf _=>cases hy
  |exc _ _ _=>cases hy
  |dcf _ _=>cases hy
  |non=>cases h'
  |bl _=>cases h'
  |int _=>cases h'
  |str _=>cases h';rfl
theorem zez (I:Inv X pins σ H s) {xs ys:List W} {vs:List V} (h:zG X.K H xs vs) (h':zG X.K H ys vs) (hx:xF xs=true) (hy:xF ys=true):xs=ys :=
 cT I xs ys vs (fun x _=>zcH I x) h h' hx hy
def tU (xs ys:List W) (j:Nat):Bool:=match xs[j]?,ys[j]? with
 |some x,some y=>jB x y
 |_,_=>false
theorem sA:∀ xs ys:List W,((List.range (min xs.length ys.length)).all (tU xs ys)&&xs.length==ys.length)=jU xs ys
 | [],[]=>rfl
 | [],_::_=>by simp[jU]
 |_::_,[]=>by simp[jU]
 |x::xs,y::ys=>by
  have ih:=sA xs ys;simp only[Zf,Nat.add_min_add_right,jU];rw[List.range_succ_eq_map,Zax,List.all_map];have h0:tU (x::xs) (y::ys) 0=jB x y:=rfl;have h1:(tU (x::xs) (y::ys) ∘ Nat.succ)=tU xs ys:=by funext j;simp[tU]
  rw[h0,h1,← ih,Bool.and_assoc];congr 2;simp
theorem zfq {xs ys:List W} (h:xs.length≠ys.length):jU xs ys=false:=by
 rw[← sA];have:(xs.length==ys.length)=false:=by simpa using h
 rw[this,Z4]
theorem zdx {xs ys:List W} (h:xs.length=ys.length):(List.range xs.length).all (tU xs ys)=jU xs ys:=by
 rw[← sA,h,Nat.min_self];simp
theorem wH (I:Inv X pins σ H s) {ws:List W} {v:V} {u:Value} (h:wO X.K H (.tup ws) v) (r:yY v u):∃ a vs its,v=.ref a/\u=.ref a/\sP X.K H a vs/\zG X.K H ws vs/\zF vs its/\s.heap.IsTuple a its.toArray/\ws.length<=sizeLine:=by
 obtain ⟨a,vs,rfl,q,rs⟩:=h;obtain ⟨its,vr,it,hl⟩:=I.tuple q;exact ⟨a,vs,its,rfl,r,q,rs,vr,it,by rw[← rs.length];exact hl⟩
theorem zbt (I:Inv X pins σ H s):∀ (xs ys:List W) (vs vs':List V) (us us':List Value) (A:Around),(∀ x∈xs,∀ (y:W) (v v':V) (u u':Value) (A:Around),wO X.K H x v->yY v u->wO X.K H y v'->yY v' u'->kR x=true->kR y=true->A.units+min (uD x) (uD y)<cLine->EqAt A s u u' (jB x y)) ->
  zG X.K H xs vs->zF vs us->zG X.K H ys vs'->zF vs' us'->xF xs=true->xF ys=true ->
  A.units+min (jQ xs) (jQ ys)<cLine->∀ (j:Nat) (h1:j<us.length) (h2:j<us'.length),EqAt A s us[j] us'[j] (tU xs ys j):=by
 intro xs
 induction xs with
 |nil=>intro ys vs vs' us us' A _ h r _ _ _ _ _ j h1;rw[show _=[] from h] at r;cases r;exact absurd h1 (Zcq _)
 |cons x xs ih =>
  intro ys vs vs' us us' A he h r h' r' hx hy hu j h1 h2
  cases ys with
  |nil=>rw[show _=[] from h'] at r';cases r';exact absurd h2 (Zcq _)
  |cons y ys =>
   obtain ⟨v,t,e,h,hs⟩:=h;obtain ⟨v',t',e',h',hs'⟩:=h';subst e;subst e'
   cases r with
   |cons r rs =>
    cases r' with
    |cons r' rs' =>
     have px:=xA.mp hx;have py:=xA.mp hy;simp only[jQ] at hu
     cases j with
     |zero=>exact he x zzT y _ _ _ _ A h r h' r' px.1 py.1 (by omega)
     |succ j=>exact ih ys _ _ _ _ A (fun z hz=>he z (Zk _ hz)) hs rs hs' rs' px.2 py.2 (by omega) j (Nat.lt_of_succ_lt_succ h1) (Nat.lt_of_succ_lt_succ h2)
theorem zgn (I:Inv X pins σ H s):∀ (x y:W) (v v':V) (u u':Value) (A:Around),wO X.K H x v->yY v u->wO X.K H y v'->yY v' u'->kR x=true->kR y=true->A.units+min (uD x) (uD y)<cLine->EqAt A s u u' (jB x y):=by
 intro x
 induction x using W.ind with
 |tup xs ih =>
  intro y v v' u u' A h r h' r' hx hy hu;obtain ⟨a,vs,its,rfl,rfl,q,rs,vr,it,_⟩:=wH I h r
  cases y with
  |tup ys =>
   obtain ⟨b,us,its',rfl,rfl,q',rs',vr',it',_⟩:=wH I h' r'
   by_cases e:a=b
   .subst e;have:=I.tuple_inj q q';subst this;have:=zez I rs rs' hx hy;subst this;rw[show jB (.tup xs) (.tup xs)=true from zfr (w:=.tup xs) hx];exact EqAt.same _
   .show EqAt A s _ _ (jU xs ys);rw[← sA];have l1:its.toArray.size=xs.length:=by rw[zzS,← vr.length,rs.length]
    have l2:its'.toArray.size=ys.length:=by rw[zzS,← vr'.length,rs'.length]
    rw[← l1,← l2];refine EqAt.of_refs e (RcAt.tuples it it' (by simp only[uD] at hu;omega) fun j j1 j2=>?_);exact zbt I xs ys _ _ _ _ A.in1 ih rs vr rs' vr' hx hy (by simp only[uD] at hu;show A.units+1+_<_;omega) j (by simpa using j1) (by simpa using j2)
  |ref _=>cases hy
  |ty _=>cases hy
  |lsf _=>cases hy
  |exc _ _ _=>cases hy
  |dcf _ _=>cases hy
  |non=>cases h';cases r';exact EqAt.tuple_none it (by omega)
  |bl _=>cases h';cases r';exact EqAt.tuple_bool _ it (by omega)
  |int _=>cases h';obtain ⟨t,rfl⟩:=r';exact EqAt.tuple_int _ _ it (by omega)
  |str _=>cases h';obtain ⟨t,rfl⟩:=r';exact EqAt.tuple_str _ _ it (by omega)
 |ty _=>intro y v v' u u' A _ _ _ _ hx;cases hx
 |lsf _=>intro y v v' u u' A _ _ _ _ hx;cases hx
 |exc _ _ _=>intro y v v' u u' A _ _ _ _ hx;cases hx
 |dcf _ _=>intro y v v' u u' A _ _ _ _ hx;cases hx
 |ref _=>intro y v v' u u' A _ _ _ _ hx;cases hx
 |non =>
  intro y v v' u u' A h r h' r' hx hy hu;cases h;cases r
  cases y with
  |tup ys=>obtain ⟨b,us,its',rfl,rfl,q',rs',vr',it',_⟩:=wH I h' r';exact EqAt.none_tuple it' (by omega)
  |ref _=>cases hy
  |ty _=>cases hy
  |lsf _=>cases hy
  |exc _ _ _=>cases hy
  |dcf _ _=>cases hy
  |non=>cases h';cases r';exact EqAt.same _
  |bl _=>cases h';cases r';exact EqAt.none_bool _
  |int _=>cases h';obtain ⟨t,rfl⟩:=r';exact EqAt.none_int _ _
  |str _=>cases h';obtain ⟨t,rfl⟩:=r';exact EqAt.none_str _ _
 |bl _ =>
  intro y v v' u u' A h r h' r' hx hy hu;cases h;cases r
  cases y with
  |tup ys=>obtain ⟨b,us,its',rfl,rfl,q',rs',vr',it',_⟩:=wH I h' r';exact EqAt.bool_tuple _ it' (by omega)
  |ref _=>cases hy
  |ty _=>cases hy
  |lsf _=>cases hy
  |exc _ _ _=>cases hy
  |dcf _ _=>cases hy
  |non=>cases h';cases r';exact EqAt.bool_none _
  |bl _=>cases h';cases r';exact EqAt.bool_bool _ _
  |int _=>cases h';obtain ⟨t,rfl⟩:=r';exact EqAt.bool_int _ _ _
  |str _=>cases h';obtain ⟨t,rfl⟩:=r';exact EqAt.bool_str _ _ _
 |int _ =>
  intro y v v' u u' A h r h' r' hx hy hu;cases h;obtain ⟨t0,rfl⟩:=r
  cases y with
  |tup ys=>obtain ⟨b,us,its',rfl,rfl,q',rs',vr',it',_⟩:=wH I h' r';exact EqAt.int_tuple _ _ it' (by omega)
  |ref _=>cases hy
  |ty _=>cases hy
  |lsf _=>cases hy
  |exc _ _ _=>cases hy
  |dcf _ _=>cases hy
  |non=>cases h';cases r';exact EqAt.int_none _ _
  |bl _=>cases h';cases r';exact EqAt.int_bool _ _ _
  |int _=>cases h';obtain ⟨t,rfl⟩:=r';exact EqAt.int_int _ _ _ _
  |str _=>cases h';obtain ⟨t,rfl⟩:=r';exact EqAt.int_str _ _ _ _
 |str _ =>
  intro y v v' u u' A h r h' r' hx hy hu;cases h;obtain ⟨t0,rfl⟩:=r
  cases y with
  |tup ys=>obtain ⟨b,us,its',rfl,rfl,q',rs',vr',it',_⟩:=wH I h' r';exact EqAt.str_tuple _ _ it' (by omega)
  |ref _=>cases hy
  |ty _=>cases hy
  |lsf _=>cases hy
  |exc _ _ _=>cases hy
  |dcf _ _=>cases hy
  |non=>cases h';cases r';exact EqAt.str_none _ _
  |bl _=>cases h';cases r';exact EqAt.str_bool _ _ _
  |int _=>cases h';obtain ⟨t,rfl⟩:=r';exact EqAt.str_int _ _ _ _
  |str _=>cases h';obtain ⟨t,rfl⟩:=r';exact EqAt.str_str _ _ _ _
theorem zdB (I:Inv X pins σ H s) {xs ys:List W} {vs vs':List V} {us us':List Value} {A:Around} (h:zG X.K H xs vs) (r:zF vs us) (h':zG X.K H ys vs') (r':zF vs' us') (hx:xF xs=true) (hy:xF ys=true)
  (hu:A.units+min (jQ xs) (jQ ys)<cLine):∀ (j:Nat) (h1:j<us.length) (h2:j<us'.length),EqAt A s us[j] us'[j] (tU xs ys j) :=
 zbt I xs ys _ _ _ _ A (fun x _=>zgn I x) h r h' r' hx hy hu
end
section
variable {X:Cx} {pins:List (Addr×Obj)} {σ:L2.St} {H:Hp} {s:Shared}
theorem zi7 (I:Inv X pins σ H s) (x y:W) (v v':V) (u u':Value) (A:Around) (h:wO X.K H x v) (r:yY v u) (h':wO X.K H y v') (r':yY v' u') (hx:kR x=true) (hy:kR y=true) (hu:A.units+min (uD x) (uD y)<cLine):RcAt A s u u' (jB x y)/\RcNeAt A s u u' (!jB x y):=by
 have h0:A.units<cLine:=by omega
 cases x with
 |ref _=>cases hx
 |ty _=>cases hx
 |lsf _=>cases hx
 |exc _ _ _=>cases hx
 |dcf _ _=>cases hx
 |tup xs =>
  obtain ⟨a,vs,its,rfl,rfl,q,rs,vr,it,_⟩:=wH I h r
  cases y with
  |ref _=>cases hy
  |ty _=>cases hy
  |lsf _=>cases hy
  |exc _ _ _=>cases hy
  |dcf _ _=>cases hy
  |tup ys =>
   obtain ⟨b,us,its',rfl,rfl,q',rs',vr',it',_⟩:=wH I h' r';have l1:its.toArray.size=xs.length:=by rw[zzS,← vr.length,rs.length]
   have l2:its'.toArray.size=ys.length:=by rw[zzS,← vr'.length,rs'.length]
   have key:∀ (j:Nat) (j1:j<its.toArray.size) (j2:j<its'.toArray.size),EqAt A.in1 s its.toArray[j] its'.toArray[j] (tU xs ys j):=fun j j1 j2 =>
    zdB I rs vr rs' vr' hx hy (A:=A.in1) (by simp only[uD] at hu;show A.units+1+_<_;omega) j (by simpa using j1) (by simpa using j2)
   show RcAt A s _ _ (jU xs ys)/\RcNeAt A s _ _ (!jU xs ys);rw[← sA,← l1,← l2];exact ⟨RcAt.tuples it it' h0 key,RcNeAt.tuples it it' h0 key⟩
  |non=>cases h';cases r';exact ⟨RcAt.tuple_none it h0,RcNeAt.tuple_none it h0⟩
  |bl _=>cases h';cases r';exact ⟨RcAt.tuple_bool _ it h0,RcNeAt.tuple_bool _ it h0⟩
  |int _=>cases h';obtain ⟨t,rfl⟩:=r';exact ⟨RcAt.tuple_int _ _ it h0,RcNeAt.tuple_int _ _ it h0⟩
  |str _=>cases h';obtain ⟨t,rfl⟩:=r';exact ⟨RcAt.tuple_str _ _ it h0,RcNeAt.tuple_str _ _ it h0⟩
 |non =>
  cases h;cases r
  cases y with
  |ref _=>cases hy
  |ty _=>cases hy
  |lsf _=>cases hy
  |exc _ _ _=>cases hy
  |dcf _ _=>cases hy
  |tup ys=>obtain ⟨b,us,its',rfl,rfl,q',rs',vr',it',_⟩:=wH I h' r';exact ⟨RcAt.none_tuple it' h0,RcNeAt.none_tuple it' h0⟩
  |non=>cases h';cases r';exact ⟨RcAt.none_none,RcNeAt.none_none⟩
  |bl _=>cases h';cases r';exact ⟨RcAt.none_bool _,RcNeAt.none_bool _⟩
  |int _=>cases h';obtain ⟨t,rfl⟩:=r';exact ⟨RcAt.none_int _ _,RcNeAt.none_int _ _⟩
  |str _=>cases h';obtain ⟨t,rfl⟩:=r';exact ⟨RcAt.none_str _ _,RcNeAt.none_str _ _⟩
 |bl _ =>
  cases h;cases r
  cases y with
  |ref _=>cases hy
  |ty _=>cases hy
  |lsf _=>cases hy
  |exc _ _ _=>cases hy
  |dcf _ _=>cases hy
  |tup ys=>obtain ⟨b,us,its',rfl,rfl,q',rs',vr',it',_⟩:=wH I h' r';exact ⟨RcAt.bool_tuple _ it' h0,RcNeAt.bool_tuple _ it' h0⟩
  |non=>cases h';cases r';exact ⟨RcAt.bool_none _,RcNeAt.bool_none _⟩
  |bl _=>cases h';cases r';exact ⟨RcAt.bool_bool _ _,RcNeAt.bool_bool _ _⟩
  |int _=>cases h';obtain ⟨t,rfl⟩:=r';exact ⟨RcAt.bool_int _ _ _,RcNeAt.bool_int _ _ _⟩
  |str _=>cases h';obtain ⟨t,rfl⟩:=r';exact ⟨RcAt.bool_str _ _ _,RcNeAt.bool_str _ _ _⟩
 |int _ =>
  cases h;obtain ⟨t0,rfl⟩:=r
  cases y with
  |ref _=>cases hy
  |ty _=>cases hy
  |lsf _=>cases hy
  |exc _ _ _=>cases hy
  |dcf _ _=>cases hy
  |tup ys=>obtain ⟨b,us,its',rfl,rfl,q',rs',vr',it',_⟩:=wH I h' r';exact ⟨RcAt.int_tuple _ _ it' h0,RcNeAt.int_tuple _ _ it' h0⟩
  |non=>cases h';cases r';exact ⟨RcAt.int_none _ _,RcNeAt.int_none _ _⟩
  |bl _=>cases h';cases r';exact ⟨RcAt.int_bool _ _ _,RcNeAt.int_bool _ _ _⟩
  |int _=>cases h';obtain ⟨t,rfl⟩:=r';exact ⟨RcAt.int_int _ _ _ _,RcNeAt.int_int _ _ _ _⟩
  |str _=>cases h';obtain ⟨t,rfl⟩:=r';exact ⟨RcAt.int_str _ _ _ _,RcNeAt.int_str _ _ _ _⟩
 |str _ =>
  cases h;obtain ⟨t0,rfl⟩:=r
  cases y with
  |ref _=>cases hy
  |ty _=>cases hy
  |lsf _=>cases hy
  |exc _ _ _=>cases hy
  |dcf _ _=>cases hy
  |tup ys=>obtain ⟨b,us,its',rfl,rfl,q',rs',vr',it',_⟩:=wH I h' r';exact ⟨RcAt.str_tuple _ _ it' h0,RcNeAt.str_tuple _ _ it' h0⟩
  |non=>cases h';cases r';exact ⟨RcAt.str_none _ _,RcNeAt.str_none _ _⟩
  |bl _=>cases h';cases r';exact ⟨RcAt.str_bool _ _ _,RcNeAt.str_bool _ _ _⟩
  |int _=>cases h';obtain ⟨t,rfl⟩:=r';exact ⟨RcAt.str_int _ _ _ _,RcNeAt.str_int _ _ _ _⟩
  |str _=>cases h';obtain ⟨t,rfl⟩:=r';exact ⟨RcAt.str_str _ _ _ _,RcNeAt.str_str _ _ _ _⟩
theorem gE (I:Inv X pins σ H s) {G:Hw} {p:Addr} {ws:List W} (ab:xR X.K H G) (e:yU G p=some ws):∃ vs its,rW X.K H p vs/\zG X.K H ws vs/\zF vs its/\s.heap.IsList p its.toArray/\PlainL s.heap p its.toArray/\ws.length<=sizeLine:=by
 obtain ⟨vs,q,r⟩:=ab.seq e;obtain ⟨its,vr,pl,hl⟩:=I.list q;exact ⟨vs,its,q,r,vr,(let ⟨o,n,h1,h2,_,h3⟩:=pl;⟨o,h1,h2,n,h3⟩),pl,by rw[← r.length];exact hl⟩
theorem zi8 (I:Inv X pins σ H s) {G:Hw} {p q:Addr} {xs ys:List W} {A:Around} (ab:xR X.K H G) (e:yU G p=some xs) (e':yU G q=some ys) (hx:xF xs=true) (hy:xF ys=true) (hu:A.units+1+min (jQ xs) (jQ ys)<cLine) :
  RcAt A s (.ref p) (.ref q) (jU xs ys)/\RcNeAt A s (.ref p) (.ref q) (!jU xs ys):=by
 obtain ⟨vs,its,_,rs,vr,il,_⟩:=gE I ab e;obtain ⟨us,its',_,rs',vr',il',_⟩:=gE I ab e';have h0:A.units<cLine:=by omega
 have l1:its.toArray.size=xs.length:=by rw[zzS,← vr.length,rs.length]
 have l2:its'.toArray.size=ys.length:=by rw[zzS,← vr'.length,rs'.length]
 have key:∀ (j:Nat) (j1:j<its.toArray.size) (j2:j<its'.toArray.size),EqAt A.in1 s its.toArray[j] its'.toArray[j] (tU xs ys j):=fun j j1 j2 =>
  zdB I rs vr rs' vr' hx hy (A:=A.in1) hu j (by simpa using j1) (by simpa using j2)
 by_cases hl:xs.length=ys.length
 .rw[← zdx hl,← l1];exact ⟨RcAt.lists il il' (by omega) h0 key,RcNeAt.lists il il' (by omega) h0 key⟩
 .rw[zfq hl];have:(its.toArray.size != its'.toArray.size)=true:=by simp only[bne_iff_ne];omega
  exact ⟨RcAt.lists_lengths il il' this h0,RcNeAt.lists_lengths il il' this h0⟩
end
end L3
namespace PySem
open Sem (wp)
open Builtin
theorem dE:fillsNumberSlot (.type "tuple") "mul" = pure false :=
 fillsNumberSlot_seq (id := "tuple.__mul__") (r:=some (.builtin "tuple.__rmul__")) Zby.lookup (by decide +kernel) F.slot_tuple_rmul.lookup (by decide +kernel)
theorem dF:seqRepeat? (.type "tuple")=pure (some (.builtin "tuple.__mul__")):=by
 unfold seqRepeat?;rw[seqSlot_of (T := "tuple") (name := "__mul__") (id := "tuple.__mul__") Zby.lookup (by decide +kernel),seqSlot_of (T := "tuple") (name := "__rmul__") (id := "tuple.__rmul__") F.slot_tuple_rmul.lookup (by decide +kernel)];rfl
theorem zcl (a:Int) (t:Tok) (l:Addr) (items:Array Value) (n:Nat) (dd:Option Addr) (sl:Array (Option Value)) :
  Meets (Builtin.«int.__rmul__» ⟨[.int a t,.ref l],[]⟩) (fun _ R s=>s.heap.get? l=some { cls:=.type "tuple", dict:=dd,data:=.seq items n,slots:=sl }/\R (.ok (.ret Value.notImplemented)) s) :=
 .of_wp fun prog w A R s h=>by obtain ⟨hp,g,d,tk,os⟩:=s;obtain ⟨hl,h⟩:=h;wp_walk;exact ⟨_,rfl,h⟩
theorem ziu (l:Addr) (items:Array Value) (n:Nat) (u:Tok) (dd:Option Addr) (sl:Array (Option Value)) :
  Meets (Builtin.«tuple.__mul__» ⟨[.ref l,.int 1 u],[]⟩) (fun _ R s=>s.heap.get? l=some { cls:=.type "tuple", dict:=dd,data:=.seq items n,slots:=sl }/\R (.ok (.ret (Value.ref l))) s) :=
 .of_wp fun prog w A R s h=>by obtain ⟨hp,g,d,tk,os⟩:=s;obtain ⟨hl,h⟩:=h;wp_walk;exact ⟨_,rfl,h⟩
theorem zgF (l:Addr) (items:Array Value) (n:Nat) (u:Tok) (dd:Option Addr) (sl:Array (Option Value)) (hi:items.isEmpty=false) :
  Meets (Builtin.«tuple.__mul__» ⟨[.ref l,.int 0 u],[]⟩) (fun _ R s=>s.heap.get? l=some { cls:=.type "tuple", dict:=dd,data:=.seq items n,slots:=sl }/\R (.ok (.ret (Value.ref s.heap.objs.size))) { s with heap:=s.heap.push { cls:=.type "tuple", data:=.seq #[] } }) :=
 .of_wp fun prog w A R s h=>by obtain ⟨hp,g,d,tk,os⟩:=s;obtain ⟨hl,h⟩:=h;wp_walk;exact ⟨_,rfl,h⟩
end PySem
namespace L3
open PySem PySem.Spec PyProof.Rows L2
section
variable {X:Cx}
def rRepT (K:yS):R2:=fun x y H Q=>∃ a k xs,x=.ref a/\y=.int k/\sP K H a xs/\((k=1/\Q (.ref a) H)\/(k=0/\xs≠[]/\∀ p,H p=none->Q (.ref p) (xP H p (.tup []))))
theorem zhg:uM X (binaryOp .Mult) (rRepT X.K):=by
 intro pins s σ H x y v u Q I rx ry h;obtain ⟨a,k,xs,rfl,rfl,ha,h⟩:=h;cases rx;obtain ⟨t,rfl⟩:=ry;obtain ⟨its,r1,p1,_⟩:=I.tuple ha;obtain ⟨⟨cls,dd,data,sl⟩,ho,hc,n,hd⟩:=id p1;simp only at hc hd;subst hc hd;rcases h with ⟨rfl,q⟩|⟨rfl,hx,q⟩
 .exact Za9 (T := "tuple") (U := "int") (by decide) ⟨_,ho,rfl⟩ (fun s'=>ZbF s' 1 t) dE Zcj ZaZ dF Zca.lookup
   (Zav ZaZ (ZbF s 1 t) Zb9 (Zb2 _ _) (zcl 1 t a its.toArray n dd sl)
    ⟨ho,rfl,⟨_,ho,rfl⟩,Zav Zby ⟨_,ho,rfl⟩ F.entry_tuple_mul (F.args_tuple_mul_2 _ _) (ziu a its.toArray n t dd sl) ⟨ho,.ref a,H,I,rfl,q⟩⟩)
 .have he:its.toArray.isEmpty=false:=by
   cases its with
   |nil=>exact absurd (r1.nil_iff.mp rfl) hx
   |cons _ _=>rfl
  refine Za9 (T := "tuple") (U := "int") (by decide) ⟨_,ho,rfl⟩ (fun s'=>ZbF s' 0 t) dE Zcj ZaZ dF Zca.lookup
   (Zav ZaZ (ZbF s 0 t) Zb9 (Zb2 _ _) (zcl 0 t a its.toArray n dd sl)
    ⟨ho,rfl,⟨_,ho,rfl⟩,Zav Zby ⟨_,ho,rfl⟩ F.entry_tuple_mul (F.args_tuple_mul_2 _ _) (zgF a its.toArray n t dd sl he) ⟨ho,?_⟩⟩)
  refine ⟨.ref s.heap.objs.size,_,I.laid (t':=s.toks) (o:=.tup []) (fun b ob q=>Zb _ q) (zzR _) ?_,rfl,q _ (I.hok.fresh (zzR _))⟩;exact ⟨Zan _,[],.nil,Zcl _ _⟩
def rRepS:R2:=fun x y H Q=>∃ i k,x=.str i/\y=.int k/\((k=1/\Q (.str i) H)\/(k=0/\Q (.str Str.empty) H))
theorem zhh:uM X (binaryOp .Mult) rRepS:=by
 intro pins s σ H x y v u Q I rx ry h;obtain ⟨i,k,rfl,rfl,h⟩:=h;obtain ⟨t,rfl⟩:=rx;obtain ⟨t2,rfl⟩:=ry;rcases h with ⟨rfl,q⟩|⟨rfl,q⟩
 .refine PySem.P.mul_str (by decide) (fun _ z=>absurd z (by simp)) (fun _ z=>absurd z (by simp)) ?_;rw[if_neg (by decide),if_pos (by simp)];exact ⟨.str i,H,I,⟨t,rfl⟩,q⟩
 .exact PySem.P.mul_str_none (by decide) (by decide) ⟨.str Str.empty,H,I.tok _ (ZaK I.tk),⟨_,rfl⟩,q⟩
end
end L3
namespace L3
open PySem PySem.Spec PyProof.Rows L2 PySem.SeqAt
abbrev R3:=W->W->Hw->Q3->Prop
def jE (K:yS) (H:Hp) (Q:VK):Q3:=fun w G'=>∀ v H',yO K H H'->wO K H' w v->xR K H' G'->Q v H'
theorem jE.mono {K:yS} {H H1:Hp} {Q:VK} (g:yO K H H1) {w:W} {G:Hw} (h:jE K H Q w G):jE K H1 Q w G:=fun v H' g'=>h v H' (g.trans g')
def pB (r:R3):Prop:=∀ x y G (Q Q':Q3),(∀ w G',Q w G'->Q' w G')->r x y G Q->r x y G Q'
def fA (K:yS) (r:R3):R2:=fun v u H Q=>∃ x y G,wO K H x v/\wO K H y u/\xR K H G/\r x y G (jE K H Q)
def wK:Operator->R3
 | .Add=>fun x y G Q=>match x,y with
  | .int i,.int j=>Q (.int (i+j)) G
  | .str a,.str b=>a.length+b.length<=sizeLine/\Q (.str (a++b)) G
  | .tup a,.tup b=>a.length+b.length<=sizeLine/\Q (.tup (a++b)) G
  | .ref p,.ref q=>(match G p,G q with
   |some (.lst xs),some (.lst ys)=>xs.length+ys.length<=sizeLine/\∀ r,G r=none->Q (.ref r) (put G r (.lst (xs++ys)))
   |_,_=>False)
  |_,_=>False
 | .Sub=>fun x y G Q=>match x,y with
  | .int i,.int j=>Q (.int (i-j)) G
  |_,_=>False
 | .Mult=>fun x y G Q=>match x,y with
  | .int i,.int j=>CMul i j/\Q (.int (i * j)) G
  | .tup xs,.int k=>(k=1/\Q (.tup xs) G)\/(k=0/\xs≠[]/\Q (.tup []) G)
  | .str a,.int k=>(k=1/\Q (.str a) G)\/(k=0/\Q (.str Str.empty) G)
  | .ref p,.int k=>(match G p with
   |some (.lst xs)=>(-(2 ^ 63)<=k/\k<2 ^ 63/\xs.length * k.toNat<=sizeLine)/\∀ r,G r=none->Q (.ref r) (put G r (.lst (List.replicate k.toNat xs).flatten))
   |_=>False)
  |_,_=>False
 | .Mod=>fun x y G Q=>match x,y with
  | .int i,.int j=>0<j/\Q (.int (i % j)) G
  |_,_=>False
 | .FloorDiv=>fun x y G Q=>match x,y with
  | .int i,.int j=>CDiv i j/\Q (.int (i / j)) G
  |_,_=>False
 | .Pow=>fun x y G Q=>match x,y with
  | .int i,.int j=>CPow i j/\Q (.int (i ^ j.toNat)) G
  |_,_=>False
 |_=>fun _ _ _ _=>False
theorem bJ:∀ op,pB (wK op):=by
 intro op x y G Q Q' k h
 cases op with
 |Add =>
  cases x with
  |int i=>cases y with
   |int j=>exact k _ _ h
   |_=>exact h.elim
  |str i=>cases y with
   |str j=>exact ⟨h.1,k _ _ h.2⟩
   |_=>exact h.elim
  |tup a=>cases y with
   |tup b=>exact ⟨h.1,k _ _ h.2⟩
   |_=>exact h.elim
  |ref p=>cases y with
   |ref q =>
    simp only[wK] at h ⊢
    split at h
    .exact ⟨h.1,fun r hr=>k _ _ (h.2 r hr)⟩
    .exact h.elim
   |_=>exact h.elim
  |_=>exact h.elim
 |Mult =>
  cases x with
  |int i=>cases y with
   |int j=>exact ⟨h.1,k _ _ h.2⟩
   |_=>exact h.elim
  |tup a=>cases y with
   |int j=>exact h.imp (fun z=>⟨z.1,k _ _ z.2⟩) fun z=>⟨z.1,z.2.1,k _ _ z.2.2⟩
   |_=>exact h.elim
  |str a=>cases y with
   |int j=>exact h.imp (fun z=>⟨z.1,k _ _ z.2⟩) fun z=>⟨z.1,k _ _ z.2⟩
   |_=>exact h.elim
  |ref p=>cases y with
   |int q =>
    simp only[wK] at h ⊢
    split at h
    .exact ⟨h.1,fun r hr=>k _ _ (h.2 r hr)⟩
    .exact h.elim
   |_=>exact h.elim
  |_=>exact h.elim
 |Sub =>
  cases x with
  |int i=>cases y with
   |int j=>exact k _ _ h
   |_=>exact h.elim
  |_=>exact h.elim
 |Mod =>
  cases x with
  |int i=>cases y with
   |int j=>exact ⟨h.1,k _ _ h.2⟩
   |_=>exact h.elim
  |_=>exact h.elim
 |FloorDiv =>
  cases x with
  |int i=>cases y with
   |int j=>exact ⟨h.1,k _ _ h.2⟩
   |_=>exact h.elim
  |_=>exact h.elim
 |Pow =>
  cases x with
  |int i=>cases y with
   |int j=>exact ⟨h.1,k _ _ h.2⟩
   |_=>exact h.elim
  |_=>exact h.elim
 |_=>exact h.elim
section
variable {X:Cx}
theorem zG.nil_iff {K:yS} {H:Hp} {ws:List W} {vs:List V} (h:zG K H ws vs):vs=[]↔ws=[]:=by
 have:=h.length
 constructor
 .intro e;subst e;exact List.eq_nil_of_length_eq_zero this.symm
 .intro e;subst e;exact List.eq_nil_of_length_eq_zero this
theorem zih {pins:List (Addr×Obj)} {s:Shared} {σ:L2.St} {H:Hp} {a b:Addr} {Q:Value->Shared->Prop} {E:Value->Shared->Prop} {ws:List Value} (ht:IsTup s.heap a #[]) (hb:IsTup s.heap b ws.toArray) (h:Q (.ref b) s) :
  wpAny 'a' X.A (binaryOp .Add (.ref a) (.ref b)) Q E s:=by
 obtain ⟨⟨cls,dd,data,sl⟩,ho,hc,n,hd⟩:=id ht;obtain ⟨⟨cls2,dd2,data2,sl2⟩,ho2,hc2,n2,hd2⟩:=id hb;simp only at hc hd hc2 hd2;subst hc hd hc2 hd2
 exact concat_meets ⟨_,ho,rfl⟩ ⟨_,ho2,rfl⟩ Zch ZcB Zbp Zbl (Zbf _ _)
  (tuple_addW0 a b #[] ws.toArray n n2 dd dd2 sl sl2 rfl) ⟨ho,ho2,h⟩
theorem jO {K:yS} {H:Hp} {G:Hw} {Q:VK} {ws:List W} {vs:List V} (ab:xR K H G) (r:zG K H ws vs) (h:∀ p,G p=none->jE K H Q (.ref p) (put G p (.lst ws))):∀ p,H p=none->Q (.ref p) (xP H p (.lst vs)):=fun p hp =>
 h p (ab.free hp) _ _ (xI hp) rfl (ab.new hp ⟨vs,rfl,r.mono (xI hp)⟩)
theorem vU {K:yS} {H:Hp} {G:Hw} {Q:VK} {ws:List W} {vs:List V} (ab:xR K H G) (r:zG K H ws vs) (h:jE K H Q (.tup ws) G):∀ p,H p=none->Q (.ref p) (xP H p (.tup vs)):=fun p hp =>
 h _ _ (xI hp) ⟨p,vs,rfl,.of yD,r.mono (xI hp)⟩ (ab.tup hp)
theorem zG.flat {K:yS} {H:Hp} {ws:List W} {vs:List V} (h:zG K H ws vs):∀ k:Nat,zG K H (List.replicate k ws).flatten (List.replicate k vs).flatten
 | 0=>rfl
 |k+1=>by rw[Zag,Zag,ZaH,ZaH];exact h.append (zG.flat h k)
theorem zkG (op:Operator):uM X (binaryOp op) (fA X.K (wK op)):=by
 intro pins s σ H v u a b Q I rv ru h;obtain ⟨x,y,G,rx,ry,ab,h⟩:=h
 cases op with
 |Add =>
  cases x with
  |int i =>
   cases y with
   |int j=>cases rx;cases ry;exact zjD pins s σ H _ _ _ _ Q I rv ru ⟨i,j,rfl,rfl,h _ _ .refl rfl ab⟩
   |_=>exact h.elim
  |str i =>
   cases y with
   |str j=>cases rx;cases ry;exact zbP pins s σ H _ _ _ _ Q I rv ru ⟨i,j,rfl,rfl,h.1,h.2 _ _ .refl rfl ab⟩
   |_=>exact h.elim
  |tup xs =>
   cases y with
   |tup ys =>
    obtain ⟨a1,vs,its,rfl,rfl,q,rs,vr,it,_⟩:=wH I rx rv;obtain ⟨b1,us,its',rfl,rfl,q',rs',vr',it',_⟩:=wH I ry ru
    by_cases e:xs=[]
    .subst e;have e1:vs=[]:=(rs.nil_iff).mpr rfl;subst e1;cases vr;exact zih (pins:=pins) (σ:=σ) (H:=H) it it' ⟨.ref b1,H,I,rfl,h.2 _ _ .refl ⟨b1,us,rfl,q',rs'⟩ ab⟩
    .refine zhj pins s σ H (.ref a1) (.ref b1) _ _ Q I rfl rfl ⟨a1,b1,vs,us,rfl,rfl,q,q',fun z=>e (rs.nil_iff.mp z),by rw[rs.length,rs'.length];exact h.1,fun z=>?_,fun _=>?_⟩
     .have:ys=[]:=rs'.nil_iff.mp z;subst this;exact h.2 _ _ .refl ⟨a1,vs,rfl,q,by rw[Zw];exact rs⟩ ab
     .exact vU ab (rs.append rs') h.2
   |_=>exact h.elim
  |ref p =>
   cases y with
   |ref q =>
    cases rx;cases ry;simp only[wK] at h
    split at h
    .rename_i xs ys e1 e2;obtain ⟨vs,q1,r1⟩:=ab.lst e1;obtain ⟨us,q2,r2⟩:=ab.lst e2;exact zjC pins s σ H _ _ _ _ Q I rv ru ⟨p,q,vs,us,rfl,rfl,q1,q2,by rw[r1.length,r2.length];exact h.1,jO ab (r1.append r2) h.2⟩
    .exact h.elim
   |_=>exact h.elim
  |_=>exact h.elim
 |Sub =>
  cases x with
  |int i =>
   cases y with
   |int j=>cases rx;cases ry;exact zjx pins s σ H _ _ _ _ Q I rv ru ⟨i,j,rfl,rfl,h _ _ .refl rfl ab⟩
   |_=>exact h.elim
  |_=>exact h.elim
 |Mult =>
  cases x with
  |int i =>
   cases y with
   |int j=>cases rx;cases ry;exact zjA pins s σ H _ _ _ _ Q I rv ru ⟨i,j,rfl,rfl,h.1,h.2 _ _ .refl rfl ab⟩
   |_=>exact h.elim
  |tup xs =>
   cases y with
   |int k =>
    obtain ⟨a1,vs,its,rfl,rfl,q,rs,vr,it,_⟩:=wH I rx rv;cases ry;refine zhg pins s σ H (.ref a1) (.int k) _ _ Q I rfl ru ⟨a1,k,vs,rfl,rfl,q,?_⟩;rcases h with ⟨e,h⟩|⟨e,hx,h⟩
    .exact .inl ⟨e,h _ _ .refl ⟨a1,vs,rfl,q,rs⟩ ab⟩
    .exact .inr ⟨e,fun z=>hx (rs.nil_iff.mp z),vU ab (ws:=[]) (vs:=[]) rfl h⟩
   |_=>exact h.elim
  |str i =>
   cases y with
   |int k =>
    cases rx;cases ry;exact zhh pins s σ H _ _ _ _ Q I rv ru ⟨i,k,rfl,rfl,h.imp (fun z=>⟨z.1,z.2 _ _ .refl rfl ab⟩) fun z=>⟨z.1,z.2 _ _ .refl rfl ab⟩⟩
   |_=>exact h.elim
  |ref p =>
   cases y with
   |int k =>
    cases rx;cases ry;simp only[wK] at h
    split at h
    .rename_i xs e1;obtain ⟨vs,q1,r1⟩:=ab.lst e1;exact zjy pins s σ H _ _ _ _ Q I rv ru ⟨p,k,vs,rfl,rfl,q1,h.1.1,h.1.2.1,by rw[r1.length];exact h.1.2.2,jO ab (r1.flat _) h.2⟩
    .exact h.elim
   |_=>exact h.elim
  |_=>exact h.elim
 |Mod =>
  cases x with
  |int i =>
   cases y with
   |int j=>cases rx;cases ry;exact zjB pins s σ H _ _ _ _ Q I rv ru ⟨i,j,rfl,rfl,h.1,h.2 _ _ .refl rfl ab⟩
   |_=>exact h.elim
  |_=>exact h.elim
 |FloorDiv =>
  cases x with
  |int i =>
   cases y with
   |int j=>cases rx;cases ry;exact zhi pins s σ H _ _ _ _ Q I rv ru ⟨i,j,rfl,rfl,h.1,h.2 _ _ .refl rfl ab⟩
   |_=>exact h.elim
  |_=>exact h.elim
 |Pow =>
  cases x with
  |int i =>
   cases y with
   |int j=>cases rx;cases ry;exact zjz pins s σ H _ _ _ _ Q I rv ru ⟨i,j,rfl,rfl,h.1,h.2 _ _ .refl rfl ab⟩
   |_=>exact h.elim
  |_=>exact h.elim
 |_=>exact h.elim
end
theorem fZ {k:Str}:∀ {es:List DictEntry} {ks:List Str} {vs:List V},zil es ks vs->(es.all fun e=>isExactStrKey e.key)=true/\(match (ks.zip vs).lookup k with
  |some v=>∃ u,(es.find? fun e=>e.key.isStr k).map (·.val)=some u/\yY v u
  |none=>(es.find? fun e=>e.key.isStr k).map (·.val)=none)
 | [],ks,vs,h=>by obtain ⟨rfl,rfl⟩:=h;exact ⟨rfl,rfl⟩
 |e::r,ks,vs,h=>by
  obtain ⟨x,t,v,ks',vs',rfl,rfl,hk,hv,hr⟩:=h;have ih:=fZ (k:=k) hr;refine ⟨by rw[Zax,hk,ih.1];rfl,?_⟩;rw[Zbk,ZK,ZZ,KTD.key_is hk k]
  by_cases hx:k=x
  .subst hx;simp only[beq_self_eq_true,decide_true];exact ⟨e.val,rfl,hv⟩
  .have e1:(k==x)=false:=by simpa using hx
   rw[e1,decide_eq_false hx];exact ih.2
theorem zgh {X:Cx} {pins:List (Addr×Obj)} {σ:L2.St} {H:Hp} {s:Shared} {a:Addr} {ks:List Str} {vs:List V} {k:Str} {tk:Tok} {A:Around} {Q:Option Value->Shared->Prop} {E:Value->Shared->Prop} (I:Inv X pins σ H s) (h:KD X.K a ks vs)
  (q:match (ks.zip vs).lookup k with|some v=>∀ u s',yY v u->Inv X pins σ H s'->Q (some u) s'|none=>∀ s',Inv X pins σ H s'->Q none s'):wpAny 'a' A (dictGet a (.str k tk)) Q E s:=by
 obtain ⟨o,es,ep,l,_,hd,_,_,hr⟩:=h;have ho:=I.kIn _ _ l;obtain ⟨hx,hf⟩:=fZ (k:=k) hr;have J:Inv X pins σ H { s with toks:=s.toks+1 }:=I.tok _;unfold dictGet
 try with_reducible refine ZR ?_
 refine Za (wpAny_pyHash_str (Za ?_));refine KTD.kt_dictFind_strs (s:={ s with toks:=s.toks+1 }) ho hd (by obtain ⟨es'⟩:=es;simpa using hx) ?_
 have key:Q (findBy (fun k v=>v.isStr k) es k) { s with toks:=s.toks+1 }:=by
  have e:findBy (fun k v=>v.isStr k) es k=(es.toList.find? fun e=>e.key.isStr k).map (·.val):=by obtain ⟨es'⟩:=es;simp[findBy]
  rw[e];revert q hf
  cases (ks.zip vs).lookup k with
  |some v=>intro q hf;obtain ⟨u,e1,r⟩:=hf;rw[e1];exact q u _ r J
  |none=>intro q hf;rw[hf];exact q _ J
 rw[findBy_of_findIdx?] at key;revert key
 cases es.findIdx? fun e=>e.key.isStr k with
 |none=>exact fun key=>Zc key
 |some i=>exact fun key=>Za (wpAny_dictEntries (s:={ s with toks:=s.toks+1 }) ho hd (Zc key))
theorem zj1 {X:Cx} {pins:List (Addr×Obj)} {σ:L2.St} {H:Hp} {s:Shared} {a:Addr} {ks:List Str} {vs:List V} (I:Inv X pins σ H s) (h:KD X.K a ks vs):s.TypeIs (.ref a) "dict" := by
 obtain ⟨o,es,ep,l,hc,_⟩:=h;exact ⟨o,I.kIn _ _ l,hc.1⟩
theorem uU {K:yS} {H:Hp} {k:Str} {w:W}:∀ {ks:List Str} {ws:List W} {vs:List V},zG K H ws vs->(ks.zip ws).lookup k=some w->∃ v,(ks.zip vs).lookup k=some v/\wO K H w v
 | [],ws,vs,_,e=>by simp at e
 |x::ks,[],vs,_,e=>by simp at e
 |x::ks,y::ws,vs,r,e=>by
  obtain ⟨v,vs',rfl,rv,rs⟩:=r;rw[Zbk,ZK] at e ⊢
  cases hx:(k==x) with
  |true=>rw[hx] at e;cases e;exact ⟨v,rfl,rv⟩
  |false=>rw[hx] at e;exact uU rs e
theorem pI {K:yS} {H:Hp} {k:Str}:∀ {ks:List Str} {ws:List W} {vs:List V},zG K H ws vs->(ks.zip ws).lookup k=none->(ks.zip vs).lookup k=none
 | [],ws,vs,_,e=>by simp
 |x::ks,[],vs,r,e=>by rw[show vs=[] from r];rfl
 |x::ks,y::ws,vs,r,e=>by
  obtain ⟨v,vs',rfl,rv,rs⟩:=r;rw[Zbk,ZK] at e ⊢
  cases hx:(k==x) with
  |true=>rw[hx] at e;cases e
  |false=>rw[hx] at e;exact pI rs e
theorem zgg {X:Cx} {pins:List (Addr×Obj)} {σ:L2.St} {H:Hp} {s:Shared} {a:Addr} {ks:List Str} {vs:List V} {k:Str} {tk:Tok} {A:Around} {Q:Bool->Shared->Prop} {E:Value->Shared->Prop} (I:Inv X pins σ H s) (h:KD X.K a ks vs)
  (q:∀ s',Inv X pins σ H s'->Q ((ks.zip vs).lookup k).isSome s'):wpAny 'a' A (contains (.ref a) (.str k tk)) Q E s:=by
 have hT:=zj1 I h;have hd:(a==sysModules)=false:=by obtain ⟨o,es,ep,l,_,_,_,z,_⟩:=h;exact z
 have nn:¬ ((some (Value.builtin "dict.__contains__")==some Value.none)=true):=by rw[beq_builtin_none];simp
 unfold contains;refine ZR (Za (Zak hT Za5.lookup ?_));dsimp only;rw[if_neg nn];refine Za (wpAny_callSpecialUnlessNone?_slot (name:=Str.ofString "__contains__") hT Za5 (ZM Za5 hT PySem.F.entry_dict_contains (show wpAny _ _ (dictGet a (.str k tk) >>= _) _ _ s from Za (zgh I h ?_)) (PySem.F.args_dict_contains_2 _ _)));revert q
 cases (ks.zip vs).lookup k with
 |some v=>exact fun q u s' r J=>Zc ⟨_,rfl,Z3 (q s' J)⟩
 |none=>exact fun q s' J=>Za (wpAny_pendingKey_other hd (Zc ⟨_,rfl,Z3 (q s' J)⟩))
def eqG (G:Hw):W->W->Option Bool
 | .ref p,.ref q=>match yU G p,yU G q with
  |some a,some b=>if (xF a&&xF b&&decide (min (jQ a) (jQ b)<=150))=true then some (jU a b) else none
  |_,_=>none
 |x,y=>if (kR x&&kR y&&decide (min (uD x) (uD y)<=150))=true then some (jB x y) else none
def inR (neg:Bool) (x:W) (ws:List W) (G:Hw) (Q:Q3):Prop:=(kR x=true/\xF ws=true/\min (jQ ws) (uD x)<=150)/\Q (.bl (if neg then !ws.any fun w=>jB w x else ws.any fun w=>jB w x)) G
def zfg (neg:Bool) (i j:Str):Bool:=if neg then !(!(Builtin.Str.occurrences j i 0 j.length 1).isEmpty) else !(Builtin.Str.occurrences j i 0 j.length 1).isEmpty
def vZ:W->Option yM
 | .int i=>some (.inl i)
 | .str x=>some (.inr x)
 |_=>none
def hasK {α:Type} (kvs:List (yM×α)) (k:yM):Bool:=kvs.any fun p=>decide (p.1=k)
def tB (neg:Bool):R3:=fun x y G Q=>match y with
 | .tup ws=>inR neg x ws G Q
 | .ref p=>(match G p with
  |some (.lst ws)=>inR neg x ws G Q
  |some (.fix ws)=>inR neg x ws G Q
  |some (.dic kvs)=>(match vZ x with|some k=>Q (.bl (if neg then !hasK kvs k else hasK kvs k)) G|none=>False)
  |_=>False)
 | .str j=>(match x with
  | .str i=>Q (.bl (zfg neg i j)) G
  |_=>False)
 | .dcf ks ws=>(match x with
  | .str k=>Q (.bl (if neg then !((ks.zip ws).lookup k).isSome else ((ks.zip ws).lookup k).isSome)) G
  |_=>False)
 |_=>False
def isR (neg:Bool):R3:=fun x y G Q=>match y with
 | .non=>Q (.bl (if neg then (match x with|.non=>false|_=>true) else (match x with|.non=>true|_=>false))) G
 | .bl b=>Q (.bl (if neg then (match x with|.bl c=>!(c==b)|_=>true) else (match x with|.bl c=>c==b|_=>false))) G
 |_=>False
def rJ (p:Int->Int->Bool) (q:Option (Str->Str->Bool):=none):R3:=fun x y G Q=>match x,y with
 | .int i,.int j=>Q (.bl (p i j)) G
 | .str i,.str j=>(match q with
  |some q=>Q (.bl (q i j)) G
  |none=>False)
 |_,_=>False
def ltS (x y:Str):Bool:=decide (x.cps.toList<y.cps.toList)
def leS (x y:Str):Bool:=!decide (y.cps.toList<x.cps.toList)
def leR:R3:=fun x y G Q=>match x,y with
 | .int i,.int j=>Q (.bl (decide (i<=j))) G
 | .str i,.str j=>Q (.bl (leS i j)) G
 |_,_=>False
def yI:CmpOp->R3
 | .Eq=>fun x y G Q=>match eqG G x y with|some b=>Q (.bl b) G|none=>False
 | .NotEq=>fun x y G Q=>match eqG G x y with|some b=>Q (.bl (!b)) G|none=>False
 | .Is=>isR false
 | .IsNot=>isR true
 | .In=>tB false
 | .NotIn=>tB true
 | .Lt=>rJ (fun i j=>decide (i<j)) (some ltS)
 | .LtE=>leR
 | .Gt=>rJ fun i j=>decide (j<i)
 | .GtE=>rJ fun i j=>decide (j<=i)
theorem rK (p:Int->Int->Bool) (q:Option (Str->Str->Bool)):pB (rJ p q):=by
 intro x y G Q Q' k h;cases q<;>cases x<;>cases y<;>simp only[rJ] at h ⊢<;>first|exact h.elim|exact k _ _ h
theorem ze4:pB leR:=by
 intro x y G Q Q' k h;cases x<;>cases y<;>simp only[leR] at h ⊢<;>first|exact h.elim|exact k _ _ h
theorem cN (neg:Bool):pB (tB neg):=by
 intro x y G Q Q' k h;unfold tB at h ⊢
 cases y with
 |tup ws=>exact ⟨h.1,k _ _ h.2⟩
 |ref p =>
  simp only at h ⊢
  split at h
  .exact ⟨h.1,k _ _ h.2⟩
  .exact ⟨h.1,k _ _ h.2⟩
  .split at h
   .exact k _ _ h
   .exact h.elim
  .exact h.elim
 |str j =>
  cases x with
  |str i=>exact k _ _ h
  |_=>exact h.elim
 |dcf ks ws =>
  cases x with
  |str i=>exact k _ _ h
  |_=>exact h.elim
 |_=>exact h.elim
theorem zbn (neg:Bool):pB (isR neg):=by
 intro x y G Q Q' k h;unfold isR at h ⊢
 cases y with
 |non=>exact k _ _ h
 |bl b=>exact k _ _ h
 |_=>exact h.elim
theorem wZ:∀ op,pB (yI op):=by
 intro op x y G Q Q' k h
 cases op with
 |Eq =>
  simp only[yI] at h ⊢
  split at h
  .exact k _ _ h
  .exact h.elim
 |NotEq =>
  simp only[yI] at h ⊢
  split at h
  .exact k _ _ h
  .exact h.elim
 |Is=>exact zbn false x y G Q Q' k h
 |IsNot=>exact zbn true x y G Q Q' k h
 |In=>exact cN false x y G Q Q' k h
 |NotIn=>exact cN true x y G Q Q' k h
 |Lt=>exact rK (fun i j=>decide (i<j)) (some ltS) x y G Q Q' k h
 |LtE=>exact ze4 x y G Q Q' k h
 |Gt=>exact rK (fun i j=>decide (j<i)) none x y G Q Q' k h
 |GtE=>exact rK (fun i j=>decide (j<=i)) none x y G Q Q' k h
section
variable {X:Cx} {pins:List (Addr×Obj)} {σ:L2.St} {H:Hp} {s:Shared}
open Classical in
def eqI (K:yS) (H:Hp) (x:W) (y:Value):Bool:=if ∃ w v,wO K H w v/\yY v y/\kR w=true/\jB w x=true then true else false
theorem zdy (I:Inv X pins σ H s) {x w:W} {v:V} {y:Value} (r:wO X.K H w v) (q:yY v y) (p:kR w=true):eqI X.K H x y=jB w x:=by
 unfold eqI
 cases e:jB w x with
 |true=>rw[if_pos ⟨w,v,r,q,p,e⟩]
 |false =>
  rw[if_neg];rintro ⟨w',v',r',q',p',e'⟩;have:=yY.inj q q';subst this;rw[zcH I w' w v r' r p' p,e] at e';cases e'
theorem zdA (I:Inv X pins σ H s) {x:W}:∀ {ws:List W} {vs:List V} {us:List Value},zG X.K H ws vs->zF vs us->xF ws=true->us.any (eqI X.K H x)=ws.any fun w=>jB w x:=by
 intro ws
 induction ws with
 |nil=>intro vs us h r _;rw[show _=[] from h] at r;cases r;rfl
 |cons w ws ih =>
  intro vs us h r p;obtain ⟨v,t,e,h,hs⟩:=h;subst e
  cases r with
  |cons r rs =>
   have p':=xA.mp p;rw[Zay,Zay,zdy I h r p'.1,ih hs rs p'.2]
theorem zdz (I:Inv X pins σ H s) {x:W} {vx:V} {ux:Value} {A:Around} (rx:wO X.K H x vx) (qx:yY vx ux) (px:kR x=true):∀ {ws:List W} {vs:List V} {us:List Value},zG X.K H ws vs->zF vs us->xF ws=true->A.units+min (jQ ws) (uD x)<cLine ->
  ∀ y∈us,EqAt A s y ux (eqI X.K H x y):=by
 intro ws
 induction ws with
 |nil=>intro vs us h r _ _ y hy;rw[show _=[] from h] at r;cases r;cases hy
 |cons w ws ih =>
  intro vs us h r p hu y hy;obtain ⟨v,t,e,h,hs⟩:=h;subst e;simp only[jQ] at hu
  cases r with
  |cons r rs =>
   have p':=xA.mp p;rcases Zp.mp hy with e|hy
   .subst e;rw[zdy I h r p'.1];exact zgn I w x v vx _ ux A h r rx qx p'.1 px (by omega)
   .exact ih hs rs p'.2 (by omega) y hy
theorem zaH {M:Model} {A:Around} {E:Value->Shared->Prop} {Q:Value->Shared->Prop} {v:Value} {b:Bool} (hb:∀ p,v≠.builtin p) (h:Q (.bool (v==.bool b)) s):wpAny M A (compareOp .Is v (.bool b)) Q E s:=by
 cases v<;>first|exact Zc h|exact absurd rfl (hb _)
theorem fU {M:Model} {A:Around} {E:Value->Shared->Prop} {Q:Value->Shared->Prop} {v:Value} {b:Bool} (hb:∀ p,v≠.builtin p) (h:Q (.bool (!(v==.bool b))) s):wpAny M A (compareOp .IsNot v (.bool b)) Q E s:=by
 cases v<;>first|exact Zc h|exact absurd rfl (hb _)
theorem zfX {v:V} {u:Value} (r:yY v u):∀ p,u≠.builtin p:=by
 cases v<;>first
  | (obtain ⟨t,e⟩:=r;subst e;intro p z;cases z)
  | (intro p z;subst z;cases r)
theorem zkj (neg:Bool):uM X (compareOp (if neg then .IsNot else .Is)) (fA X.K (isR neg)):=by
 intro pins s σ H v u a b Q I rv ru h;obtain ⟨x,y,G,rx,ry,ab,h⟩:=h;have fin:∀ k k':Bool,jE X.K H Q (.bl k) G->k=k'->EP X pins σ Q (.bool k') s:=fun k k' q e=>⟨.bl k',H,I,rfl,by rw[← e];exact q _ _ .refl rfl ab⟩
 cases y with
 |non =>
  cases ry;cases ru
  cases neg with
  |false =>
   refine is_none_gen (fin _ _ h ?_)
   cases x<;>first
    | (cases rx;cases rv;rfl)
    | (cases rx;obtain ⟨t,rfl⟩:=rv;rfl)
    | (obtain ⟨_,_,rfl,_⟩:=rx;cases rv;rfl)
  |true =>
   refine isnot_none_gen (fin _ _ h ?_)
   cases x<;>first
    | (cases rx;cases rv;rfl)
    | (cases rx;obtain ⟨t,rfl⟩:=rv;rfl)
    | (obtain ⟨_,_,rfl,_⟩:=rx;cases rv;rfl)
 |bl c =>
  cases ry;cases ru
  cases neg with
  |false =>
   refine zaH (zfX rv) (fin _ _ h ?_)
   cases x<;>first
    | (cases rx;cases rv;rfl)
    | (cases rx;cases rv;rename_i d;cases c<;>cases d<;>rfl)
    | (cases rx;obtain ⟨t,rfl⟩:=rv;rfl)
    | (obtain ⟨_,_,rfl,_⟩:=rx;cases rv;rfl)
  |true =>
   refine fU (zfX rv) (fin _ _ h ?_)
   cases x<;>first
    | (cases rx;cases rv;rfl)
    | (cases rx;cases rv;rename_i d;cases c<;>cases d<;>rfl)
    | (cases rx;obtain ⟨t,rfl⟩:=rv;rfl)
    | (obtain ⟨_,_,rfl,_⟩:=rx;cases rv;rfl)
 |_=>exact h.elim
theorem ze7 {K:yS} {H:Hp} {y:W} {v:V} {k:yM} (r:wO K H y v) (h:vZ y=some k):v=kV k:=by
 cases y<;>cases h<;>exact r
theorem zdl {K:yS} {H:Hp} {k:yM}:∀ {l:List (yM×W)} {l':List (yM×V)},yQ K H l l'->(vG l' k).isSome=hasK l k
 | [],_,h=>by rw[show _=[] from h];rfl
 |p::r,_,⟨v,t,e,h,hr⟩=>by
  have ih:=zdl (k:=k) hr;subst e;unfold vG hasK at ih ⊢;rw[ZZ,Zay]
  cases decide (p.1=k) with
  |true=>rfl
  |false=>exact ih
theorem nD (us:List Value) (e:Value->Bool):us.toArray.any e=us.any e:=by simp
theorem zf8 (neg:Bool) (hu:X.A.units+200<cLine):uM X (compareOp (if neg then .NotIn else .In)) (fA X.K (tB neg)):=by
 intro pins s σ H v u a b Q I rv ru h;obtain ⟨x,y,G,rx,ry,ab,h⟩:=h;have fin:∀ k:Bool,jE X.K H Q (.bl k) G->EP X pins σ Q (.bool k) s:=fun k q=>⟨.bl k,H,I,rfl,q _ _ .refl rfl ab⟩
 have sq:∀ (p:Addr) (ws:List W) (vs:List V) (its:List Value),zG X.K H ws vs->zF vs its->(s.heap.IsTuple p its.toArray\/s.heap.IsList p its.toArray)->inR neg x ws G (jE X.K H Q) ->
   wpAny 'a' X.A (compareOp (if neg then .NotIn else .In) a (.ref p)) (EP X pins σ Q) X.xe s:=fun p ws vs its rs vr ht hin=>by
  obtain ⟨⟨p1,p2,p3⟩,q⟩:=hin;have he:∀ y,y∈its.toArray->EqAt X.A.in1 s y a (eqI X.K H x y):=fun y hy=>zdz I rx rv p1 rs vr p2 (by show X.A.units+1+_<_;omega) y (by simpa using hy);have ea:=zdA I (x:=x) rs vr p2
  cases neg with
  |false =>
   rcases ht with ht|ht
   .exact in_tupleAt _ ht he (by rw[nD,ea];exact fin _ q)
   .exact in_listAt _ ht he (by rw[nD,ea];exact fin _ q)
  |true =>
   rcases ht with ht|ht
   .exact notIn_tupleAt _ ht he (by rw[nD,ea];exact fin _ q)
   .exact notIn_listAt _ ht he (by rw[nD,ea];exact fin _ q)
 cases y with
 |tup ws =>
  obtain ⟨b1,us,its',rfl,rfl,q',rs',vr',it',_⟩:=wH I ry ru;exact sq b1 ws us its' rs' vr' (.inl it') h
 |ref p =>
  cases ry;cases ru
  have lk:∀ ws,yU G p=some ws->inR neg x ws G (jE X.K H Q)->wpAny 'a' X.A (compareOp (if neg then .NotIn else .In) a (.ref p)) (EP X pins σ Q) X.xe s:=fun ws e q=>by
   obtain ⟨vs,its,_,rs,vr,il,_⟩:=gE I ab e;exact sq p ws vs its rs vr (.inr il) q
  simp only[tB] at h
  split at h
  .rename_i ws e;exact lk ws (by unfold yU;rw[e]) h
  .rename_i ws e;exact lk ws (by unfold yU;rw[e]) h
  .rename_i kvs e
   split at h
   .rename_i kk ek;obtain ⟨l,e1,rk⟩:=ab.dic e;have ev:=ze7 rx ek;subst ev;have hs:(vG l kk).isSome=hasK kvs kk:=zdl rk;have dg:DGet H p (kV kk) (vG l kk):=.inl ⟨l,kk,.inl e1,rfl,rfl⟩
    cases neg with
    |false=>exact d_in (by omega) I dg rv fun s' I'=>⟨.bl (vG l kk).isSome,H,I',rfl,by rw[hs];exact h _ H .refl rfl ab⟩
    |true=>exact zia (by omega) I dg rv fun s' I'=>⟨.bl (!(vG l kk).isSome),H,I',rfl,by rw[hs];exact h _ H .refl rfl ab⟩
   .exact h.elim
  .exact h.elim
 |str j =>
  cases x with
  |str i =>
   cases rx;cases ry
   cases neg with
   |false=>exact zcR pins s σ H _ _ _ _ Q I rv ru ⟨i,j,rfl,rfl,h _ _ .refl rfl ab⟩
   |true=>exact zae pins s σ H _ _ _ _ Q I rv ru ⟨i,j,rfl,rfl,h _ _ .refl rfl ab⟩
  |_=>exact h.elim
 |dcf ks ws =>
  cases x with
  |str k =>
   obtain ⟨a1,vs,rfl,kd,rs⟩:=ry;obtain rfl:b=Value.ref a1:=ru;cases rx;obtain ⟨tk,rfl⟩:=rv
   have hs:((ks.zip vs).lookup k).isSome=((ks.zip ws).lookup k).isSome:=by
    cases e:(ks.zip ws).lookup k with
    |none=>rw[pI rs e];rfl
    |some w=>obtain ⟨v,e',_⟩:=uU rs e;rw[e'];rfl
   cases neg with
   |false =>
    show wpAny _ _ (contains (.ref a1) (.str k tk) >>= fun z=>pure (Value.bool z)) _ _ _;exact Za (zgg I kd fun s' J=>Zc ⟨.bl _,H,J,rfl,by rw[hs];exact h _ _ .refl rfl ab⟩)
   |true =>
    show wpAny _ _ (contains (.ref a1) (.str k tk) >>= fun z=>pure (Value.bool (!z))) _ _ _;exact Za (zgg I kd fun s' J=>Zc ⟨.bl _,H,J,rfl,by rw[hs];exact h _ _ .refl rfl ab⟩)
  |_=>exact h.elim
 |_=>exact h.elim
theorem zcQ {op:CmpOp} {p:Int->Int->Bool} {f:Option (Str->Str->Bool)} (ho:uM X (compareOp op) (rI0 fun i j=>.bl (p i j)))
  (hq:∀ q,f=some q->∀ (i j:Str) (t t':Tok) (s:Shared) (Q:Value->Shared->Prop),Q (.bool (q i j)) s->wpAny 'a' X.A (compareOp op (.str i t) (.str j t')) Q X.xe s:=by (intro _ z;cases z)):uM X (compareOp op) (fA X.K (rJ p f)):=by
 intro pins s σ H v u a b Q I rv ru h;obtain ⟨x,y,G,rx,ry,ab,h⟩:=h
 cases x with
 |int i =>
  cases y with
  |int j=>cases rx;cases ry;exact ho pins s σ H _ _ _ _ Q I rv ru ⟨i,j,rfl,rfl,h _ _ .refl rfl ab⟩
  |_=>exact h.elim
 |str i =>
  cases y with
  |str j =>
   cases f with
   |none=>exact h.elim
   |some q =>
    cases rx;cases ry;obtain ⟨t,rfl⟩:=rv;obtain ⟨t',rfl⟩:=ru;exact hq q rfl i j t t' s _ ⟨.bl (q i j),H,I,rfl,h _ _ .refl rfl ab⟩
  |_=>exact h.elim
 |_=>exact h.elim
theorem le_ok:uM X (compareOp .LtE) (fA X.K leR):=by
 intro pins s σ H v u a b Q I rv ru h;obtain ⟨x,y,G,rx,ry,ab,h⟩:=h
 cases x with
 |int i =>
  cases y with
  |int j=>cases rx;cases ry;exact op_le pins s σ H _ _ _ _ Q I rv ru ⟨i,j,rfl,rfl,h _ _ .refl rfl ab⟩
  |_=>exact h.elim
 |str i =>
  cases y with
  |str j =>
   cases rx;cases ry;obtain ⟨t,rfl⟩:=rv;obtain ⟨t',rfl⟩:=ru;exact PySem.P.le_str ⟨.bl (leS i j),H,I,rfl,h _ _ .refl rfl ab⟩
  |_=>exact h.elim
 |_=>exact h.elim
theorem zgm (I:Inv X pins σ H s) (hu:X.A.units+200<cLine) {G:Hw} {x y:W} {v v':V} {u u':Value} {b:Bool} (ab:xR X.K H G) (h:wO X.K H x v) (r:yY v u) (h':wO X.K H y v') (r':yY v' u') (e:eqG G x y=some b) :
  RcAt X.A s u u' b/\RcNeAt X.A s u u' (!b):=by
 have gen:∀ (hh:(if (kR x&&kR y&&decide (min (uD x) (uD y)<=150))=true then some (jB x y) else none)=some b),RcAt X.A s u u' b/\RcNeAt X.A s u u' (!b):=fun hh=>by
  split at hh
  .rename_i c;simp only[Zh,decide_eq_true_eq] at c;cases hh;exact zi7 I x y v v' u u' X.A h r h' r' c.1.1 c.1.2 (by omega)
  .cases hh
 cases x with
 |ref p =>
  cases y with
  |ref q =>
   simp only[eqG] at e
   split at e
   .rename_i a1 b1 e1 e2
    split at e
    .rename_i c;simp only[Zh,decide_eq_true_eq] at c;cases e;cases h;cases h';cases r;cases r';exact zi8 I ab e1 e2 c.1.1 c.1.2 (by omega)
    .cases e
   .cases e
  |_=>exact gen e
 |_=>cases y<;>exact gen e
theorem pT (hu:X.A.units+200<cLine) (op:CmpOp):uM X (compareOp op) (fA X.K (yI op)):=by
 cases op with
 |Eq =>
  intro pins s σ H v u a b Q I rv ru h;obtain ⟨x,y,G,rx,ry,ab,h⟩:=h;simp only[yI] at h
  split at h
  .rename_i k e;exact (zgm I hu ab rx rv ry ru e).1 _ _ _ _ ⟨.bl k,H,I,rfl,h _ _ .refl rfl ab⟩
  .exact h.elim
 |NotEq =>
  intro pins s σ H v u a b Q I rv ru h;obtain ⟨x,y,G,rx,ry,ab,h⟩:=h;simp only[yI] at h
  split at h
  .rename_i k e;exact (zgm I hu ab rx rv ry ru e).2 _ _ _ _ ⟨.bl (!k),H,I,rfl,h _ _ .refl rfl ab⟩
  .exact h.elim
 |Is=>exact zkj false
 |IsNot=>exact zkj true
 |In=>exact zf8 false hu
 |NotIn=>exact zf8 true hu
 |Lt=>exact zcQ (f:=some ltS) op_lt fun q e i j t t' s Q z=>by cases e;exact lt_str z
 |LtE=>exact le_ok
 |Gt=>exact zcQ (f:=none) op_gt
 |GtE=>exact zcQ (f:=none) op_ge
end
end L3
namespace L3
open PySem PySem.Spec PyProof.Rows L2 HT
section
variable {prog:Program} {w:World} {A:Around} {E:Value->Shared->Prop} {s:Shared}
theorem zdm {t sl:Addr} {items:Array Value} {vl vu:Value} {lo hi:Option Int} {Q:Value->Shared->Prop} (ht:IsTup s.heap t items) (hs:s.heap.IsSliceOf sl vl vu .none) (pl:IsPart vl lo) (pu:IsPart vu hi)
  (hw:wJ items.size 0 lo=0/\wJ items.size items.size hi=items.size) (h:Q (.ref t) s):wpAny (model prog w) A (getItem (.ref t) (.ref sl)) Q E s:=by
 obtain ⟨os,hos,hcs,hds⟩:=id hs;have hTs:s.TypeIs (.ref sl) "slice" := ⟨os,hos,hcs⟩;unfold getItem
 try with_reducible refine ZR ?_
 first|refine Za (Zc ?_)|skip
 refine Za (Zbt ht.typeIs (by decide) ?_)
 refine Za (ZQ (name:=Str.ofString "__getitem__") ht.typeIs Zy
  (ZM Zy ht.typeIs ZbK ?_ (ZbW _ _)))
 show wpAny _ _ (Builtin.Tuple.tupleItemsOf (.ref t) >>= _) _ _ s;refine Za (ZcD ht ?_);refine Za (Zbh hTs ?_);rw[if_pos (by decide)];refine Za (kI hs pl pu ?_)
 have yes:(((wJ items.size 0 lo:Nat):Int)==0&&(1:Int)==1&&(wJ items.size items.size hi-wJ items.size 0 lo)==items.size)=true:=by
  rw[hw.1,hw.2];simp
 show wpAny _ _ (if (((wJ items.size 0 lo:Nat):Int)==0&&(1:Int)==1&&(wJ items.size items.size hi-wJ items.size 0 lo)==items.size)=true then _ else _) _ _ s;rw[if_pos yes];refine Za (m:=Builtin.Tuple.tupleIsExact (.ref t)) ?_;unfold Builtin.Tuple.tupleIsExact;refine Za (Zbh ht.typeIs (Zc ?_));rw[if_pos (by decide)];exact Za (ZbG (Zc ⟨_,rfl,Zc h⟩))
end
section
variable {X:Cx}
def rSlW (K:yS):V->Option Int->Option Int->Hp->VK->Prop:=fun x lo hi H Q=>∃ a xs,x=.ref a/\sP K H a xs/\(HT.wJ xs.length 0 lo=0/\HT.wJ xs.length xs.length hi=xs.length)/\Q (.ref a) H
theorem zeq:SlR X (rSlW X.K):=by
 intro pins s σ H x v vl vu lo hi sl Q I rx hs pl pu h;obtain ⟨a,xs,rfl,hx,hw,q⟩:=h;cases rx;obtain ⟨its,r,ht,hz⟩:=I.tuple hx;have hlen:its.toArray.size=xs.length:=by rw[zzS];exact r.length.symm
 exact ⟨"tuple", _,Zy.lookup,ht.typeIs,zdm ht hs pl pu (by rw[hlen];exact hw) ⟨.ref a,H,I,rfl,q⟩⟩
end
end L3
namespace L3
open PySem PySem.Spec PyProof.Rows L2 PySem.SeqAt
def vX (G:Hw):W->Option Bool
 | .non=>some false
 | .bl b=>some b
 | .int i=>some (i != 0)
 | .str y=>if y.length<=sizeLine then some ((y.length:Int) != 0) else none
 | .tup ws=>some (!ws.isEmpty)
 | .ref p=>match G p with
  |some (.lst ws)=>some (!ws.isEmpty)
  |some (.fix ws)=>some (!ws.isEmpty)
  |some (.dic kvs)=>some (!kvs.isEmpty)
  |_=>none
 |_=>none
theorem zG.empty {K:yS} {H:Hp} {ws:List W} {vs:List V} (h:zG K H ws vs):vs.isEmpty=ws.isEmpty:=by
 have:=h.length;cases ws<;>cases vs<;>simp_all
theorem yQ.length {K:yS} {H:Hp} {κ:Type}:∀ {l:List (κ×W)} {l':List (κ×V)},yQ K H l l'->l'.length=l.length
 | [],_,h=>by rw[show _=[] from h];rfl
 |_::_,_,⟨v,t,e,_,r⟩=>by rw[e,Zf,Zf,yQ.length r]
theorem zgC {K:yS} {H:Hp} {G:Hw} {w:W} {v:V} {k:Bool} (r:wO K H w v) (ab:xR K H G) (h:vX G w=some k):TruV K v H k:=by
 cases w with
 |non=>cases r;cases h;rfl
 |bl b=>cases r;cases h;rfl
 |int i=>cases r;cases h;rfl
 |str y =>
  cases r;simp only[vX] at h
  split at h
  .rename_i c;cases h;exact ⟨c,rfl⟩
  .cases h
 |ty n=>cases h
 |lsf n=>cases h
 |exc _ _ _=>cases h
 |dcf _ _=>cases h
 |tup ws =>
  obtain ⟨a,vs,rfl,q,rs⟩:=r;cases h;exact .inr (.inl ⟨vs,q,by rw[rs.empty]⟩)
 |ref p =>
  cases r
  have lk:∀ ws,yU G p=some ws->k=!ws.isEmpty->TruV K (.ref p) H k:=fun ws e q=>by
   obtain ⟨vs,sq,rs⟩:=ab.seq e;exact .inl ⟨vs,sq,by rw[rs.empty];exact q⟩
  simp only[vX] at h
  split at h
  .rename_i ws e;cases h;exact lk ws (by unfold yU;rw[e]) rfl
  .rename_i ws e;cases h;exact lk ws (by unfold yU;rw[e]) rfl
  .rename_i kvs e;cases h;obtain ⟨l,e',rk⟩:=ab.dic e;refine .inr (.inr ⟨l,e',?_⟩);have:=rk.length;cases kvs<;>cases l<;>simp_all
  .cases h
def uQ {α:Type} (kvs:List (yM×α)) (k:yM):Option α:=(kvs.find? fun kv=>decide (kv.1=k)).map (·.2)
def qH {α:Type} (kvs:List (yM×α)) (k:yM) (v:α):List (yM×α) :=
 if (kvs.any fun kv=>decide (kv.1=k))=true then kvs.map (fun kv=>if kv.1=k then (kv.1,v) else kv) else kvs++[(k,v)]
theorem yQ.get {K:yS} {H:Hp} {k:yM} {w:W}:∀ {l:List (yM×W)} {l':List (yM×V)},yQ K H l l'->uQ l k=some w->∃ v,vG l' k=some v/\wO K H w v
 | [],_,h,e=>by cases e
 |p::r,_,⟨v,t,e,h,hr⟩,q=>by
  subst e;unfold uQ at q;rw[ZZ] at q;unfold vG;rw[ZZ]
  by_cases hk:p.1=k
  .simp only[hk,decide_true] at q ⊢;cases q;exact ⟨v,rfl,h⟩
  .simp only[hk,decide_false] at q ⊢;exact yQ.get hr q
theorem yQ.any {K:yS} {H:Hp} {k:yM}:∀ {l:List (yM×W)} {l':List (yM×V)},yQ K H l l'->(l'.any fun kv=>decide (kv.1=k))=l.any fun kv=>decide (kv.1=k)
 | [],_,h=>by rw[show _=[] from h];rfl
 |p::r,_,⟨v,t,e,h,hr⟩=>by subst e;rw[Zay,Zay,yQ.any hr]
theorem yQ.app {K:yS} {H:Hp} {κ:Type}:∀ {l:List (κ×W)} {l':List (κ×V)} {m:List (κ×W)} {m':List (κ×V)},yQ K H l l'->yQ K H m m'->yQ K H (l++m) (l'++m')
 | [],_,_,_,h,h'=>by rw[show _=[] from h];exact h'
 |p::r,_,_,_,⟨v,t,e,h,hr⟩,h'=>by rw[e];exact ⟨v,_,rfl,h,yQ.app hr h'⟩
theorem yQ.repl {K:yS} {H:Hp} {k:yM} {w:W} {v:V} (q:wO K H w v):∀ {l:List (yM×W)} {l':List (yM×V)},yQ K H l l' ->
  yQ K H (l.map fun kv=>if kv.1=k then (kv.1,w) else kv) (l'.map fun kv=>if kv.1=k then (kv.1,v) else kv)
 | [],_,h=>by rw[show _=[] from h];rfl
 |p::r,_,⟨u,t,e,h,hr⟩=>by
  subst e;rw[zzU,zzU]
  by_cases hk:p.1=k
  .simp only[hk,if_true];exact ⟨v,_,rfl,q,yQ.repl q hr⟩
  .simp only[hk,if_false];exact ⟨u,_,rfl,h,yQ.repl q hr⟩
theorem yQ.put {K:yS} {H:Hp} {k:yM} {w:W} {v:V} {l:List (yM×W)} {l':List (yM×V)} (h:yQ K H l l') (q:wO K H w v):yQ K H (qH l k w) (vF l' k v):=by
 unfold qH vF;rw[h.any]
 split
 .exact yQ.repl q h
 .exact h.app ⟨v,[],rfl,q,rfl⟩
theorem zda {K:yS} {H:Hp} {y:W} {v:V} {k:yM} (r:wO K H y v) (h:vZ y=some k):v=kV k:=by
 cases y<;>first|(cases h;cases r;rfl)|cases h
theorem ix_kd {X:Cx} {value slice:PySem.Expr} {pins:List (Addr×Obj)} {s:Shared} {σ:L2.St} {H:Hp} {a:Addr} {u:Value} {ks:List Str} {vs:List V} {k:Str} {v:V} {Q:VK} (I:Inv X pins σ H s) (h:KD X.K a ks vs) (ry:yY (.str k) u) (e:(ks.zip vs).lookup k=some v) (q:Q v H)
  (hs:subscripted slice false (.ref a) u=operate [.ref a,u] (getItem (.ref a) u)):wpAny 'a' X.A (subscriptTail value slice (.ref a) u) (EP X pins σ Q) X.xe s:=by
 have hT:=zj1 I h;obtain ⟨tk,rfl⟩:=ry;refine ZcC hT ZaC.lookup ?_ hs;unfold getItem
 try with_reducible refine ZR ?_
 refine Za (Zbt hT (by decide) (Za ?_));refine ZQ (name:=Str.ofString "__getitem__") hT ZaC (ZM ZaC hT PySem.F.entry_dict_getitem ?_ (PySem.F.args_dict_getitem_2 _ _));show wpAny _ _ (dictGet a (.str k tk) >>= _) _ _ s;refine Za (zgh I h ?_);rw[e];exact fun u s' r J=>Zc ⟨u,rfl,Zc ⟨v,H,J,r,q⟩⟩
def nW:R3:=fun x y G Q=>match x,y with
 | .tup ws,.int i=>(match sS ws i with|some w=>Q w G|none=>False)
 | .str z,.int i=>z.length<=sizeLine/\(match sS z.cps.toList i with|some c=>Q (.str ⟨#[c]⟩) G|none=>False)
 | .ref p,y=>(match G p with
  |some (.lst ws)=>(match y with|.int i=>(match sS ws i with|some w=>Q w G|none=>False)|_=>False)
  |some (.fix ws)=>(match y with|.int i=>(match sS ws i with|some w=>Q w G|none=>False)|_=>False)
  |some (.dic kvs)=>(match vZ y with|some k=>(match uQ kvs k with|some w=>Q w G|none=>False)|none=>False)
  |_=>False)
 | .dcf ks ws,.str k=>(match (ks.zip ws).lookup k with|some w=>Q w G|none=>False)
 |_,_=>False
theorem zdY {K:yS} {H:Hp} {ws:List W} {vs:List V} {i:Int} {w:W} (h:zG K H ws vs) (e:sS ws i=some w):∃ v,sS vs i=some v/\wO K H w v:=by
 unfold sS at e ⊢;rw[h.length]
 cases q:nH ws.length i with
 |none=>rw[q] at e;cases e
 |some j =>
  rw[q] at e;exact h.get e
theorem zbm:pB nW:=by
 intro x y G Q Q' k h
 cases x with
 |tup ws =>
  cases y<;>simp only[nW] at h ⊢<;>first
   |exact h.elim
   | (split at h<;>first|exact k _ _ h|exact h.elim)
 |str z =>
  cases y<;>simp only[nW] at h ⊢<;>first
   |exact h.elim
   | (refine ⟨h.1,?_⟩;have h:=h.2;split at h<;>first|exact k _ _ h|exact h.elim)
 |ref p =>
  simp only[nW] at h ⊢
  split at h
  .cases y<;>simp only at h ⊢<;>first
    |exact h.elim
    | (split at h<;>first|exact k _ _ h|exact h.elim)
  .cases y<;>simp only at h ⊢<;>first
    |exact h.elim
    | (split at h<;>first|exact k _ _ h|exact h.elim)
  .split at h
   .split at h
    .exact k _ _ h
    .exact h.elim
   .exact h.elim
  .exact h.elim
 |dcf ks ws =>
  cases y<;>simp only[nW] at h ⊢<;>first
   |exact h.elim
   | (split at h<;>first|exact k _ _ h|exact h.elim)
 |_=>exact h.elim
section
variable {X:Cx}
theorem zj5 (hu:X.A.units+200<cLine) {value slice:PySem.Expr} {pins:List (Addr×Obj)} {s:Shared} {σ:L2.St} {H:Hp} {a:Addr} {u:Value} {y v:V} {Q:VK} (I:Inv X pins σ H s) (g:DGet H a y (some v)) (hd:IsD H a) (ry:yY y u) (q:Q v H)
  (hs:subscripted slice false (.ref a) u=operate [.ref a,u] (getItem (.ref a) u)):wpAny 'a' X.A (subscriptTail value slice (.ref a) u) (EP X pins σ Q) X.xe s:=by
 exact ZcC (zkk I hd).1 ZaC.lookup (zdL (by omega) I g ry fun w' s' I' r'=>⟨v,H,I',r',q⟩) hs
theorem ix_ok (hu:X.A.units+200<cLine):IxR X (fA X.K nW):=by
 intro value slice pins s σ H v u a b Q I rv ru h hs;obtain ⟨x,y,G,rx,ry,ab,h⟩:=h
 cases x with
 |tup ws =>
  cases y with
  |int i =>
   obtain ⟨a1,vs,rfl,q,rs⟩:=rx;cases ry;simp only[nW] at h
   split at h
   .rename_i w e;obtain ⟨vv,ev,rp⟩:=zdY rs e;exact zj3 value slice pins s σ H _ _ _ _ Q I rv ru ⟨a1,vs,i,vv,rfl,rfl,q,ev,h _ _ .refl rp ab⟩ hs
   .exact h.elim
  |_=>exact h.elim
 |str z =>
  cases y with
  |int i =>
   cases rx;cases ry;simp only[nW] at h;obtain ⟨hz,h⟩:=h
   split at h
   .rename_i c e;exact zj4 value slice pins s σ H _ _ _ _ Q I rv ru ⟨z,i,c,rfl,rfl,hz,e,h _ _ .refl rfl ab⟩ hs
   .exact h.elim
  |_=>exact h.elim
 |ref p =>
  cases rx
  have lk:∀ ws i w,yU G p=some ws->y=.int i->sS ws i=some w->jE X.K H Q w G->wpAny 'a' X.A (subscriptTail value slice a b) (EP X pins σ Q) X.xe s:=fun ws i w e ey ew q=>by
   subst ey;obtain ⟨vs,sq,rs⟩:=ab.seq e;obtain ⟨vv,ev,rp⟩:=zdY rs ew;cases ry;exact zht value slice pins s σ H _ _ _ _ Q I rv ru ⟨p,vs,i,vv,rfl,rfl,sq,ev,q _ _ .refl rp ab⟩ hs
  simp only[nW] at h
  split at h
  .rename_i ws e
   cases y with
   |int i =>
    simp only at h
    split at h
    .rename_i w ew;exact lk ws i w (by unfold yU;rw[e]) rfl ew h
    .exact h.elim
   |_=>exact h.elim
  .rename_i ws e
   cases y with
   |int i =>
    simp only at h
    split at h
    .rename_i w ew;exact lk ws i w (by unfold yU;rw[e]) rfl ew h
    .exact h.elim
   |_=>exact h.elim
  .rename_i kvs e
   split at h
   .rename_i k ek
    split at h
    .rename_i w ew;obtain ⟨l,e',rk⟩:=ab.dic e;obtain ⟨vv,ev,rp⟩:=rk.get ew;have ey:=zda ry ek;subst ey;obtain rfl:a=Value.ref p:=rv;exact zj5 hu I (.inl ⟨l,k,.inl e',rfl,ev.symm⟩) (.inl ⟨l,.inl e'⟩) ru (h _ _ .refl rp ab) hs
    .exact h.elim
   .exact h.elim
  .exact h.elim
 |dcf ks ws =>
  cases y with
  |str k =>
   obtain ⟨a1,vs,rfl,kd,rs⟩:=rx;obtain rfl:a=Value.ref a1:=rv;cases (show u=.str k from ry);simp only[nW] at h
   split at h
   .rename_i w e;obtain ⟨vv,ev,rp⟩:=uU rs e;exact ix_kd I kd ru ev (h _ _ .refl rp ab) hs
   .exact h.elim
  |_=>exact h.elim
 |_=>exact h.elim
end
def tL {α:Type} (xs:List α) (lo hi:Option Int):List α:=(xs.drop (HT.wJ xs.length 0 lo)).take (HT.wJ xs.length xs.length hi-HT.wJ xs.length 0 lo)
theorem zaP {K:yS} {H:Hp} {ws:List W} {vs:List V} (h:zG K H ws vs) (lo hi:Option Int):zG K H (tL ws lo hi) (cutV vs lo hi):=by
 unfold tL cutV;rw[h.length];exact (h.drop _).take _
def fF:W->Option Int->Option Int->Hw->Q3->Prop:=fun x lo hi G Q=>match x with
 | .tup ws=>Q (.tup (tL ws lo hi)) G
 | .ref p=>(match yU G p with|some ws=>∀ r,G r=none->Q (.ref r) (put G r (.lst (tL ws lo hi)))|none=>False)
 | .lsf ws=>∀ r,G r=none->Q (.ref r) (put G r (.lst (tL ws lo hi)))
 | .str x=>x.length<=sizeLine/\Q (.str (Txt.slice x lo hi)) G
 |_=>False
theorem za5 {x:W} {lo hi:Option Int} {G:Hw} {Q Q':Q3} (k:∀ w G',Q w G'->Q' w G') (h:fF x lo hi G Q):fF x lo hi G Q':=by
 cases x with
 |tup ws=>exact k _ _ h
 |ref p =>
  simp only[fF] at h ⊢
  split at h
  .exact fun r hr=>k _ _ (h r hr)
  .exact h.elim
 |lsf ws=>exact fun r hr=>k _ _ (h r hr)
 |str x=>exact ⟨h.1,k _ _ h.2⟩
 |_=>exact h.elim
theorem ziM {X:Cx} {pins:List (Addr×Obj)} {s:Shared} {σ:L2.St} {H:Hp} {x:Str} {v vl vu:Value} {lo hi:Option Int} {sl:Addr} {Q:VK} (I:Inv X pins σ H s) (rv:yY (.str x) v) (hs:s.heap.IsSliceOf sl vl vu .none)
  (pl:IsPart vl lo) (pu:IsPart vu hi) (hz:x.length<=sizeLine) (q:Q (.str (Txt.slice x lo hi)) H):∃ T id,typeLookup (.type T) "__getitem__" = pure (some (.builtin id))/\s.TypeIs v T/\wpAny 'a' X.A (getItem v (.ref sl)) (EP X pins σ Q) X.xe s:=by
 obtain ⟨t,rfl⟩:=rv;have fin:∀ t' k,0<k->EP X pins σ Q (.str (Txt.slice x lo hi) t') { s with toks:=k }:=fun t' k h0=>⟨.str (Txt.slice x lo hi),H,I.tok _ h0,⟨t',rfl⟩,q⟩;have hz':=Zn (Txt.slice_le x lo hi) hz;refine ⟨"str", _,F.slot_str_getitem.lookup,Zb6 _ _ _,?_⟩;obtain ⟨o,ho,hc,hd⟩:=hs
 cases pl with
 |none =>
  cases pu with
  |none=>exact wE I.tk (ZaV (l:=none) (u:=none) (st:=none) ⟨o,ho,hc,hd⟩ rfl (ZbM ⟨hz',fin⟩))
  |int j tj=>exact wE I.tk (ZaV (l:=none) (u:=some (j,tj)) (st:=none) ⟨o,ho,hc,hd⟩ rfl (ZbM ⟨hz',fin⟩))
 |int i ti =>
  cases pu with
  |none=>exact wE I.tk (ZaV (l:=some (i,ti)) (u:=none) (st:=none) ⟨o,ho,hc,hd⟩ rfl (ZbM ⟨hz',fin⟩))
  |int j tj=>exact wE I.tk (ZaV (l:=some (i,ti)) (u:=some (j,tj)) (st:=none) ⟨o,ho,hc,hd⟩ rfl (ZbM ⟨hz',fin⟩))
def lowSl (K:yS) (r:W->Option Int->Option Int->Hw->Q3->Prop):V->Option Int->Option Int->Hp->VK->Prop:=fun v lo hi H Q=>∃ x G,wO K H x v/\xR K H G/\r x lo hi G (jE K H Q)
theorem sl_ok {X:Cx}:SlR X (lowSl X.K fF):=by
 intro pins s σ H v u vl vu lo hi sl Q I rv hs pl pu h;obtain ⟨x,G,rx,ab,h⟩:=h
 cases x with
 |tup ws =>
  obtain ⟨a,vs,rfl,q,rs⟩:=rx
  by_cases hw:HT.wJ vs.length 0 lo=0/\HT.wJ vs.length vs.length hi=vs.length
  .have e:tL ws lo hi=ws:=by
    have hw':=hw;rw[rs.length] at hw';unfold tL;rw[hw'.1,hw'.2,Zcv,Nat.sub_zero,ZbA]
   have h':jE X.K H Q (.tup (tL ws lo hi)) G:=h;rw[e] at h';exact zeq pins s σ H _ _ vl vu lo hi sl Q I rv hs pl pu ⟨a,vs,rfl,q,hw,h' _ _ .refl ⟨a,vs,rfl,q,rs⟩ ab⟩
  .exact ziL pins s σ H _ _ vl vu lo hi sl Q I rv hs pl pu ⟨a,vs,rfl,q,hw,vU ab (zaP rs lo hi) h⟩
 |ref p =>
  cases rx;simp only[fF] at h
  split at h
  .rename_i ws e;obtain ⟨vs,sq,rs⟩:=ab.seq e;exact zcA pins s σ H _ _ vl vu lo hi sl Q I rv hs pl pu ⟨p,vs,rfl,sq,jO ab (zaP rs lo hi) h⟩
  .exact h.elim
 |lsf ws =>
  obtain ⟨a,vs,rfl,q,rs⟩:=rx;exact zcA pins s σ H _ _ vl vu lo hi sl Q I rv hs pl pu ⟨a,vs,rfl,.inr q,jO ab (zaP rs lo hi) h⟩
 |str x =>
  cases (show v=.str x from rx);exact ziM I rv hs pl pu h.1 (h.2 _ _ .refl rfl ab)
 |_=>exact h.elim
def sL:W->W->W->Hw->(Hw->Prop)->Prop:=fun o i v G Q=>match o with
 | .ref p=>(match G p with
  |some (.lst ws)=>(match i with|.int k=>(match nH ws.length k with|some j=>Q (put G p (.lst (ws.set j v)))|none=>False)|_=>False)
  |some (.dic kvs)=>(match vZ i with|some k=>kvs.length<sizeLine/\Q (put G p (.dic (qH kvs k v)))|none=>False)
  |_=>False)
 |_=>False
theorem zcB {o i v:W} {G:Hw} {Q Q':Hw->Prop} (k:∀ G',Q G'->Q' G') (h:sL o i v G Q):sL o i v G Q':=by
 cases o with
 |ref p =>
  simp only[sL] at h ⊢
  split at h
  .cases i<;>simp only at h ⊢<;>first
    |exact h.elim
    | (split at h<;>first|exact k _ h|exact h.elim)
  .split at h
   .exact ⟨h.1,k _ h.2⟩
   .exact h.elim
  .exact h.elim
 |_=>exact h.elim
def zf9 (K:yS):TSet:=fun o i v H Q=>∃ x y z G,wO K H x o/\wO K H y i/\wO K H z v/\xR K H G/\sL x y z G fun G'=>∀ H',yO K H H'->xR K H' G'->Q H'
theorem ziN {X:Cx} (hu:X.A.units+200<cLine):PSet X (zf9 X.K):=by
 intro pins s σ H o i v ov iv u Q I ro ri rv h;obtain ⟨x,y,z,G,rx,ry,rz,ab,h⟩:=h
 cases x with
 |ref p =>
  cases rx;simp only[sL] at h
  split at h
  .rename_i ws e
   cases y with
   |int k =>
    simp only at h
    split at h
    .rename_i j ej;cases ry;obtain ⟨vs,q1,r1⟩:=ab.lst e;refine zes pins s σ H _ _ _ _ _ _ Q I ro ri rv ⟨p,vs,k,j,rfl,rfl,q1,by rw[r1.length];exact ej,?_⟩;have g:=ab.grow (u:=.lst (vs.set j v)) e;exact h _ g (ab.chg e ⟨_,rfl,((r1.mono g).set (rz.mono g) j)⟩)
    .exact h.elim
   |_=>exact h.elim
  .rename_i kvs e
   split at h
   .rename_i k ek;obtain ⟨l,e',rk⟩:=ab.dic e;have ey:=zda ry ek;subst ey;obtain rfl:ov=Value.ref p:=ro;refine zdK (by omega) I (.inl ⟨l,k,e',rfl,by rw[rk.length];exact h.1,rfl⟩) ri rv fun s' I'=>⟨_,I',?_⟩;have g:=ab.grow (u:=.dK (vF l k v)) e;exact h.2 _ g (ab.chg e ⟨_,rfl,(rk.mono g).put (rz.mono g)⟩)
   .exact h.elim
  .exact h.elim
 |_=>exact h.elim
end L3
namespace L3
open PySem PySem.Spec PyProof.Rows L2
abbrev XQ:=Str->List (Str×W)->Hw->Prop
def XN:XQ:=fun _ _ _=>False
abbrev nQ:=List W->Hw->Q3->XQ->Prop
structure Fn3 where
 nm:Str
 sp:nQ
structure Mt3 where
 nm:Str
 T:String
 sp:W->List W->Hw->Q3->Prop
abbrev I3:=xE->Hw->(List W->(Hw->Prop)->Hw->Prop)->Prop
structure It3 where
 nm:Str
 sp:List W->Hw->(List W->(Hw->Prop)->Hw->Prop)->Prop
structure Sx3 where
 m:Scope->Expr->Option (List Expr)
 sp:List W->Hw->Q3->Prop
structure Ix3 where
 m:Scope->Expr->Option (List Expr)
 sp:List W->Hw->(List W->(Hw->Prop)->Hw->Prop)->Prop
structure Ctx3 where
 fn:List Fn3
 gl:List (Str×W)
 mt:List Mt3
 it:List It3
 cl:List (Addr×List Str)
 sx:List Sx3
 ix:List Ix3
set_option genInjectivity false
mutual
inductive IE where
 |var (i:Nat)|con (c:Const)|glb (i:Nat)
 |bin (op:Operator) (a b:IE)|neg (a:IE)|not (a:IE)
 |cmp (op:CmpOp) (a b:IE)|chn (o1 o2:CmpOp) (a b c:IE)
 |and (a b:IE)|or (a b:IE)|ite (c a b:IE)
 |ix (a i:IE)|sl (a:IE) (lo hi:IO)
 |tup (es:IEs)|lst (es:IEs)|dct (ks:List Str) (es:IEs)
 |call (f:Nat) (es:IEs)|mth (m:Nat) (o:IE) (es:IEs)|att (o:IE) (f:Str)
 |lc (tg:ITg) (names:List Str) (caps:List Nat) (it:II) (c:IO) (elt:IE)
 |spc (i:Nat) (es:IEs)|ch3 (o1 o2 o3:CmpOp) (a b c d:IE)
inductive IO where
 |no|yes (e:IE)
inductive IEs where
 |nil|cons (e:IE) (es:IEs)
inductive II where
 |val (e:IE)|blt (i:Nat) (es:IEs)|spc (i:Nat) (es:IEs)
inductive ITg where
 |nm (i:Nat)|tup (ts:ITgs)
inductive ITgs where
 |nil|cons (t:ITg) (ts:ITgs)
end
mutual
inductive IS where
 |asg (i:Nat) (e:IE)|asgT (ts:ITgs) (e:IE)|asgI (o i e:IE)|asgA (o:IE) (f:Str) (e:IE)
 |ex (e:IE)|ret (e:IE)|retN|pass|brk|cnt
 |ite (c:IE) (a b:ISs)|whl (c:IE) (b:ISs)|for (tg:ITg) (it:II) (b:ISs)|dead|asgS (i j:Nat) (e:IE)
inductive ISs where
 |nil|cons (s:IS) (ss:ISs)
end
def zN:Const->Option W
 | .none=>some .non
 | .bool b=>some (.bl b)
 | .int i=>some (.int i)
 | .str x=>some (.str x)
 |_=>none
abbrev G3:=W->xE->Hw->(xE->Hw->Prop)->Prop
abbrev Gs3:=List W->xE->Hw->(xE->Hw->Prop)->Prop
mutual
def zT:ITg->G3
 | .nm i=>fun w σ G Q=>Q (σ.set i (some w)) G
 | .tup ts=>fun w σ G Q=>match w with
  | .tup ws=>zZ ts ws σ G Q
  |_=>False
def zZ:ITgs->Gs3
 | .nil=>fun ws σ G Q=>match ws with | []=>Q σ G|_=>False
 | .cons t ts=>fun ws σ G Q=>match ws with
  |w::r=>zT t w σ G fun σ' G'=>zZ ts r σ' G' Q
  | []=>False
end
def unl (G:Hw) (w:W):W:=match w with
 | .ref p=>(match yU G p with|some ws=>.tup ws|none=>.ref p)
 |w=>w
def qT (k:Nat) (caps:List Nat) (σ:xE):xE:=List.replicate k none++caps.map fun j=>(σ[j]?).join
def sgs (x:Str):List W:=x.cps.toList.map fun c=>.str ⟨#[c]⟩
def kW:yM->W
 | .inl i=>.int i
 | .inr x=>.str x
def jK (G:Hw) (p:Addr):Option (List (yM×W)):=match G p with
 |some (.dic kvs)=>some kvs
 |some (.fzd kvs)=>some kvs
 |_=>none
def qI (w:W) (G:Hw) (R:List W->(Hw->Prop)->Hw->Prop):Prop:=match w with
 | .tup ws=>R ws (fun _=>True) G
 | .ref p=>(match yU G p with
  |some ws=>R ws (fun G'=>yU G' p=some ws) G
  |none=>(match jK G p with
   |some kvs=>R (kvs.map fun kv=>kW kv.1) (fun G'=>G' p=some (.fzd kvs)) (put G p (.fzd kvs))
   |none=>False))
 | .str x=>R (sgs x) (fun _=>True) G
 |_=>False
def lcR (items:List W) (stab:Hw->Prop) (G1:Hw) (turn:W->Hw->(Option W->Hw->Prop)->Prop) (Q:Q3):Prop :=
 ∃ Pv:Nat->List W->Hw->Prop,Pv 0 [] G1/\(∀ i acc G,Pv i acc G->i<=items.length->stab G/\acc.length<=i)/\items.length<=sizeLine /\
  (∀ i w acc G,items[i]?=some w->Pv i acc G->turn w G fun o G'=>match o with|some x=>Pv (i+1) (acc++[x]) G'|none=>Pv (i+1) acc G') /\
  ∀ acc G,Pv items.length acc G->∀ p,G p=none->Q (.ref p) (put G p (.lst acc))
def zJ (w:W) (G:Hw) (Q:Q3):Prop:=match w with|.int i=>Q (.int (-i)) G|_=>False
def zB (w:W) (Q:Bool->Prop):Prop:=match w with|.bl b=>Q b|_=>False
def zK (w:W) (Q:Int->Prop):Prop:=match w with|.int i=>Q i|_=>False
def tyW (G:Hw):W->String->Prop
 | .str _,T=>T = "str"
 | .ref p,T=>match G p with
  |some (.lst _)=>T = "list"
  |some (.fix _)=>T = "list"
  |some (.dic _)=>T = "dict"
  |_=>False
 |_,_=>False
def attR (cl:List (Addr×List Str)) (f:Str) (w:W) (G:Hw) (Q:Q3):Prop:=match w with
 | .ref p=>(match G p with
  |some (.ins C fs)=>(∃ l,(C,l)∈cl/\f∈l)/\(match fs.lookup f with|some v=>Q v G|none=>False)
  |_=>False)
 |_=>False
def zjc (f:Str) (v:W):List (Str×W)->List (Str×W)
 | []=>[(f,v)]
 | (g,x)::r=>if g=f then (g,v)::r else (g,x)::zjc f v r
def satR (cl:List (Addr×List Str)) (f:Str) (o v:W) (G:Hw) (Q:Hw->Prop):Prop:=match o with
 | .ref p=>(match G p with
  |some (.ins C fs)=>(∃ l,(C,l)∈cl/\f∈l)/\fs.length<1000/\Q (put G p (.ins C (zjc f v fs)))
  |_=>False)
 |_=>False
def zh9 (ks:List Str) (ws:List W):List (yM×W):=(ks.zip ws).foldl (fun acc kv=>qH acc (.inr kv.1) kv.2) []
structure ET where
 e:E3
 t:T3
def zM (e:E3):T3:=fun σ G Q=>e σ G fun w G1=>match vX G1 w with|some b=>Q b G1|none=>False
def yZ (e:E3):T3:=fun σ G Q=>e σ G fun w G1=>zB w fun b=>Q b G1
def zD (e:E3):ET:=⟨e,zM e⟩
def zA (e:E3):ET:=⟨e,yZ e⟩
def rO:List E3->A3
 | []=>fun _ G Q=>Q [] G
 |e::es=>fun σ G Q=>e σ G fun x G1=>rO es σ G1 fun xs G2=>Q (x::xs) G2
section
variable (Γ:Ctx3)
mutual
def zH (E:XQ):IE->ET
 | .var i=>zD fun σ G Q=>match σ[i]? with|some (some w)=>Q w G|_=>False
 | .con c=>zD fun σ G Q=>match zN c with|some w=>Q w G|none=>False
 | .glb i=>zD fun σ G Q=>match Γ.gl[i]? with|some p=>Q p.2 G|none=>False
 | .bin op a b=>zD fun σ G Q=>(zH E a).e σ G fun x G1=>(zH E b).e σ G1 fun y G2=>wK op x y G2 Q
 | .neg a=>zD fun σ G Q=>(zH E a).e σ G fun x G1=>zJ x G1 Q
 | .not a=>⟨fun σ G Q=>(zH E a).e σ G fun x G1=>zB x fun b=>Q (.bl (!b)) G1,fun σ G Q=>(zH E a).t σ G fun b G1=>Q (!b) G1⟩
 | .cmp op a b=>zA fun σ G Q=>(zH E a).e σ G fun x G1=>(zH E b).e σ G1 fun y G2=>yI op x y G2 Q
 | .chn o1 o2 a b c=>zA fun σ G Q=>(zH E a).e σ G fun x G1=>(zH E b).e σ G1 fun y G2=>yI o1 x y G2 fun z G3=>zB z fun k =>
   if k=true then (zH E c).e σ G3 fun u G4=>yI o2 y u G4 Q else Q (.bl false) G3
 | .and a b=>⟨fun σ G Q=>(zH E a).e σ G fun x G1=>zB x fun k=>if k=true then (zH E b).e σ G1 Q else Q (.bl false) G1,
   fun σ G Q=>(zH E a).t σ G fun k G1=>if k=true then (zH E b).t σ G1 Q else Q false G1⟩
 | .or a b=>⟨fun σ G Q=>(zH E a).e σ G fun x G1=>zB x fun k=>if k=true then Q (.bl true) G1 else (zH E b).e σ G1 Q,
   fun σ G Q=>(zH E a).t σ G fun k G1=>if k=true then Q true G1 else (zH E b).t σ G1 Q⟩
 | .ite c a b=>⟨fun σ G Q=>(zH E c).t σ G fun k G1=>if k=true then (zH E a).e σ G1 Q else (zH E b).e σ G1 Q,fun _ _ _=>False⟩
 | .ix a i=>zD fun σ G Q=>(zH E a).e σ G fun x G1=>(zH E i).e σ G1 fun y G2=>nW x y G2 Q
 | .sl a lo hi=>zD fun σ G Q=>(zH E a).e σ G fun x G1=>zL E lo σ G1 fun l G2=>zL E hi σ G2 fun u G3=>fF x l u G3 Q
 | .tup es=>zD fun σ G Q=>zU E es σ G fun ws G1=>ws.length<=sizeLine/\Q (.tup ws) G1
 | .lst es=>zD fun σ G Q=>zU E es σ G fun ws G1=>ws.length<=sizeLine/\∀ p,G1 p=none->Q (.ref p) (put G1 p (.lst ws))
 | .dct ks es=>zD fun σ G Q=>∀ p,G p=none->zU E es σ (put G p (.dic [])) fun ws G1=>G1 p=some (.dic [])/\ws.length=ks.length/\Q (.ref p) (put G1 p (.dic (zh9 ks ws)))
 | .call f es=>zD fun σ G Q=>zU E es σ G fun ws G1=>match Γ.fn[f]? with|some h=>h.sp ws G1 Q E|none=>False
 | .mth m o es=>zD fun σ G Q=>(zH E o).e σ G fun x G1=>match Γ.mt[m]? with|some h=>tyW G1 x h.T/\zU E es σ G1 fun ws G2=>h.sp x ws G2 Q|none=>False
 | .att o f=>zD fun σ G Q=>(zH E o).e σ G fun x G1=>attR Γ.cl f x G1 Q
 | .lc tg names caps it c elt=>zD fun σ G Q=>zR E it σ G fun items stab G1 =>
   lcR items stab G1 (fun w G' K=>zT tg w (qT names.length caps σ) G' fun σ2 G2=>zO c σ2 G2 fun b G3=>if b=true then (zH XN elt).e σ2 G3 fun x G4=>K (some x) G4 else K none G3) Q
 | .spc i es=>zD fun σ G Q=>zU E es σ G fun ws G1=>match Γ.sx[i]? with|some h=>h.sp ws G1 Q|none=>False
 | .ch3 o1 o2 o3 a b c d=>zA fun σ G Q=>(zH E a).e σ G fun x G1=>(zH E b).e σ G1 fun y G2=>yI o1 x y G2 fun z G3=>zB z fun k =>
   if k=true then (zH E c).e σ G3 fun u G4=>yI o2 y u G4 fun z2 G5=>zB z2 fun k2 =>
    if k2=true then (zH E d).e σ G5 fun t G6=>yI o3 u t G6 Q else Q (.bl false) G5
   else Q (.bl false) G3
def zL (E:XQ):IO->xE->Hw->(Option Int->Hw->Prop)->Prop
 | .no=>fun _ G Q=>Q none G
 | .yes e=>fun σ G Q=>(zH E e).e σ G fun x G1=>zK x fun i=>Q (some i) G1
def zO:IO->T3
 | .no=>fun _ G Q=>Q true G
 | .yes e=>(zH XN e).t
def zU (E:XQ):IEs->A3
 | .nil=>fun _ G Q=>Q [] G
 | .cons e es=>fun σ G Q=>(zH E e).e σ G fun x G1=>zU E es σ G1 fun xs G2=>Q (x::xs) G2
def zR (E:XQ):II->I3
 | .val e=>fun σ G R=>(zH E e).e σ G fun w G1=>qI w G1 R
 | .blt i es=>fun σ G R=>zU E es σ G fun ws G1=>match Γ.it[i]? with|some h=>h.sp ws G1 R|none=>False
 | .spc i es=>fun σ G R=>zU E es σ G fun ws G1=>match Γ.ix[i]? with|some h=>h.sp ws G1 R|none=>False
end
def semL:IEs->List E3
 | .nil=>[]
 | .cons e es=>(zH Γ XN e).e::semL es
abbrev zS (E:XQ) (e:IE):E3:=(zH Γ E e).e
abbrev zP (E:XQ) (e:IE):T3:=(zH Γ E e).t
def forR (items:List W) (stab:Hw->Prop) (D:End3) (σ:xE) (G1:Hw) (turn:W->End3->xE->Hw->Prop):Prop :=
 ∃ Pv:Nat->xE->Hw->Prop,Pv 0 σ G1/\(∀ i σ G,Pv i σ G->i<=items.length->stab G) /\
  (∀ i w σ G,items[i]?=some w->Pv i σ G->turn w { D with nx:=Pv (i+1),ct:=Pv (i+1),bk:=D.nx } σ G)/\∀ σ G,Pv items.length σ G->D.nx σ G
mutual
def zQ (E:XQ):IS->S3
 | .asg i e=>fun D σ G=>zS Γ E e σ G fun w G1=>D.nx (σ.set i (some w)) G1
 | .asgT ts e=>fun D σ G=>zS Γ E e σ G fun w G1=>zT (.tup ts) (unl G1 w) σ G1 D.nx
 | .asgI o i e=>fun D σ G=>zS Γ E e σ G fun w G1=>zS Γ E o σ G1 fun x G2=>zS Γ E i σ G2 fun y G3=>sL x y w G3 fun G4=>D.nx σ G4
 | .asgA o f e=>fun D σ G=>zS Γ E e σ G fun w G1=>zS Γ E o σ G1 fun x G2=>satR Γ.cl f x w G2 fun G3=>D.nx σ G3
 | .ex e=>fun D σ G=>zS Γ E e σ G fun _ G1=>D.nx σ G1
 | .ret e=>fun D σ G=>zS Γ E e σ G D.rt
 | .retN=>fun D _ G=>D.rt .non G
 | .pass=>fun D σ G=>D.nx σ G
 | .brk=>fun D σ G=>D.bk σ G
 | .cnt=>fun D σ G=>D.ct σ G
 | .ite c a b=>fun D σ G=>zP Γ E c σ G fun k G1=>if k=true then zC E a D σ G1 else zC E b D σ G1
 | .whl c b=>fun D σ G=>∃ Pv:Nat->xE->Hw->Prop,(∃ m,Pv m σ G)/\∀ m σ G,Pv m σ G->zP Γ E c σ G fun k G1 =>
   if k=true then zC E b { D with nx:=fun σ' G'=>∃ m',m' < m/\Pv m' σ' G',ct:=fun σ' G'=>∃ m',m' < m/\Pv m' σ' G',bk:=D.nx } σ G1 else D.nx σ G1
 | .for tg it b=>fun D σ G=>zR Γ E it σ G fun items stab G1=>forR items stab D σ G1 fun w D' σ' G'=>zT tg w σ' G' fun σ2 G2=>zC E b D' σ2 G2
 | .dead=>fun _ _ _=>False
 | .asgS i j e=>fun D σ G=>zS Γ E e σ G fun w G1=>match w with
  | .tup (x::r)=>r.length<=1000/\∀ p,G1 p=none->D.nx ((σ.set i (some x)).set j (some (.ref p))) (put G1 p (.lst r))
  |_=>False
def zC (E:XQ):ISs->S3
 | .nil=>fun D σ G=>D.nx σ G
 | .cons s ss=>fun D σ G=>zQ E s { D with nx:=zC E ss D } σ G
end
end
theorem hW (Γ:Ctx3):∀ es:IEs,zU Γ XN es=rO (semL Γ es)
 | .nil=>rfl
 | .cons e es=>by
  show (fun (σ:xE) (G:Hw) (Q:List W->Hw->Prop)=>(zH Γ XN e).e σ G fun x G1=>zU Γ XN es σ G1 fun xs G2=>Q (x::xs) G2)=_;rw[hW Γ es];rfl
structure TabMono (Γ:Ctx3):Prop where
 fn:∀ f∈Γ.fn,∀ ws G (Q Q':Q3) E,(∀ w G',Q w G'->Q' w G')->f.sp ws G Q E->f.sp ws G Q' E
 mt:∀ m∈Γ.mt,∀ x ws G (Q Q':Q3),(∀ w G',Q w G'->Q' w G')->m.sp x ws G Q->m.sp x ws G Q'
 it:∀ m∈Γ.it,∀ ws G (R R':List W->(Hw->Prop)->Hw->Prop),(∀ a b c,R a b c->R' a b c)->m.sp ws G R->m.sp ws G R'
 sx:∀ m∈Γ.sx,∀ ws G (Q Q':Q3),(∀ w G',Q w G'->Q' w G')->m.sp ws G Q->m.sp ws G Q'
 ix:∀ m∈Γ.ix,∀ ws G (R R':List W->(Hw->Prop)->Hw->Prop),(∀ a b c,R a b c->R' a b c)->m.sp ws G R->m.sp ws G R'
def zkQ (t:I3):Prop:=∀ σ G (R R':List W->(Hw->Prop)->Hw->Prop),(∀ a b c,R a b c->R' a b c)->t σ G R->t σ G R'
def zkP (t:xE->Hw->(Option Int->Hw->Prop)->Prop):Prop:=∀ σ G (Q Q':Option Int->Hw->Prop),(∀ a b,Q a b->Q' a b)->t σ G Q->t σ G Q'
theorem qG {w:W} {Q Q':Bool->Prop} (k:∀ b,Q b->Q' b) (h:zB w Q):zB w Q':=by
 cases w<;>first|exact k _ h|exact h.elim
theorem bY {w:W} {Q Q':Int->Prop} (k:∀ b,Q b->Q' b) (h:zK w Q):zK w Q':=by
 cases w<;>first|exact k _ h|exact h.elim
theorem zcW {w:W} {G:Hw} {Q Q':Q3} (k:∀ w G,Q w G->Q' w G) (h:zJ w G Q):zJ w G Q':=by
 cases w<;>first|exact k _ _ h|exact h.elim
theorem zdW {cl:List (Addr×List Str)} {f:Str} {w:W} {G:Hw} {Q Q':Q3} (k:∀ w G,Q w G->Q' w G) (h:attR cl f w G Q):attR cl f w G Q':=by
 cases w with
 |ref p =>
  simp only[attR] at h ⊢
  split at h
  .refine ⟨h.1,?_⟩;have h2:=h.2
   split at h2
   .exact k _ _ h2
   .exact h2.elim
  .exact h.elim
 |_=>exact h.elim
theorem fW {w:W} {G:Hw} {R R':List W->(Hw->Prop)->Hw->Prop} (k:∀ a b c,R a b c->R' a b c) (h:qI w G R):qI w G R':=by
 cases w with
 |tup ws=>exact k _ _ _ h
 |ref p =>
  simp only[qI] at h ⊢
  split at h
  .exact k _ _ _ h
  .split at h
   .exact k _ _ _ h
   .exact h.elim
 |str x=>exact k _ _ _ h
 |_=>exact h.elim
theorem ze5 {items:List W} {stab:Hw->Prop} {G1:Hw} {turn:W->Hw->(Option W->Hw->Prop)->Prop} {Q Q':Q3} (k:∀ w G,Q w G->Q' w G) (h:lcR items stab G1 turn Q):lcR items stab G1 turn Q':=by
 obtain ⟨Pv,h0,h1,h2,h3,h4⟩:=h;exact ⟨Pv,h0,h1,h2,h3,fun acc G hp p hn=>k _ _ (h4 acc G hp p hn)⟩
theorem zci {e:E3} (m:wI e):uL (zM e):=fun σ G Q Q' k h=>m σ G _ _ (fun w G1 q=>by
 split at q
 .exact k _ _ q
 .exact q.elim) h
theorem zfD {e:E3} (m:wI e):uL (yZ e):=fun σ G Q Q' k h=>m σ G _ _ (fun w G1 q=>qG (fun b=>k b G1) q) h
theorem xV {e:E3} (m:wI e):wI (zD e).e/\uL (zD e).t:=⟨m,zci m⟩
theorem gL {e:E3} (m:wI e):wI (zA e).e/\uL (zA e).t:=⟨m,zfD m⟩
theorem wC {α:Type} {l:List α} {i:Nat} {x:α} (h:l[i]?=some x):x∈l:=Zr h
variable {Γ:Ctx3} (g:TabMono Γ)
include g
theorem zbg (e:IE):∀ E,wI (zH Γ E e).e/\uL (zH Γ E e).t:=by
 refine IE.rec (motive_1:=fun e=>∀ E,wI (zH Γ E e).e/\uL (zH Γ E e).t) (motive_2:=fun o=>(∀ E,zkP (zL Γ E o))/\uL (zO Γ o)) (motive_3:=fun es=>∀ E,kT (zU Γ E es)) (motive_4:=fun it=>∀ E,zkQ (zR Γ E it))
  (motive_5:=fun _=>True) (motive_6:=fun _=>True) ?var ?con ?glb ?bin ?neg ?not ?cmp ?chn ?and ?or ?ite ?ix ?sl ?tup ?lst ?dct ?call ?mth ?att ?lc ?spc ?ch3 ?no ?yes ?nil ?cons ?val ?blt ?ispc ?nm ?tt ?tn ?tc e
 case var =>
  intro i E;refine xV fun σ G Q Q' k h=>?_
  split at h
  .exact k _ _ h
  .exact h.elim
 case con =>
  intro c E;refine xV fun σ G Q Q' k h=>?_
  split at h
  .exact k _ _ h
  .exact h.elim
 case glb =>
  intro i E;refine xV fun σ G Q Q' k h=>?_
  split at h
  .exact k _ _ h
  .exact h.elim
 case bin=>exact fun op a b ha hb E=>xV fun σ G Q Q' k h=>(ha E).1 σ G _ _ (fun x G1 h=>(hb E).1 σ G1 _ _ (fun y G2 h=>bJ op x y G2 _ _ k h) h) h
 case neg=>exact fun a ha E=>xV fun σ G Q Q' k h=>(ha E).1 σ G _ _ (fun x G1 h=>zcW k h) h
 case not=>exact fun a ha E=>⟨fun σ G Q Q' k h=>(ha E).1 σ G _ _ (fun x G1 h=>qG (fun b=>k _ _) h) h,fun σ G Q Q' k h=>(ha E).2 σ G _ _ (fun b G1 h=>k _ _ h) h⟩
 case cmp=>exact fun op a b ha hb E=>gL fun σ G Q Q' k h=>(ha E).1 σ G _ _ (fun x G1 h=>(hb E).1 σ G1 _ _ (fun y G2 h=>wZ op x y G2 _ _ k h) h) h
 case chn =>
  exact fun o1 o2 a b c ha hb hc E=>gL fun σ G Q Q' k h=>(ha E).1 σ G _ _ (fun x G1 h=>(hb E).1 σ G1 _ _ (fun y G2 h=>wZ o1 x y G2 _ _ (fun z G3 h=>qG (fun b h=>by
   split
   .rename_i hb;rw[if_pos hb] at h;exact (hc E).1 σ G3 _ _ (fun u G4 h=>wZ o2 y u G4 _ _ k h) h
   .rename_i hb;rw[if_neg hb] at h;exact k _ _ h) h) h) h) h
 case ch3 =>
  exact fun o1 o2 o3 a b c d ha hb hc hd E=>gL fun σ G Q Q' k h=>(ha E).1 σ G _ _ (fun x G1 h=>(hb E).1 σ G1 _ _ (fun y G2 h=>wZ o1 x y G2 _ _ (fun z G3 h=>qG (fun b h=>by
   split
   .rename_i hb;rw[if_pos hb] at h
    exact (hc E).1 σ G3 _ _ (fun u G4 h=>wZ o2 y u G4 _ _ (fun z2 G5 h=>qG (fun b2 h=>by
     split
     .rename_i hb2;rw[if_pos hb2] at h;exact (hd E).1 σ G5 _ _ (fun t G6 h=>wZ o3 u t G6 _ _ k h) h
     .rename_i hb2;rw[if_neg hb2] at h;exact k _ _ h) h) h) h
   .rename_i hb;rw[if_neg hb] at h;exact k _ _ h) h) h) h) h
 case and =>
  exact fun a b ha hb E=>⟨fun σ G Q Q' k h=>(ha E).1 σ G _ _ (fun x G1 h=>qG (fun c h=>by
   split
   .rename_i hc;rw[if_pos hc] at h;exact (hb E).1 σ G1 _ _ k h
   .rename_i hc;rw[if_neg hc] at h;exact k _ _ h) h) h,fun σ G Q Q' k h=>(ha E).2 σ G _ _ (fun c G1 h=>by
   split
   .rename_i hc;rw[if_pos hc] at h;exact (hb E).2 σ G1 _ _ k h
   .rename_i hc;rw[if_neg hc] at h;exact k _ _ h) h⟩
 case or =>
  exact fun a b ha hb E=>⟨fun σ G Q Q' k h=>(ha E).1 σ G _ _ (fun x G1 h=>qG (fun c h=>by
   split
   .rename_i hc;rw[if_pos hc] at h;exact k _ _ h
   .rename_i hc;rw[if_neg hc] at h;exact (hb E).1 σ G1 _ _ k h) h) h,fun σ G Q Q' k h=>(ha E).2 σ G _ _ (fun c G1 h=>by
   split
   .rename_i hc;rw[if_pos hc] at h;exact k _ _ h
   .rename_i hc;rw[if_neg hc] at h;exact (hb E).2 σ G1 _ _ k h) h⟩
 case ite =>
  exact fun c a b hc ha hb E=>⟨fun σ G Q Q' k h=>(hc E).2 σ G _ _ (fun c G1 h=>by
   split
   .rename_i hc;rw[if_pos hc] at h;exact (ha E).1 σ G1 _ _ k h
   .rename_i hc;rw[if_neg hc] at h;exact (hb E).1 σ G1 _ _ k h) h,fun _ _ _ _ _ h=>h.elim⟩
 case ix=>exact fun a b ha hb E=>xV fun σ G Q Q' k h=>(ha E).1 σ G _ _ (fun x G1 h=>(hb E).1 σ G1 _ _ (fun y G2 h=>zbm x y G2 _ _ k h) h) h
 case sl=>exact fun a lo hi ha hl hh E=>xV fun σ G Q Q' k h=>(ha E).1 σ G _ _ (fun x G1 h=>(hl.1 E) σ G1 _ _ (fun l G2 h=>(hh.1 E) σ G2 _ _ (fun u G3 h=>za5 k h) h) h) h
 case tup=>exact fun es hs E=>xV fun σ G Q Q' k h=>(hs E) σ G _ _ (fun ws G1 h=>⟨h.1,k _ _ h.2⟩) h
 case lst=>exact fun es hs E=>xV fun σ G Q Q' k h=>(hs E) σ G _ _ (fun ws G1 h=>⟨h.1,fun p hp=>k _ _ (h.2 p hp)⟩) h
 case dct=>exact fun ks es hs E=>xV fun σ G Q Q' k h=>fun p hp=>(hs E) σ _ _ _ (fun ws G1 h=>⟨h.1,h.2.1,k _ _ h.2.2⟩) (h p hp)
 case call =>
  exact fun f es hs E=>xV fun σ G Q Q' k h=>(hs E) σ G _ _ (fun ws G1 h=>by
   split at h
   .rename_i f' e;exact g.fn f' (wC e) ws G1 Q Q' E k h
   .exact h.elim) h
 case mth =>
  exact fun m o es ho hs E=>xV fun σ G Q Q' k h=>(ho E).1 σ G _ _ (fun x G1 h=>by
   split at h
   .rename_i m' e;exact ⟨h.1,(hs E) σ G1 _ _ (fun ws G2 h=>g.mt m' (wC e) x ws G2 Q Q' k h) h.2⟩
   .exact h.elim) h
 case att=>exact fun o f ho E=>xV fun σ G Q Q' k h=>(ho E).1 σ G _ _ (fun x G1 h=>zdW k h) h
 case lc=>exact fun tg names caps it c elt _ hi hc he E=>xV fun σ G Q Q' k h=>(hi E) σ G _ _ (fun items stab G1 h=>ze5 k h) h
 case spc =>
  exact fun i es hs E=>xV fun σ G Q Q' k h=>(hs E) σ G _ _ (fun ws G1 h=>by
   split at h
   .rename_i f' e;exact g.sx f' (wC e) ws G1 Q Q' k h
   .exact h.elim) h
 case ispc =>
  exact fun i es hs E σ G R R' k h=>(hs E) σ G _ _ (fun ws G1 h=>by
   split at h
   .rename_i m' e;exact g.ix m' (wC e) ws G1 R R' k h
   .exact h.elim) h
 case no=>exact ⟨fun E σ G Q Q' k h=>k _ _ h,fun σ G Q Q' k h=>k _ _ h⟩
 case yes=>exact fun e he=>⟨fun E σ G Q Q' k h=>(he E).1 σ G _ _ (fun x G1 h=>bY (fun i=>k _ _) h) h,(he XN).2⟩
 case nil=>exact fun E σ G Q Q' k h=>k _ _ h
 case cons=>exact fun e es he hs E σ G Q Q' k h=>(he E).1 σ G _ _ (fun x G1 h=>(hs E) σ G1 _ _ (fun xs G2 h=>k _ _ h) h) h
 case val=>exact fun e he E σ G R R' k h=>(he E).1 σ G _ _ (fun w G1 h=>fW k h) h
 case blt =>
  exact fun i es hs E σ G R R' k h=>(hs E) σ G _ _ (fun ws G1 h=>by
   split at h
   .rename_i m' e;exact g.it m' (wC e) ws G1 R R' k h
   .exact h.elim) h
 case nm=>exact fun _=>trivial
 case tt=>exact fun _ _=>trivial
 case tn=>trivial
 case tc=>exact fun _ _ _ _=>trivial
theorem yW (E:XQ) (e:IE):wI (zH Γ E e).e:=(zbg g e E).1
theorem sF (E:XQ) (e:IE):uL (zH Γ E e).t:=(zbg g e E).2
theorem jM (E:XQ):∀ es:IEs,kT (zU Γ E es)
 | .nil=>fun σ G Q Q' k h=>k _ _ h
 | .cons e es=>fun σ G Q Q' k h=>yW g E e σ G _ _ (fun x G1 h=>jM E es σ G1 _ _ (fun xs G2 h=>k _ _ h) h) h
theorem zjM (E:XQ):∀ o:IO,zkP (zL Γ E o)
 | .no=>fun σ G Q Q' k h=>k _ _ h
 | .yes e=>fun σ G Q Q' k h=>yW g E e σ G _ _ (fun x G1 h=>bY (fun i=>k _ _) h) h
theorem monoC:∀ o:IO,uL (zO Γ o)
 | .no=>fun σ G Q Q' k h=>k _ _ h
 | .yes e=>sF g XN e
theorem zcZ (E:XQ):∀ it:II,zkQ (zR Γ E it)
 | .val e=>fun σ G R R' k h=>yW g E e σ G _ _ (fun w G1 h=>fW k h) h
 | .blt i es=>fun σ G R R' k h=>jM g E es σ G _ _ (fun ws G1 h=>by
   split at h
   .rename_i m' e;exact g.it m' (wC e) ws G1 R R' k h
   .exact h.elim) h
 | .spc i es=>fun σ G R R' k h=>jM g E es σ G _ _ (fun ws G1 h=>by
   split at h
   .rename_i m' e;exact g.ix m' (wC e) ws G1 R R' k h
   .exact h.elim) h
end L3
namespace L3
open PySem PySem.Spec PyProof.Rows L2
structure MC where
 sc:Scope
 N:List Str
 own:Str->Bool
 fns:List Str
 gls:List Str
 mts:List Str
 its:List Str
 sxm:List (Scope->Expr->Option (List Expr))
 ixm:List (Scope->Expr->Option (List Expr))
def visB (sc:Scope) (x:Str):Bool:=match sc.names.lookup x with
 |some .local=>true
 |some .cell=>true
 |some .free=>true
 |_=>false
def qB (sc:Scope) (x:Str):Bool:=sc.names.lookup x==some .globalImplicit&&!(x==("__debug__" : Str))&&!(x==("__name__" : Str))
def sH:Expr->Bool
 | .Set ..=>false
 |_=>true
def noStar:Expr->Bool
 | .Starred ..=>false
 |_=>true
def nJ:Expr->Bool
 | .Slice ..=>false
 |_=>true
def fB:Expr->Bool
 | .ListComp ..=>false
 | .SetComp ..=>false
 | .DictComp ..=>false
 |_=>true
def zfE:Expr->Bool
 | .Call (.Name ..) [] [] _=>false
 |_=>true
def relS (sc out:Scope):Scope:={ sc with names:=sc.names.map fun (n,k)=>if (k==.free&&out.kind==.function&&out.names.lookup n==some .cell) then (n,.cell) else (n,k) }
def blkB (out sc:Scope):Bool:=(sc.kind==.function)&&(sc.names.all fun y=>(!(y.2==.cell) || sc.names.lookup y.1==some .cell)&&(!(y.2==.free) || sc.names.lookup y.1==some .free)) &&
 (sc.names.all fun y=>!(y.2==.free) || out.names.lookup y.1==some .cell || out.names.lookup y.1==some .free) &&
 (sc.names.all fun y=>!(y.2==.local) || sc.names.lookup y.1==some .local)
def rF:List Str->Bool
 | []=>true
 |x::r=>!r.contains x&&rF r
def locB (M:MC) (x:Str):Bool:=match M.sc.names.lookup x with
 |some .local=>true
 |some .cell=>M.own x
 |_=>false
mutual
def tgIx:ITg->List Nat
 | .nm i=>[i]
 | .tup ts=>zeg ts
def zeg:ITgs->List Nat
 | .nil=>[]
 | .cons t ts=>tgIx t++zeg ts
end
mutual
def mG (M:MC):ITg->Expr->Bool
 | .nm i,.Name x _=>M.N[i]?==some x&&locB M x
 | .tup ts,.Tuple es _ _=>mGs M ts es
 |_,_=>false
def mGs (M:MC):ITgs->List Expr->Bool
 | .nil,[]=>true
 | .cons t ts,e::es=>noStar e&&mG M t e&&mGs M ts es
 |_,_=>false
end
mutual
def mE:IE->MC->Expr->Bool
 | .var i=>fun M e=>match e with
  | .Name x _=>M.N[i]?==some x&&visB M.sc x&&!(x==("__debug__" : Str))&&!(x==("__classdict__" : Str))
  |_=>false
 | .con c=>fun M e=>match e with
  | .Constant d _ _=>decide (c=d)
  |_=>false
 | .glb i=>fun M e=>match e with
  | .Name x _=>M.gls[i]?==some x&&qB M.sc x
  |_=>false
 | .bin op a b=>fun M e=>match e with
  | .BinOp l o r _=>decide (op=o)&&mE a M l&&mE b M r
  |_=>false
 | .neg a=>fun M e=>match e with
  | .UnaryOp .USub l _=>mE a M l
  |_=>false
 | .not a=>fun M e=>match e with
  | .UnaryOp .Not l _=>mE a M l
  |_=>false
 | .cmp op a b=>fun M e=>match e with
  | .Compare l [o] [r] _=>decide (op=o)&&mE a M l&&mE b M r&&sH r
  |_=>false
 | .chn o1 o2 a b c=>fun M e=>match e with
  | .Compare l [p1,p2] [r,t] _=>decide (o1=p1)&&decide (o2=p2)&&mE a M l&&mE b M r&&mE c M t&&sH t
  |_=>false
 | .ch3 o1 o2 o3 a b c d=>fun M e=>false
 | .and a b=>fun M e=>match e with
  | .BoolOp .And [l,r] _=>mE a M l&&mE b M r
  | .BoolOp .And (l::r::q::rest) pos=>mE a M l&&mE b M (.BoolOp .And (r::q::rest) pos)
  |_=>false
 | .or a b=>fun M e=>match e with
  | .BoolOp .Or [l,r] _=>mE a M l&&mE b M r
  | .BoolOp .Or (l::r::q::rest) pos=>mE a M l&&mE b M (.BoolOp .Or (r::q::rest) pos)
  |_=>false
 | .ite c a b=>fun M e=>false
 | .ix a i=>fun M e=>match e with
  | .Subscript l r _=>mE a M l&&mE i M r&&nJ r
  |_=>false
 | .sl a lo hi=>fun M e=>match e with
  | .Subscript l (.Slice x y none _) _=>mE a M l&&mO lo M x&&mO hi M y
  |_=>false
 | .tup es=>fun M e=>match e with
  | .Tuple xs _ _=>mA es M xs
  |_=>false
 | .lst es=>fun M e=>match e with
  | .List xs _=>mA es M xs
  |_=>false
 | .dct ks es=>fun M e=>match e with
  | .Dict keys xs _=>keyB ks keys&&mA es M xs&&decide (keys.length=xs.length)&&decide (keys.length<=15)&&!ks.isEmpty
  |_=>false
 | .call f es=>fun M e=>match e with
  | .Call (.Name x _) xs [] _=>M.fns[f]?==some x&&qB M.sc x&&mA es M xs
  |_=>false
 | .mth m o es=>fun M e=>match e with
  | .Call (.Attribute l x apos) xs [] cpos=>M.mts[m]?==some x&&zfE l&&(apos.endLine==cpos.line)&&decide (xs.length<25)&&mE o M l&&mA es M xs
  |_=>false
 | .att o f=>fun M e=>false
 | .lc tg names caps it c elt=>fun M e=>match e with
  | .ListComp x [⟨t,ix,ifs,asy⟩] sc _ =>
   let M':MC:={ M with sc:=relS sc M.sc,N:=names++caps.map (fun j=>M.N.getD j Str.empty),own:=fun x=>sc.names.lookup x==some .cell }
   decide (asy=0)&&blkB M.sc sc&&sH ix&&rF M'.N&&(caps.all fun j=>decide (j<M.N.length)&&(sc.names.lookup (M.N.getD j Str.empty)==some .free)) &&
    mI it M ix&&((tgIx tg).all fun i=>decide (i<names.length))&&mG M' tg t&&mC c M' ifs&&mE elt M' x
  |_=>false
 | .spc i es=>fun M e=>fB e&&(match M.sxm[i]? with
  |some m=>(match m M.sc e with|some xs=>mA es M xs|none=>false)
  |none=>false)
def mO:IO->MC->Option Expr->Bool
 | .no=>fun M e=>match e with|none=>true|_=>false
 | .yes a=>fun M e=>match e with|some x=>mE a M x|_=>false
def mC:IO->MC->List Expr->Bool
 | .no=>fun M e=>match e with | []=>true|_=>false
 | .yes a=>fun M e=>match e with | [x]=>mE a M x|_=>false
def mA:IEs->MC->List Expr->Bool
 | .nil=>fun M e=>match e with | []=>true|_=>false
 | .cons a as=>fun M e=>match e with|x::xs=>noStar x&&mE a M x&&mA as M xs|_=>false
def mI:II->MC->Expr->Bool
 | .val a=>fun M e=>mE a M e
 | .blt i es=>fun M e=>match e with
  | .Call (.Name x _) xs [] _=>M.its[i]?==some x&&qB M.sc x&&mA es M xs
  |_=>false
 | .spc i es=>fun M e=>false
def keyB:List Str->List (Option Expr)->Bool
 | []=>fun e=>match e with | []=>true|_=>false
 |k::ks=>fun e=>match e with|some (.Constant (.str x) _ _)::es=>k==x&&keyB ks es|_=>false
end
mutual
def mS:IS->MC->Stmt->Bool
 | .asg i a=>fun M s=>match s with
  | .Assign [.Name x py] e _=>M.N[i]?==some x&&locB M x&&mE a M e
  |_=>false
 | .asgT ts a=>fun M s=>match s with
  | .Assign [.Tuple es _ _] e _=>fB e&&zjH e&&mGs M ts es&&mE a M e
  |_=>false
 | .asgI o i a=>fun M s=>match s with
  | .Assign [.Subscript l r _] e _=>fB e&&nJ r&&mE o M l&&mE i M r&&mE a M e
  |_=>false
 | .asgA o f a=>fun M s=>false
 | .ex a=>fun M s=>match s with
  | .Expr e _=>fB e&&mE a M e
  |_=>false
 | .ret a=>fun M s=>match s with
  | .Return (some e) _=>mE a M e
  |_=>false
 | .retN=>fun M s=>match s with|.Return none _=>true|_=>false
 | .pass=>fun M s=>match s with|.Pass _=>true|_=>false
 | .brk=>fun M s=>match s with|.Break _=>true|_=>false
 | .cnt=>fun M s=>match s with|.Continue _=>true|_=>false
 | .ite c a b=>fun M s=>match s with
  | .If t x y _=>mE c M t&&sZ a M x&&sZ b M y
  |_=>false
 | .whl c b=>fun M s=>match s with
  | .While t x [] _=>mE c M t&&sZ b M x
  |_=>false
 | .for tg it b=>fun M s=>match s with
  | .For t x y [] _=>sH x&&mG M tg t&&mI it M x&&sZ b M y
  |_=>false
 | .dead=>fun M s=>true
 | .asgS i j a=>fun M s=>false
def sZ:ISs->MC->List Stmt->Bool
 | .nil=>fun M s=>match s with | []=>true|_=>false
 | .cons a as=>fun M s=>match s with|x::xs=>mS a M x&&sZ as M xs|_=>false
def zjH:Expr->Bool
 | .Tuple ..=>false
 |_=>true
end
theorem rY {a b:Bool} (h:(a&&b)=true):a=true/\b=true:=(Zh a b).mp h
theorem bd3 {a b c:Bool} (h:(a&&b&&c)=true):(a=true/\b=true)/\c=true:=⟨rY (rY h).1,(rY h).2⟩
theorem bd4 {a b c d:Bool} (h:(a&&b&&c&&d)=true):((a=true/\b=true)/\c=true)/\d=true:=⟨bd3 (rY h).1,(rY h).2⟩
theorem bd5 {a b c d e:Bool} (h:(a&&b&&c&&d&&e)=true):(((a=true/\b=true)/\c=true)/\d=true)/\e=true:=⟨bd4 (rY h).1,(rY h).2⟩
theorem bd6 {a b c d e f:Bool} (h:(a&&b&&c&&d&&e&&f)=true):((((a=true/\b=true)/\c=true)/\d=true)/\e=true)/\f=true:=⟨bd5 (rY h).1,(rY h).2⟩
theorem bd7 {a b c d e f g:Bool} (h:(a&&b&&c&&d&&e&&f&&g)=true):(((((a=true/\b=true)/\c=true)/\d=true)/\e=true)/\f=true)/\g=true:=⟨bd6 (rY h).1,(rY h).2⟩
theorem bd8 {a b c d e f g k:Bool} (h:(a&&b&&c&&d&&e&&f&&g&&k)=true):((((((a=true/\b=true)/\c=true)/\d=true)/\e=true)/\f=true)/\g=true)/\k=true:=⟨bd7 (rY h).1,(rY h).2⟩
theorem bd9 {a b c d e f g k l:Bool} (h:(a&&b&&c&&d&&e&&f&&g&&k&&l)=true):(((((((a=true/\b=true)/\c=true)/\d=true)/\e=true)/\f=true)/\g=true)/\k=true)/\l=true:=⟨bd8 (rY h).1,(rY h).2⟩
theorem bd10 {a b c d e f g k l m:Bool} (h:(a&&b&&c&&d&&e&&f&&g&&k&&l&&m)=true):((((((((a=true/\b=true)/\c=true)/\d=true)/\e=true)/\f=true)/\g=true)/\k=true)/\l=true)/\m=true:=⟨bd9 (rY h).1,(rY h).2⟩
end L3
namespace L2
open PySem PySem.Spec PyProof.Rows
def Itd (d:Addr) (ob:Obj) (l:List (yM×V)):It where
 go:=fun i H=>H d=some (.frz ob (.dK l))/\i<l.length
 yld:=fun i H x H'=>H'=H/\∃ p,l[i]?=some p/\x=kV p.1
 stop:=fun i H=>H d=some (.frz ob (.dK l))/\l.length<=i
def KiSt (it d:Addr) (ob:Obj) (n i:Nat) (h:Heap):Prop:=∃ ep es,ob.data=.dict es ep/\h.IsKeyIter it d i n ep
section
variable {X:Cx} {pins:List (Addr×Obj)} {σ:St} {H:Hp} {s:Shared} {d:Addr} {ob:Obj} {l:List (yM×V)}
theorem zgf {κ:Type}:∀ {l:List (κ×V)} {vs:List (κ×Value)} {i:Nat} {k:κ} {v:Value},KV l vs->vs[i]?=some (k,v)->∃ x,l[i]?=some (k,x)
 |_,_,i,k,v,.nil,e=>by simp at e
 |p::_,_,0,k,v,.cons r t,e=>by
  simp at e;subst e;obtain ⟨a,b⟩:=p;have h1:a=k:=r.1;exact ⟨b,by simp[h1]⟩
 |_::_,_,i+1,k,v,.cons r t,e=>by
  obtain ⟨x,h⟩:=zgf (i:=i) (k:=k) (v:=v) t (by simpa using e);exact ⟨x,by simpa using h⟩
theorem zge {κ:Type}:∀ {l:List (κ×V)} {vs:List (κ×Value)},KV l vs->vs.length=l.length
 |_,_,.nil=>rfl
 |_,_,.cons _ t=>by rw[Zf,Zf,zge t]
theorem zdr (I:Inv X pins σ H s) (e:H d=some (.frz ob (.dK l))) {es:Array DictEntry} {ep:Nat} (hd:ob.data=.dict es ep):∃ vs,KV l vs/\s.heap.DictAt (xN X.prog X.w) d vs ep/\vs.length=l.length:=by
 obtain ⟨hg,_,_,vs,kv,o,es',ep',ho,hc,hdat,r⟩:=(show xM X.prog X.w H s.heap d (.frz ob (.dK l)) from I.hok d _ e);rw[hg] at ho;cases ho;rw[hd] at hdat;cases hdat;exact ⟨vs,kv,⟨ob,es,hg,hc,hd,r⟩,zge kv⟩
theorem zdc {k:yM} {v:Value} (h:pF k v=true):yY (kV k) v:=by
 rcases yC h with ⟨i,t,rfl,rfl⟩|⟨x,t,rfl,rfl⟩
 .exact ⟨t,rfl⟩
 .exact ⟨t,rfl⟩
theorem zch {P:Program} {w:World} {K:PySem.W.Frag} {tg:Expr} (it:Addr):Turn P w K tg (Itd d ob l) [it] it (KiSt it d ob l.length) where
 mem:=by simp
 obj:=fun i h st b hb=>by
  cases zzO hb;obtain ⟨ep,es,_,o,e,c,z⟩:=st;exact ⟨o,e,fun v q=>by rw[z] at q;cases q⟩
 keep:=fun i h h' st k=>by
  obtain ⟨ep,es,hd,st⟩:=st;exact ⟨ep,es,hd,st.at fun o e=>k it (by simp) o e⟩
 item:=by
  intro X e1 e2 e3 hc i pins s σ H E I hf st hg;subst e1;subst e2;subst e3;obtain ⟨ep,es,hd,st⟩:=st;obtain ⟨e,hi⟩:=hg;obtain ⟨vs,kv,da,lv⟩:=zdr I e hd;obtain ⟨f0,f1,f2,f3,f4,f5⟩:=hf it (by simp);obtain ⟨⟨k,v⟩,ek⟩:∃ p,vs[i]?=some p:=⟨vs[i]'(by omega),Zl _⟩;obtain ⟨x,ex⟩:=zgf kv ek;rw[← lv] at st;refine wpAny_pyNext_dict_item st da ek fun key h' hkey st' sb=>?_;have I1:Inv X pins σ H { s with heap:=h',toks:=s.toks }:=I.turned (fun b o hb q=>(sb.2 b hb).trans q) f0 f1 f3 f4 f5;obtain ⟨o,o1,o2,o3⟩:=id st';refine ⟨key,rfl,bV (s:={ s with heap:=h' }) o1 o2 o3 (by decide) ⟨kV k,H,I1,zdc hkey,⟨rfl,(k,x),ex,rfl⟩,⟨ep,es,hd,?_⟩,fun b hb=>(hf b hb).1⟩⟩;rw[← lv];exact st'
 done:=by
  intro X e1 e2 e3 hc i pins s σ H E I hf st hg;subst e1;subst e2;subst e3;obtain ⟨ep,es,hd,st⟩:=st;obtain ⟨e,hi⟩:=hg;obtain ⟨vs,kv,da,lv⟩:=zdr I e hd;obtain ⟨f0,f1,f2,f3,f4,f5⟩:=hf it (by simp);rw[← lv] at st;exact wpAny_pyNext_dict_end (I.ok.hd hc) st da (Za0 (by omega)) fun h' eb=>⟨rfl,I.turned (t':=s.toks) (fun b o hb q=>eb b o hb q) f0 f1 f3 f4 f5⟩
 self:=fun _ _ _ _ _ st h=>by
  obtain ⟨ep,es,hd,st⟩:=st;exact wpAny_pyIter_keyiter st h
theorem vC {u:HO} (e:H d=some u):xP H d u=H:=by
 funext b
 unfold xP
 split
 .rename_i h;subst h;exact e.symm
 .rfl
theorem zhL (I:Inv X pins σ H s) (e:Rd H d (.dK l)):∃ ob,Inv X pins σ (xP H d (.frz ob (.dK l))) s/\(∃ es ep,ob.data=.dict es ep)/\∀ ob',H d=some (.frz ob' (.dK l))->ob'=ob:=by
 rcases e with e|⟨ob,e⟩
 .have q:=I.hok d _ e;obtain ⟨h1,h2,vs,kv,o,es,ep,ho,hc,hdat,r⟩:=id q;have mu:Mut (H d):=by rw[e];exact True.intro
  refine ⟨o,I.un (t':=s.toks) (Un.write mu (.inl rfl) (fun b u _ z=>z) ⟨o,ho⟩) (I.hok.write mu (.inl rfl) (fun b u _ z=>z) ⟨o,ho⟩ ⟨ho,h1,h2,vs,kv,o,es,ep,ho,hc,hdat,r⟩),⟨es,ep,hdat⟩,fun ob' z=>by rw[e] at z;cases z⟩
 .obtain ⟨hg,_,_,vs,kv,o,es,ep,ho,hc,hdat,r⟩:=(show xM X.prog X.w H s.heap d (.frz ob (.dK l)) from I.hok d _ e);rw[hg] at ho;cases ho;exact ⟨ob,by rw[vC e];exact I,⟨es,ep,hdat⟩,fun ob' z=>by rw[e] at z;cases z;rfl⟩
theorem zh7 {tg:Expr} {R:It->Hp->Prop} {E:Value->Shared->Prop} (I:Inv X pins σ H s) (e:Rd H d (.dK l)) (q:∀ ob,(∀ ob',H d=some (.frz ob' (.dK l))->ob'=ob)->R (Itd d ob l) (xP H d (.frz ob (.dK l)))):wpAny 'a' X.A (pyIter (.ref d)) (PIE X pins σ tg R) E s:=by
 have hs:(d==sysModules)=false:=(pD I.hok e).2.1;obtain ⟨ob,J,⟨es,ep,hd⟩,same⟩:=zhL I e;obtain ⟨vs,kv,da,lv⟩:=zdr J yD hd;refine wpAny_pyIter_dict hs da ?_;refine ⟨s.heap.objs.size,[s.heap.objs.size],_,_,_,rfl,J.kept (t':=s.toks) fun b o e=>Zb _ e,zch _,⟨ep,es,hd,⟨_,Zg _ rfl,rfl,by rw[lv];rfl⟩⟩,fun b hb=>?_,q ob same⟩;cases zzO hb;exact J.fpOk (zzR _) (J.hok.fresh (zzR _))
end
end L2
namespace L3
open PySem PySem.Spec PyProof.Rows L2 PySem.SeqAt
structure Par where
 prog:Program
 w:World
 K:yS
 mg:Str->Option Value
 base:Heap
 A:Around
structure Fits (p:Par) (X:Cx):Prop where
 prog:X.prog=p.prog
 w:X.w=p.w
 K:X.K=p.K
 mg:X.mg=p.mg
 base:X.base=p.base
 A:X.A=p.A
 calm:X.calm=true
 xe:X.xe=fun _ _=>False
structure ItIs (K:yS) (J:It) (H1:Hp) (ws:List W) (stab:Hw->Prop):Prop where
 go:∀ i H G,yO K H1 H->xR K H G->stab G->i<ws.length->J.go i H
 yld:∀ i H G x H',yO K H1 H->xR K H G->stab G->i<ws.length->J.yld i H x H'->∃ w,ws[i]?=some w/\yO K H H'/\wO K H' w x/\xR K H' G
 stop:∀ i H G,yO K H1 H->xR K H G->stab G->ws.length<=i->J.stop i H
def lowI (K:yS) (t:I3):TI:=fun τ H R=>∃ σ G,yT K H σ τ/\xR K H G/\t σ G fun ws stab G1=>∀ J H1,yO K H H1->xR K H1 G1->ItIs K J H1 ws stab->R J H1
def pA (X:Cx):List Expr->List E3->Prop
 | [],[]=>True
 |x::xs,e::es=>wI e/\PE X x (xO X.K e)/\pA X xs es
 |_,_=>False
structure Good (Γ:Ctx3) (p:Par):Prop where
 mono:TabMono Γ
 un:p.A.units+200<cLine
 fn:∀ f∈Γ.fn,∀ X,Fits p X->Gl X f.nm->∀ (args:List Expr) (t:A3) (q pos:Pos),kT t->args.all noStar=true->PA X args (uV X.K t)->(args=[]->∀ σ G Q,t σ G Q->Q [] G)->(f.nm==("__debug__" : Str))=false->f.nm ≠ "__name__" ->
  PE X (.Call (.Name f.nm q) args [] pos) (xO X.K fun σ G Q=>t σ G fun ws G1=>f.sp ws G1 Q XN)
 gl:∀ g∈Γ.gl,∀ X,Fits p X->Gl X g.1->∀ q:Pos,(g.1==("__debug__" : Str))=false->g.1 ≠ "__name__" -> PE X (.Name g.1 q) (xO X.K fun _ G Q=>Q g.2 G)
 mt:∀ m∈Γ.mt,∀ X,Fits p X->∀ (o:Expr) (args:List Expr) (to:E3) (t:A3) (apos cpos:Pos),wI to->kT t->zfE o=true->(apos.endLine==cpos.line)=true->args.length<25->args.all noStar=true ->
  PE X o (xO X.K to)->PA X args (uV X.K t)->(args=[]->∀ σ G Q,t σ G Q->Q [] G)->PE X (.Call (.Attribute o m.nm apos) args [] cpos) (xO X.K fun σ G Q=>to σ G fun x G1=>tyW G1 x m.T/\t σ G1 fun ws G2=>m.sp x ws G2 Q)
 it:∀ i∈Γ.it,∀ X,Fits p X->Gl X i.nm->∀ (tg:Expr) (args:List Expr) (t:A3) (q pos:Pos),kT t->args.all noStar=true->PA X args (uV X.K t)->(args=[]->∀ σ G Q,t σ G Q->Q [] G)->(i.nm==("__debug__" : Str))=false->i.nm ≠ "__name__" ->
  PI X tg (.Call (.Name i.nm q) args [] pos) (lowI X.K fun σ G R=>t σ G fun ws G1=>i.sp ws G1 R)
 cl:∀ c∈Γ.cl,Cls p.K c.1/\∀ f∈c.2,zgt p.K c.1 f
 sx:∀ k∈Γ.sx,∀ X,Fits p X->∀ (e:Expr) (xs:List Expr) (es:List E3),k.m X.env.scope e=some xs->pA X xs es->xs.all noStar=true->PA X xs (uV X.K (rO es)) ->
  PE X e (xO X.K fun σ G Q=>rO es σ G fun ws G1=>k.sp ws G1 Q)/\(∀ whole,isTrue e X.env whole=(do let v ← whole;standAt e.pos;holding [v] (truthy v)))/\∀ op vs pos,e≠.BoolOp op vs pos
 ix:∀ k∈Γ.ix,∀ X,Fits p X->∀ (tg e:Expr) (xs:List Expr) (es:List E3),k.m X.env.scope e=some xs->pA X xs es->xs.all noStar=true->PA X xs (uV X.K (rO es)) ->
  PI X tg e (lowI X.K fun σ G R=>rO es σ G fun ws G1=>k.sp ws G1 R)
structure Lk (Γ:Ctx3) (M:MC) (p:Par) (X:Cx):Prop where
 fits:Fits p X
 N:X.N=M.N
 sc:X.env.scope=M.sc
 nd:M.N.Nodup
 own:∀ x,M.own x=true->X.fn x=true
 kind:M.sc.kind=.function
 fns:Γ.fn.map (·.nm)=M.fns
 gls:Γ.gl.map (·.1)=M.gls
 mts:Γ.mt.map (·.nm)=M.mts
 its:Γ.it.map (·.nm)=M.its
 sxs:Γ.sx.map (·.m)=M.sxm
 ixs:Γ.ix.map (·.m)=M.ixm
theorem jT {e:Expr} {es:List Expr} {env:Env} (h:noStar e=true):starEach (e::es) env=(false,eval e env)::starEach es env:=by
 cases e<;>first|rfl|exact absurd h zzN
theorem fH {o:Expr} {f:Str} {env:Env} {t:Sem Value} (h:zfE o=true):attributeBase o f env t=t:=by
 unfold attributeBase
 split
 .exact absurd h zzN
 .rfl
theorem pV {e:Expr} {env:Env} (h:sH e=true):∀ x,foldedSetIterable e env x=pure x:=fun x=>by
 cases e<;>first|rfl|exact absurd h zzN
theorem sD {op:CmpOp} {e:Expr} (h:sH e=true):behindInMarks op e=false:=by
 cases e<;>first|rfl|exact absurd h zzN
theorem zeL {e:Expr} (h:nJ e=true):zd2 e:=fun o i=>by
 cases e<;>first|rfl|exact absurd h zzN
theorem kJ {e:Expr} {t:Option Expr} {n:Nat} {env:Env} (h:fB e=true):swapsWith e t n env=pure false:=by
 cases e<;>first|rfl|exact absurd h zzN
theorem zis {sc:Scope} {x:Str} (h:visB sc x=true):Vis sc x:=by
 unfold visB at h
 split at h
 .rename_i e;exact .inl e
 .rename_i e;exact .inr (.inl e)
 .rename_i e;exact .inr (.inr e)
 .exact absurd h zzN
theorem uR {X:Cx} {sc:Scope} {x:Str} (e:X.env.scope=sc) (h:qB sc x=true):Gl X x/\(x==("__debug__" : Str))=false/\x ≠ "__name__" := by
 unfold qB at h;simp only[Zh,ZaG] at h;refine ⟨?_,h.1.2,fun z=>?_⟩
 .show X.env.scope.names.lookup x=_;rw[e];exact eq_of_beq h.1.1
 .subst z;have:=h.2;simp at this
theorem xS {α:Type} [BEq α] [LawfulBEq α] {a:Option α} {b:α} (h:(a==some b)=true):a=some b:=eq_of_beq h
theorem jC {α β:Type} {f:α->β} {l:List α} {i:Nat} {y:β} (h:(l.map f)[i]?=some y):∃ x,l[i]?=some x/\f x=y:=by
 rw[Zm] at h
 cases e:l[i]? with
 |none=>rw[e] at h;cases h
 |some x=>rw[e] at h;exact ⟨x,rfl,Zx h⟩
section
variable {X:Cx}
theorem zef {K:yS} {e:E3} (m:wI e) {τ:L2.St} {H:Hp} {Q:Bool->Hp->Prop} (h:qK K (zM e) τ H Q):xO K e τ H (fun x H'=>∃ k,TruV K x H' k/\Q k H'):=by
 obtain ⟨σ,G,hs,ha,h⟩:=h;refine xH m hs ha h fun w G1 v H1 gr _ rp ab q=>?_
 split at q
 .rename_i b hb;exact ⟨b,zgC rp ab hb,q H1 gr ab⟩
 .exact q.elim
theorem pt_of {x:Expr} {e:E3} (m:wI e) (h:PE X x (xO X.K e)) (he:∀ whole,isTrue x X.env whole=(do let v ← whole;standAt x.pos;holding [v] (truthy v))):PT X x (qK X.K (zM e)) :=
 (zeD h he).imp fun σ H Q q=>zef m q
theorem zdV {K:yS} {e:E3} (m:wI e) {τ:L2.St} {H:Hp} {Q:Bool->Hp->Prop} (h:qK K (yZ e) τ H Q):xO K e τ H (fun x H'=>∃ k,x=.bl k/\Q k H'):=by
 obtain ⟨σ,G,hs,ha,h⟩:=h;refine xH m hs ha h fun w G1 v H1 gr _ rp ab q=>?_
 cases w with
 |bl b=>cases rp;exact ⟨b,rfl,q H1 gr ab⟩
 |_=>exact q.elim
theorem zbc {K:yS} {ea eb:E3} {r:R3} (ma:wI ea) (mb:wI eb) (mr:pB r) {τ:L2.St} {H:Hp} {Q:VK} (h:xO K (fun σ G Q=>ea σ G fun x G1=>eb σ G1 fun y G2=>r x y G2 Q) τ H Q) :
  tOp (fA K r) (xO K ea) (xO K eb) τ H Q:=by
 obtain ⟨σ,G,hs,ha,h⟩:=h;refine xH ma hs ha h fun x G1 v H1 g1 hs1 rx a1 h1=>?_;refine xH mb hs1 a1 h1 fun y G2 u H2 g2 hs2 ry a2 h2=>?_;exact ⟨x,y,G2,rx.mono g2,ry,a2,mr x y G2 _ _ (fun w G' q v' H' g'=>q v' H' ((g1.trans g2).trans g')) h2⟩
def Its (x:Str):It:=⟨fun i _=>i<x.cps.size,fun i H v H'=>H'=H/\∃ c,x.cps[i]?=some c/\v=.str ⟨#[c]⟩,fun i _=>x.cps.size<=i⟩
theorem zed {P:Program} {w:World} {K:yS} {tg:Expr} (T:String) (hT:T = "str_ascii_iterator" \/ T = "str_iterator") (x:Str) (t:Tok) (it:Addr):Turn P w K tg (Its x) [it] it (fun i h=>h.IsStrIter it T x t i) where
 mem:=by simp
 obj:=fun i h st b hb=>by
  have e:b=it:=by simpa using hb
  subst e;obtain ⟨o,e,c,d⟩:=st;exact ⟨o,e,fun v z=>by rw[d] at z;cases z⟩
 keep:=fun i h h' st k=>let ⟨o,e,r⟩:=st;⟨o,k it (by simp) o e,r⟩
 item:=by
  intro X hP hw hK hc i pins s σ H E I hf st hg;subst hP hw hK;obtain ⟨f0,f1,f2,f3,f4,f5⟩:=hf it (by simp);have hi:i<x.cps.size:=hg;have hx:x.cps[i]?=some x.cps[i]:=by simp[hi]
  have fin:∀ h':Heap,h'.IsStrIter it T x t (i+1)->Heap.SameBut it s.heap h'->∃ u,some (Value.str ⟨#[x.cps[i]]⟩ s.toks)=some u /\
    wpAny 'a' X.A (letOwnedTupleGo tg (.ref it) u) (fun _ s2=>∃ v H',Inv X pins σ H' s2/\yY v u/\(Its x).yld i H v H'/\s2.heap.IsStrIter it T x t (i+1)/\∀ b∈[it],H' b=none) E { s with heap:=h',toks:=s.toks+1 }:=fun h' st' sb=>by
   have I1:Inv X pins σ H { s with heap:=h',toks:=s.toks+1 }:=I.turned (t':=s.toks+1) (fun b o hb e=>(sb.2 b hb).trans e) f0 f1 f3 f4 f5;obtain ⟨o,e,c,d⟩:=id st';exact ⟨_,rfl,bV (s:={ s with heap:=h',toks:=s.toks+1 }) e c d (by rcases hT with rfl|rfl<;>decide) ⟨.str ⟨#[x.cps[i]]⟩,H,I1,⟨_,rfl⟩,⟨rfl,_,hx,rfl⟩,st',fun b hb=>(hf b hb).1⟩⟩
  rcases hT with rfl|rfl
  .exact wpAny_pyNext_ascii_item st hx fin
  .exact wpAny_pyNext_wide_item st hx fin
 done:=by
  intro X hP hw hK hc i pins s σ H E I hf st hg;subst hP hw hK;obtain ⟨f0,f1,f2,f3,f4,f5⟩:=hf it (by simp);have hx:x.cps[i]?=none:=by have h:x.cps.size<=i:=hg;simp[h]
  rcases hT with rfl|rfl
  .exact wpAny_pyNext_ascii_end (I.ok.hd hc) st hx fun h' eb=>⟨rfl,I.turned (t':=s.toks) (fun b o hb e=>eb b o hb e) f0 f1 f3 f4 f5⟩
  .exact wpAny_pyNext_wide_end (I.ok.hd hc) st hx fun h' eb=>⟨rfl,I.turned (t':=s.toks) (fun b o hb e=>eb b o hb e) f0 f1 f3 f4 f5⟩
 self:=fun _ _ _ _ _ st h=>by
  rcases hT with rfl|rfl
  .exact wpAny_pyIter_striter_ascii st h
  .exact wpAny_pyIter_striter_wide st h
theorem zjj {tg l:Expr} {tl:TE} (hl:PE X l tl):PI X tg l (fun σ H R=>tl σ H fun x H1=>(∃ t,x=.str t/\R (Its t) H1)\/∃ a,x=.ref a/\(((∃ xs,rW X.K H1 a xs)/\R (Itl X.K a) H1)\/((∃ xs,sP X.K H1 a xs)/\R (Itt X.K a) H1)\/∃ l,Rd H1 a (.dK l)/\∀ ob,(∀ ob',H1 a=some (.frz ob' (.dK l))->ob'=ob)->R (Itd a ob l) (xP H1 a (.frz ob (.dK l))))):=by
 intro pins s σ H R I h;refine xQ (hl pins s σ H _ I h) fun v s1 ⟨x,H1,I1,r1,q1⟩=>?_;rcases q1 with ⟨tx,e,q⟩|q1
 .subst e;obtain ⟨tk,rfl⟩:=r1
  have fin:∀ T,(T = "str_ascii_iterator" \/ T = "str_iterator")->∀ o:Obj,o.isFreed=false->o.cls=.type T->o.data=.fields #[.str tx tk,.int 0 0]->PIE X pins σ tg R (.ref s1.heap.objs.size) { s1 with heap:=s1.heap.push o }   := fun T hT o hz hc hd=>by
   refine ⟨s1.heap.objs.size,[s1.heap.objs.size],_,_,H1,rfl,I1.kept (t':=s1.toks) fun b o e=>Zb _ e,zed T hT tx tk _,⟨_,Zg _ hz,hc,hd⟩,fun b hb=>?_,q⟩;have e:b=s1.heap.objs.size:=by simpa using hb
   subst e;exact I1.fpOk (zzR _) (I1.hok.fresh (zzR _))
  cases hasc:tx.cps.all (· < 128)
  .exact wpAny_pyIter_wide hasc (fin _ (.inr rfl) _ rfl rfl rfl)
  .exact wpAny_pyIter_ascii hasc (fin _ (.inl rfl) _ rfl rfl rfl)
 obtain ⟨a,e,q1⟩:=q1;subst e;cases r1;rcases q1 with ⟨⟨xs,hq⟩,q⟩|⟨⟨xs,hq⟩,q⟩|⟨l,hq,q⟩
 rotate_left 2
 .exact zh7 I1 hq q
 .obtain ⟨its,rv,p,hz⟩:=I1.list hq;refine Zbs p.isList ?_;refine ⟨s1.heap.objs.size,[s1.heap.objs.size],_,_,H1,rfl,I1.kept (t':=s1.toks) fun b o e=>Zb _ e,zcf a _,⟨_,Zg _ rfl,rfl,rfl⟩,fun b hb=>?_,q⟩;have e:b=s1.heap.objs.size:=by simpa using hb
  subst e;exact I1.fpOk (zzR _) (I1.hok.fresh (zzR _))
 .obtain ⟨its,rv,p,hz⟩:=I1.tuple hq;refine wpAny_pyIter_tuple (show s1.heap.IsTuple a its.toArray from p) ?_;refine ⟨s1.heap.objs.size,[s1.heap.objs.size],_,_,H1,rfl,I1.kept (t':=s1.toks) fun b o e=>Zb _ e,zbD a _,⟨_,Zg _ rfl,rfl,rfl⟩,fun b hb=>?_,q⟩;have e:b=s1.heap.objs.size:=by simpa using hb
  subst e;exact I1.fpOk (zzR _) (I1.hok.fresh (zzR _))
theorem zka {K:yS} {x:Str} {H1:Hp}:ItIs K (Its x) H1 (sgs x) (fun _=>True) where
 go:=fun i H G _ ab st hi=>by
  have h:i<(sgs x).length:=hi;show i<x.cps.size;simpa[sgs] using h
 yld:=fun i H G v H' _ ab st hi y=>by
  obtain ⟨rfl,c,e,rfl⟩:=y;refine ⟨.str ⟨#[c]⟩,?_,.refl,rfl,ab⟩;simp[sgs,e]
 stop:=fun i H G _ ab st hi=>by
  have h:(sgs x).length<=i:=hi;show x.cps.size<=i;simpa[sgs] using h
theorem zkc {K:yS} {a:Addr} {H1:Hp} {ws:List W}:ItIs K (Itl K a) H1 ws (fun G=>yU G a=some ws) where
 go:=fun i H G _ ab st hi=>by
  obtain ⟨vs,sq,rs⟩:=ab.seq st;have hl:=rs.length;obtain ⟨v,e⟩:∃ v,vs[i]?=some v:=⟨vs[i]'(by omega),Zl _⟩;exact ⟨vs,v,sq,e⟩
 yld:=fun i H G x H' _ ab st hi y=>by
  obtain ⟨vs,sq,rs⟩:=ab.seq st;obtain ⟨e,y⟩:=y;subst e;obtain ⟨w,ew,rp⟩:=rs.get' (y vs sq);exact ⟨w,ew,.refl,rp,ab⟩
 stop:=fun i H G _ ab st hi=>by
  obtain ⟨vs,sq,rs⟩:=ab.seq st;exact ⟨vs,sq,by rw[rs.length];exact hi⟩
theorem zj9 {K:yS} {a:Addr} {H1:Hp} {ws:List W} {vs:List V} (sq:sP K H1 a vs) (rs:zG K H1 ws vs):ItIs K (Itt K a) H1 ws (fun _=>True) where
 go:=fun i H G g ab st hi=>by
  have hl:=rs.length;obtain ⟨v,e⟩:∃ v,vs[i]?=some v:=⟨vs[i]'(by omega),Zl _⟩;exact ⟨vs,v,g.1 _ _ sq,e⟩
 yld:=fun i H G x H' g ab st hi y=>by
  obtain ⟨e,y⟩:=y;subst e;obtain ⟨w,ew,rp⟩:=(rs.mono g).get' (y vs (g.1 _ _ sq));exact ⟨w,ew,.refl,rp,ab⟩
 stop:=fun i H G g ab st hi=>⟨vs,g.1 _ _ sq,by rw[rs.length];exact hi⟩
theorem xR.rdD {K:yS} {H:Hp} {G:Hw} {p:Addr} {kvs:List (yM×W)} (ab:xR K H G) (e:jK G p=some kvs):∃ l,Rd H p (.dK l)/\yQ K H kvs l:=by
 unfold jK at e
 split at e
 .rename_i q;cases e;obtain ⟨u,e',l,rfl,r⟩:=ab p _ q;exact ⟨l,.inl e',r⟩
 .rename_i q;cases e;obtain ⟨u,e',ob,l,rfl,r⟩:=ab p _ q;exact ⟨l,.inr ⟨ob,e'⟩,r⟩
 .cases e
theorem xR.freeze {K:yS} {H:Hp} {G:Hw} {p:Addr} {kvs:List (yM×W)} {l:List (yM×V)} {ob:Obj} (ab:xR K H G) (e:jK G p=some kvs) (hl:Rd H p (.dK l)) (rk:yQ K H kvs l) :
  (∀ ob',H p=some (.frz ob' (.dK l))->ob'=ob)->yO K H (xP H p (.frz ob (.dK l)))/\xR K (xP H p (.frz ob (.dK l))) (put G p (.fzd kvs)):=by
 intro same;unfold jK at e
 split at e
 .rename_i q;cases e;have g:yO K H (xP H p (.frz ob (.dK l))):=ab.grow q;exact ⟨g,ab.chg q ⟨ob,l,rfl,rk.mono g⟩⟩
 .rename_i q;cases e;obtain ⟨u,e',ob2,l2,rfl,r⟩:=ab p _ q
  have hp:H p=some (.frz ob (.dK l)):=by
   rcases hl with h|⟨o,h⟩
   .rw[h] at e';cases e'
   .rw[h,same o h]
  rw[vC hp];refine ⟨.refl,fun b o z=>?_⟩
  by_cases hb:b=p
  .subst hb;rw[zW] at z;cases z;exact ⟨_,hp,ob,l,rfl,rk⟩
  .rw[xJ hb] at z;exact ab b o z
 .cases e
theorem yQ.keyAt {K:yS} {H:Hp} {κ:Type}:∀ {l:List (κ×W)} {l':List (κ×V)} {i:Nat} {p:κ×V},yQ K H l l'->l'[i]?=some p->∃ w,l[i]?=some (p.1,w)
 | [],_,i,p,h,e=>by rw[show _=[] from h] at e;simp at e
 | (k,w)::_,_,0,p,⟨v,t,e,h,r⟩,q=>by subst e;simp at q;subst q;exact ⟨w,rfl⟩
 |_::_,_,i+1,p,⟨v,t,e,h,r⟩,q=>by
  subst e;obtain ⟨w,h1⟩:=yQ.keyAt (i:=i) (p:=p) r (by simpa using q);exact ⟨w,by simpa using h1⟩
theorem zj2 {K:yS} {H:Hp} (k:yM):wO K H (kW k) (kV k):=by
 cases k<;>rfl
theorem zkf {K:yS} {d:Addr} {ob:Obj} {l:List (yM×V)} {H1:Hp} {kvs:List (yM×W)} (e:H1 d=some (.frz ob (.dK l))) (rk:yQ K H1 kvs l):ItIs K (Itd d ob l) H1 (kvs.map fun kv=>kW kv.1) (fun G=>G d=some (.fzd kvs)) where
 go:=fun i H G g ab st hi=>⟨g.2 _ _ True.intro e,by rw[rk.length];simpa using hi⟩
 yld:=fun i H G x H' g ab st hi y=>by
  obtain ⟨e1,p,e2,e3⟩:=y;subst e1;subst e3;obtain ⟨w,ew⟩:=rk.keyAt e2;exact ⟨kW p.1,by rw[Zm,ew];rfl,.refl,zj2 _,ab⟩
 stop:=fun i H G g ab st hi=>⟨g.2 _ _ True.intro e,by rw[rk.length];simpa using hi⟩
theorem zjk {tg x:Expr} {e:E3} (m:wI e) (h:PE X x (xO X.K e)):PI X tg x (lowI X.K fun σ G R=>e σ G fun w G1=>qI w G1 R):=by
 intro pins s σ H R I q;refine zjj h pins s σ H R I ?_;obtain ⟨σ3,G,hs,ha,q⟩:=q;refine xH m hs ha q fun w G1 v H1 gr hs1 rp ab q=>?_
 cases w with
 |tup ws =>
  obtain ⟨a,vs,rfl,sq,rs⟩:=rp;exact .inr ⟨a,rfl,.inr (.inl ⟨⟨vs,sq⟩,q _ H1 gr ab (zj9 sq rs)⟩)⟩
 |ref p =>
  cases rp;simp only[qI] at q
  split at q
  .rename_i ws e;obtain ⟨vs,sq,rs⟩:=ab.seq e;exact .inr ⟨p,rfl,.inl ⟨⟨vs,sq⟩,q _ H1 gr ab zkc⟩⟩
  .split at q
   .rename_i kvs e;obtain ⟨l,hl,rk⟩:=ab.rdD e;refine .inr ⟨p,rfl,.inr (.inr ⟨l,hl,fun ob same=>?_⟩)⟩;obtain ⟨g2,a2⟩:=ab.freeze (ob:=ob) e hl rk same;exact q _ _ (gr.trans g2) a2 (zkf (yD) (rk.mono g2))
   .exact q.elim
 |str t =>
  cases rp;exact .inl ⟨t,rfl,q _ H1 gr ab zka⟩
 |_=>exact q.elim
def lowG (K:yS) (t:G3):TG:=fun v τ H Q=>∃ w σ G,wO K H w v/\yT K H σ τ/\xR K H G/\t w σ G fun σ' G'=>∀ τ' H',yO K H H'->yT K H' σ' τ'->xR K H' G'->Q τ' H'
def lowGs (K:yS) (t:Gs3):TGs:=fun vs τ H Q=>∃ ws σ G,zG K H ws vs/\yT K H σ τ/\xR K H G/\t ws σ G fun σ' G'=>∀ τ' H',yO K H H'->yT K H' σ' τ'->xR K H' G'->Q τ' H'
theorem _root_.L2.PG.imp {tg:Expr} {t t':TG} (h:PG X tg t) (k:∀ v σ H Q,t' v σ H Q->t v σ H Q):PG X tg t':=fun pins s σ H v u Q I r q=>h pins s σ H v u Q I r (k v σ H Q q)
theorem _root_.L2.PGs.imp {tg:List Expr} {t t':TGs} (h:PGs X tg t) (k:∀ v σ H Q,t' v σ H Q->t v σ H Q):PGs X tg t':=fun pins s σ H v u Q I r q=>h pins s σ H v u Q I r (k v σ H Q q)
theorem dP {e:Expr} {es:List Expr} {env:Env} (h:noStar e=true):assignEach (e::es) env=(false,assign e env)::assignEach es env:=by
 cases e<;>first|rfl|exact absurd h zzN
end
def MonoG (t:G3):Prop:=∀ w σ G (Q Q':xE->Hw->Prop),(∀ a b,Q a b->Q' a b)->t w σ G Q->t w σ G Q'
def zkR (t:Gs3):Prop:=∀ w σ G (Q Q':xE->Hw->Prop),(∀ a b,Q a b->Q' a b)->t w σ G Q->t w σ G Q'
mutual
theorem sE:∀ t:ITg,MonoG (zT t)
 | .nm i=>fun w σ G Q Q' k h=>k _ _ h
 | .tup ts=>fun w σ G Q Q' k h=>by
  cases w with
  |tup ws=>exact gM ts ws σ G Q Q' k h
  |_=>exact h.elim
theorem gM:∀ ts:ITgs,zkR (zZ ts)
 | .nil=>fun w σ G Q Q' k h=>by
  cases w with
  |nil=>exact k _ _ h
  |cons _ _=>exact h.elim
 | .cons t ts=>fun w σ G Q Q' k h=>by
  cases w with
  |nil=>exact h.elim
  |cons x r=>exact sE t x σ G _ _ (fun σ' G' h=>gM ts r σ' G' Q Q' k h) h
end
theorem zc3 {Γ:Ctx3} {M:MC} {p:Par} {X:Cx} (L:Lk Γ M p X) {x:Str} (h:locB M x=true):Loc X.env.scope x/\(X.fn x=true\/X.env.scope.names.lookup x=some .local):=by
 unfold locB at h;rw[L.sc]
 split at h
 .rename_i e;exact ⟨.inl e,.inr e⟩
 .rename_i e;exact ⟨.inr e,.inl (L.own x h)⟩
 .exact absurd h zzN
mutual
theorem sndG {Γ:Ctx3} {M:MC} {p:Par} {X:Cx} (L:Lk Γ M p X):∀ (t:ITg) (x:Expr),mG M t x=true->PG X x (lowG X.K (zT t))
  | .nm i,x,h=>by
   cases x with
   |Name y q =>
    replace h:=rY h;have lo:=zc3 L h.2;refine (zg9 (i:=i) (L.N▸L.nd) (by rw[L.N];exact xS h.1) lo.1 lo.2).imp fun v σ H Q q=>?_;obtain ⟨w,σ3,G,rp,hs,ab,q⟩:=q;exact q _ _ .refl (hs.set rp i) ab
   |_=>exact absurd h zzN
  | .tup ts,x,h=>by
   cases x with
   |Tuple es k q =>
    skip
    obtain ⟨ps,hn,hst⟩:=zgM L ts es h;refine (zf0 (n:=es.length) L.fits.calm ps hn hst).imp fun v σ H Q q=>?_;obtain ⟨w,σ3,G,rp,hs,ab,q⟩:=q
    cases w with
    |tup ws =>
      obtain ⟨a,vs,rfl,sq,rs⟩:=rp;refine ⟨a,vs,rfl,sq,?_,ws,σ3,G,rs,hs,ab,q⟩;rw[rs.length];exact ze2 ts es ws σ3 G _ h q
    |_=>exact q.elim
   |_=>exact absurd h zzN
theorem zgM {Γ:Ctx3} {M:MC} {p:Par} {X:Cx} (L:Lk Γ M p X):∀ (ts:ITgs) (xs:List Expr),mGs M ts xs=true->PGs X xs (lowGs X.K (zZ ts))/\(assignEach xs X.env).length=xs.length/\(assignEach xs X.env).findIdx? (·.1)=none
 | .nil,[],_=>⟨(zg8).imp fun vs σ H Q q=>by
   obtain ⟨ws,σ3,G,rs,hs,ab,q⟩:=q
   cases ws with
   |nil=>exact ⟨rs,q _ _ .refl hs ab⟩
   |cons _ _=>exact q.elim,rfl,rfl⟩
 | .cons t ts,x::xs,h=>by
  simp only[mGs,Zh] at h;obtain ⟨ps,hn,hst⟩:=zgM L ts xs h.2;have es:=dP (es:=xs) (env:=X.env) h.1.1;refine ⟨(zeO (sndG L t x h.1.2) ps (by rw[es];rfl)).imp fun vs σ H Q q=>?_,by rw[es,Zf,Zf,hn],?_⟩
  .obtain ⟨ws,σ3,G,rs,hs,ab,q⟩:=q
   cases ws with
   |nil=>exact q.elim
   |cons w r =>
    obtain ⟨v,vr,e,rp,rr⟩:=rs;refine ⟨v,vr,e,w,σ3,G,rp,hs,ab,sE t w σ3 G _ _ (fun σ' G' q τ' H' g' hs' ab'=>?_) q⟩;exact ⟨r,σ',G',rr.mono g',hs',ab',gM ts r σ' G' _ _ (fun σ2 G2 q τ2 H2 g2=>q τ2 H2 (g'.trans g2)) q⟩
  .rw[es,List.findIdx?_cons];simp only[zzB,if_false,hst];rfl
theorem ze2 {M:MC}:∀ (ts:ITgs) (xs:List Expr) (ws:List W) (σ:xE) (G:Hw) (Q:xE->Hw->Prop),mGs M ts xs=true->zZ ts ws σ G Q->ws.length=xs.length
 | .nil,[],ws,σ,G,Q,_,q=>by
  cases ws with
  |nil=>rfl
  |cons _ _=>exact q.elim
 | .cons t ts,x::xs,ws,σ,G,Q,h,q=>by
  simp only[mGs,Zh] at h
  cases ws with
  |nil=>exact q.elim
  |cons w r =>
   have:∃ σ' G',zZ ts r σ' G' Q:=exG t w σ G _ q;obtain ⟨σ',G',q'⟩:=this;rw[Zf,Zf,ze2 ts xs r σ' G' Q h.2 q']
theorem exG:∀ (t:ITg) (w:W) (σ:xE) (G:Hw) (Q:xE->Hw->Prop),zT t w σ G Q->∃ σ' G',Q σ' G'
 | .nm i,w,σ,G,Q,q=>⟨_,_,q⟩
 | .tup ts,w,σ,G,Q,q=>by
  cases w with
  |tup ws=>exact exGs ts ws σ G Q q
  |_=>exact q.elim
theorem exGs:∀ (ts:ITgs) (ws:List W) (σ:xE) (G:Hw) (Q:xE->Hw->Prop),zZ ts ws σ G Q->∃ σ' G',Q σ' G'
 | .nil,ws,σ,G,Q,q=>by
  cases ws with
  |nil=>exact ⟨_,_,q⟩
  |cons _ _=>exact q.elim
 | .cons t ts,ws,σ,G,Q,q=>by
  cases ws with
  |nil=>exact q.elim
  |cons w r =>
   obtain ⟨σ',G',q'⟩:=exG t w σ G _ q;exact exGs ts r σ' G' Q q'
end
def lowO (K:yS) (t:xE->Hw->(Option Int->Hw->Prop)->Prop):TO:=fun τ H Q=>∃ σ G,yT K H σ τ/\xR K H G/\t σ G fun o G'=>∀ H',yO K H H'->xR K H' G'->Q o H'
theorem _root_.L2.PO.imp {X:Cx} {e:Option Expr} {t t':TO} (h:PO X e t) (k:∀ σ H Q,t' σ H Q->t σ H Q):PO X e t':=fun pins s σ H Q I q=>h pins s σ H Q I (k σ H Q q)
theorem _root_.L2.PTs.imp {X:Cx} {e:List Expr} {t t':TT} (h:PTs X e t) (k:∀ σ H Q,t' σ H Q->t σ H Q):PTs X e t':=fun pins s σ H Q I q=>h pins s σ H Q I (k σ H Q q)
theorem _root_.L2.PI.imp {X:Cx} {tg x:Expr} {t t':TI} (h:PI X tg x t) (k:∀ σ H R,t' σ H R->t σ H R):PI X tg x t':=fun pins s σ H R I q=>h pins s σ H R I (k σ H R q)
def capV (k:Nat) (caps:List Nat) (σ:L2.St):L2.St:=List.replicate k none++caps.map fun j=>(σ[j]?).join
theorem nF {α:Type} {k:Nat} {caps:List Nat} {σ:List (Option α)} {i:Nat} {v:α} (h:(List.replicate k none++caps.map fun j=>(σ[j]?).join)[i]?=some (some v)):k<=i/\∃ j,caps[i-k]?=some j/\σ[j]?=some (some v):=by
 by_cases hi:i<k
 .rw[ZaB (by simpa using hi),Zbi,if_pos hi] at h;cases h
 .rw[Zac (by simpa using hi),Zbv,Zm] at h;refine ⟨by omega,?_⟩
  cases e:caps[i-k]? with
  |none=>rw[e] at h;cases h
  |some j =>
   rw[e] at h;have h':(σ[j]?).join=some v:=Zx h;refine ⟨j,rfl,?_⟩
   cases q:σ[j]? with
   |none=>rw[q] at h';cases h'
   |some o=>rw[q] at h';exact congrArg some h'
theorem zdS {K:yS} {H:Hp} {σ:xE} {τ:L2.St} (h:yT K H σ τ) (k:Nat) (caps:List Nat):yT K H (qT k caps σ) (capV k caps τ):=by
 refine ⟨by simp[qT,capV],fun i w e=>?_⟩;obtain ⟨hk,j,ej,es⟩:=nF e;obtain ⟨v,ev,rp⟩:=h.2 j w es;refine ⟨v,?_,rp⟩;unfold capV;rw[Zac (by simpa using hk),Zbv,Zm,ej];simp[ev]
theorem gU:∀ {l:List Str},rF l=true->l.Nodup
 | [],_=>List.nodup_nil
 |x::r,h=>by
  simp only[rF,Zh,ZaG] at h;refine Za2.mpr ⟨fun hm=>?_,gU h.2⟩;have:=List.elem_eq_true_of_mem hm;rw[List.contains_eq_mem] at h;simp[hm] at h
theorem zcI {X:Cx} {sc out:Scope} (e:X.env.scope=out):relabel sc X.env=relS sc out:=by
 unfold relabel relS Env.kindOf;rw[e]
theorem zbz {X:Cx} {sc out:Scope} (e:X.env.scope=out) (h:blkB out sc=true):BlkSc X sc:=by
 unfold blkB at h;simp only[Zh,ZC] at h;obtain ⟨⟨⟨h1,h2⟩,h3⟩,h4⟩:=h;refine ⟨eq_of_beq h1,fun y hy=>?_,fun y hy=>?_,fun x hx=>?_,fun y hy z=>?_⟩
 .simpa using (h2 _ hy).1
 .simpa using (h2 _ hy).2
 .have:=h3 _ hx;simp only[beq_self_eq_true,Zu,Zcz,Bool.or_eq_true,beq_iff_eq] at this;show X.env.scope.names.lookup x=_\/X.env.scope.names.lookup x=_;rw[e];exact this
 .have:=h4 y hy;rw[z] at this;simpa using this
theorem bP {X:Cx} {M:MC} {sc:Scope} {names:List Str} {caps:List Nat} (eN:X.N=M.N) (es:X.env.scope=M.sc)
  (h:(caps.all fun j=>decide (j<M.N.length)&&(sc.names.lookup (M.N.getD j Str.empty)==some .free))=true) :
  Caps X sc (names++caps.map (fun j=>M.N.getD j Str.empty)) (capV names.length caps):=by
 intro σ hl;simp only[ZC,Zh,decide_eq_true_eq,ZaG] at h;refine ⟨by simp[capV],fun i x v hN hσ _=>?_⟩;obtain ⟨hk,j,ej,e⟩:=nF hσ;rw[Zac hk,Zm,ej] at hN;have hx:M.N.getD j Str.empty=x:=Zx hN;have hj:=h j (Zr ej);refine ⟨?_,j,?_,e⟩
 .rw[← hx];exact eq_of_beq hj.2
 .rw[eN,← hx,List.getD_eq_getElem?_getD,Zl hj.1];rfl
theorem zgb {K:yS} {J:It} {H1:Hp} {items:List W} {stab:Hw->Prop} {G1:Hw} {σ:xE} {τ:L2.St} {tg:ITg} {c:T3} {e:E3} {Q:VK} {H0:Hp} (mc:uL c) (me:wI e) (it:ItIs K J H1 items stab) (ab:xR K H1 G1) (hs:yT K H1 σ τ) (g0:yO K H0 H1)
  (hw:∀ w G' (Q:xE->Hw->Prop),zT tg w σ G' Q->zT tg w σ G' fun σ2 G2=>(σ2.length=σ.length/\∀ (i:Nat) (v:W),σ[i]?=some (some v)->σ2[i]?=some (some v))/\Q σ2 G2)
  (h:lcR items stab G1 (fun w G' K=>zT tg w σ G' fun σ2 G2=>c σ2 G2 fun b G3=>if b=true then e σ2 G3 fun x G4=>K (some x) G4 else K none G3) (jE K H0 Q)) :
  tLCb J τ (lowG K (zT tg)) (qK K c) (fun τ H Q=>yO K H0 H/\xO K e τ H Q) (fun acc H'=>∀ p,H' p=none->Q (.ref p) (xP H' p (.lst acc))) H1:=by
 obtain ⟨Pv,p0,pst,hlen,step,fin⟩:=h;refine ⟨fun i m τ acc H=>m+i=items.length/\yO K H1 H/\yT K H σ τ/\∃ ws G,zG K H ws acc/\xR K H G/\Pv i ws G,⟨items.length,rfl,.refl,hs,[],G1,rfl,ab,p0⟩,?_⟩;rintro i m τ acc H ⟨hm,gr,hs,ws,G,rs,a,pv⟩;have hst:=pst i ws G pv (by omega);have hacc:acc.length=ws.length:=rs.length
 by_cases hi:i<items.length
 .refine .inr ⟨it.go i H G gr a hst.1 hi,by omega,fun x H' y=>?_⟩;obtain ⟨w,ew,g1,rp,a1⟩:=it.yld i H G x H' gr a hst.1 hi y;refine ⟨w,σ,G,rp,hs.mono g1,a1,sE tg w σ G _ _ (fun σ2 G2 q τ2 H2 g2 hs2 a2=>?_) (hw w G _ (step i w ws G ew pv))⟩;obtain ⟨⟨wl,wk⟩,q⟩:=q;have back:∀ {τ':L2.St} {H':Hp},yT K H' σ2 τ'->yT K H' σ τ':=fun {τ' H'} r=>⟨by rw[← wl];exact r.1,fun k w e=>r.2 k w (wk k w e)⟩;refine fJ mc hs2 a2 q fun b G3 H3 g3 hs3 a3 q3=>?_
  cases b with
  |true =>
   rw[if_pos rfl] at q3 ⊢;refine ⟨g0.trans (gr.trans (g1.trans (g2.trans g3))),xH me hs3 a3 q3 fun x G4 v H4 g4 hs4 rx a4 q4=>?_⟩;refine ⟨m-1,by omega,by omega,gr.trans (g1.trans (g2.trans (g3.trans g4))),back hs4,ws++[x],G4,?_,a4,q4⟩;exact (rs.mono (g1.trans (g2.trans (g3.trans g4)))).append ⟨v,[],rfl,rx,rfl⟩
  |false =>
   rw[if_neg (by decide)] at q3 ⊢;exact ⟨m-1,by omega,by omega,gr.trans (g1.trans (g2.trans g3)),back hs3,ws,G3,rs.mono (g1.trans (g2.trans g3)),a3,q3⟩
 .refine .inl ⟨it.stop i H G gr a hst.1 (by omega),fun p hp=>?_⟩;have ei:i=items.length:=by omega
  subst ei;exact fin ws G pv p (a.free hp) _ _ ((g0.trans gr).trans (xI hp)) rfl (a.new hp ⟨acc,rfl,rs.mono (xI hp)⟩)
theorem cX:∀ (tg:ITg) (w:W) (σ:xE) (G:Hw) (Q:xE->Hw->Prop),zT tg w σ G Q->zT tg w σ G fun σ2 G2=>σ2.length=σ.length/\Q σ2 G2:=by
 intro tg
 refine ITg.rec (motive_1:=fun _=>True) (motive_2:=fun _=>True) (motive_3:=fun _=>True) (motive_4:=fun _=>True) (motive_5:=fun tg=>∀ (w:W) (σ:xE) (G:Hw) (Q:xE->Hw->Prop),zT tg w σ G Q->zT tg w σ G fun σ2 G2=>σ2.length=σ.length/\Q σ2 G2)
  (motive_6:=fun ts=>∀ (ws:List W) (σ:xE) (G:Hw) (Q:xE->Hw->Prop),zZ ts ws σ G Q->zZ ts ws σ G fun σ2 G2=>σ2.length=σ.length/\Q σ2 G2)
  ?_ ?_ ?_ ?_ ?_ ?_ ?_ ?_ ?_ ?_ ?_ ?_ ?_ ?_ ?_ ?_ ?_ ?_ ?_ ?_ ?_ ?_ ?_ ?_ ?_ ?_ ?_ ?_ ?_ ?nm ?tup ?nil ?cons tg
 case nm=>exact fun i w σ G Q h=>⟨by simp,h⟩
 case tup =>
  intro ts ih w σ G Q h
  cases w with
  |tup ws=>exact ih ws σ G Q h
  |_=>exact h.elim
 case nil =>
  intro ws σ G Q h
  cases ws with
  |nil=>exact ⟨rfl,h⟩
  |cons _ _=>exact h.elim
 case cons =>
  intro t ts ht hts ws σ G Q h
  cases ws with
  |nil=>exact h.elim
  |cons w r =>
   refine sE t w σ G _ _ (fun σ' G' q=>?_) (ht w σ G _ h);exact gM ts r σ' G' _ _ (fun σ2 G2 q2=>⟨q2.1.trans q.1,q2.2⟩) (hts r σ' G' Q q.2)
 all_goals intros;trivial
mutual
theorem mB:∀ (tg:ITg) (w:W) (σ:xE) (G:Hw) (Q:xE->Hw->Prop),zT tg w σ G Q->zT tg w σ G fun σ2 G2=>(∀ i,i∉tgIx tg->σ2[i]?=σ[i]?)/\Q σ2 G2
 | .nm j,w,σ,G,Q,h=>⟨fun i hi=>by rw[Zao];intro z;exact hi (by simp[tgIx,z]),h⟩
 | .tup ts,w,σ,G,Q,h=>by
  cases w with
  |tup ws=>exact cY ts ws σ G Q h
  |_=>exact h.elim
theorem cY:∀ (ts:ITgs) (ws:List W) (σ:xE) (G:Hw) (Q:xE->Hw->Prop),zZ ts ws σ G Q->zZ ts ws σ G fun σ2 G2=>(∀ i,i∉zeg ts->σ2[i]?=σ[i]?)/\Q σ2 G2
 | .nil,ws,σ,G,Q,h=>by
  cases ws with
  |nil=>exact ⟨fun _ _=>rfl,h⟩
  |cons _ _=>exact h.elim
 | .cons t ts,ws,σ,G,Q,h=>by
  cases ws with
  |nil=>exact h.elim
  |cons w r =>
   refine sE t w σ G _ _ (fun σ' G' q=>?_) (mB t w σ G _ h);refine gM ts r σ' G' _ _ (fun σ2 G2 q2=>⟨fun i hi=>?_,q2.2⟩) (cY ts r σ' G' Q q.2);simp only[zeg,ZE,not_or] at hi;rw[q2.1 i hi.2,q.1 i hi.1]
end
theorem zdJ {K:yS} {H:Hp}:∀ (ks:List Str) {ws:List W} {vs:List V} {a:List (yM×W)} {b:List (yM×V)},zG K H ws vs->yQ K H a b ->
  yQ K H ((ks.zip ws).foldl (fun acc kv=>qH acc (.inr kv.1) kv.2) a) (((ks.zip vs).map fun kv=>((Sum.inr kv.1:yM),kv.2)).foldl (fun acc kv=>vF acc kv.1 kv.2) b)
 | [],ws,vs,a,b,_,h=>by simpa using h
 |k::ks,[],vs,a,b,hr,h=>by rw[show vs=[] from hr];simpa using h
 |k::ks,w::ws,vs,a,b,hr,h=>by
  obtain ⟨v,r,e,rw',rr⟩:=hr;subst e;simp only[Zbk,List.foldl_cons,zzU];exact zdJ ks rr (h.put rw')
theorem zfK {K:yS} {H:Hp} {G:Hw} {w:W} {v:V} {T:String} (r:wO K H w v) (ab:xR K H G) (h:tyW G w T):tyV K T v H:=by
 cases w with
 |str x=>cases r;exact h
 |ref p =>
  cases r;simp only[tyW] at h
  split at h
  .rename_i ws e;obtain ⟨vs,q,_⟩:=ab.lst e;exact .inl ⟨h,vs,.of q⟩
  .rename_i ws e;obtain ⟨vs,q,_⟩:=ab.seq (a:=p) (ws:=ws) (by unfold yU;rw[e]);exact .inl ⟨h,vs,q⟩
  .rename_i kvs e;obtain ⟨l,q,_⟩:=ab.dic e;exact .inr (.inr (.inl ⟨h,.inl ⟨l,q⟩⟩))
  .exact h.elim
 |_=>exact h.elim
theorem zc0 {l:List Nat} {k:Nat} (h:l.all (fun i=>decide (i<k))=true) {i:Nat} (hi:k<=i):i∉l:=fun hm=>by
 have:=ZC.mp h i hm;simp at this;omega
theorem zhC {op:CmpOp} {a b:IE} {M:MC} {l:Expr} {os:List CmpOp} {rs:List Expr} {q:Pos} (h:mE (.cmp op a b) M (.Compare l os rs q)=true):∃ o r,os=[o]/\rs=[r]:=by
 cases os with
 |nil=>exact absurd h zzN
 |cons o os =>
  cases os with
  |cons _ _=>exact absurd h zzN
  |nil =>
   cases rs with
   |nil=>exact absurd h zzN
   |cons r rs =>
    cases rs with
    |cons _ _=>exact absurd h zzN
    |nil=>exact ⟨o,r,rfl,rfl⟩
theorem zhD {o1 o2:CmpOp} {a b c:IE} {M:MC} {l:Expr} {os:List CmpOp} {rs:List Expr} {q:Pos} (h:mE (.chn o1 o2 a b c) M (.Compare l os rs q)=true):∃ p1 p2 r t,os=[p1,p2]/\rs=[r,t]:=by
 cases os with
 |nil=>exact absurd h zzN
 |cons p1 os =>
  cases os with
  |nil=>exact absurd h zzN
  |cons p2 os =>
   cases os with
   |cons _ _=>exact absurd h zzN
   |nil =>
    cases rs with
    |nil=>exact absurd h zzN
    |cons r rs =>
     cases rs with
     |nil=>exact absurd h zzN
     |cons t rs =>
      cases rs with
      |cons _ _=>exact absurd h zzN
      |nil=>exact ⟨p1,p2,r,t,rfl,rfl⟩
section
variable {X:Cx} {a b c d:Expr} {pos:Pos} {ta tb tc td:TE}
end
section
variable {Γ:Ctx3} {p:Par} (g:Good Γ p)
def qY (Γ:Ctx3) (p:Par) (e:IE):Prop:=∀ M X x,Lk Γ M p X->mE e M x=true->PE X x (xO X.K (zH Γ XN e).e)/\PT X x (qK X.K (zH Γ XN e).t)/\∀ op vs pos,x=.BoolOp op vs pos->PW X x (qK X.K (zH Γ XN e).t)
def OkO (Γ:Ctx3) (p:Par) (o:IO):Prop:=∀ M X,Lk Γ M p X->(∀ x,mO o M x=true->PO X x (lowO X.K (zL Γ XN o)))/\∀ xs,mC o M xs=true->PTs X xs (qK X.K (zO Γ o))
def OkA (Γ:Ctx3) (p:Par) (es:IEs):Prop:=∀ M X xs,Lk Γ M p X->mA es M xs=true->PA X xs (uV X.K (zU Γ XN es))/\xs.all noStar=true /\
 (∀ ks keys pos,keyB ks keys=true->keys.length=xs.length->keys.all (·.isSome)=true/\ks.length=keys.length/\∃ trs,PPs X pos keys xs trs/\∀ τ H (Q:List (V×V)->Hp->Prop),
  (∃ σ G,yT X.K H σ τ/\xR X.K H G/\zU Γ XN es σ G fun ws G'=>∀ vs H',yO X.K H H'->zG X.K H' ws vs->xR X.K H' G'->Q ((ks.zip vs).map fun kv=>(V.str kv.1,kv.2)) H')->bA trs τ H Q)/\pA X xs (semL Γ es)
def OkI (Γ:Ctx3) (p:Par) (it:II):Prop:=∀ M X x,Lk Γ M p X->mI it M x=true->∀ tg,PI X tg x (lowI X.K (zR Γ XN it))
theorem jP {M:MC} {X:Cx} {x:Expr} {e:E3} (m:wI e) (h:PE X x (xO X.K e)) (he:∀ whole,isTrue x X.env whole=(do let v ← whole;standAt x.pos;holding [v] (truthy v))) (hb:∀ op vs pos,x≠.BoolOp op vs pos) :
  PE X x (xO X.K (zD e).e)/\PT X x (qK X.K (zD e).t)/\∀ op vs pos,x=.BoolOp op vs pos->PW X x (qK X.K (zD e).t) :=
 ⟨h,pt_of m h he,fun op vs pos z=>absurd z (hb op vs pos)⟩
include g
theorem s_var (i:Nat):qY Γ p (.var i):=by
 intro M X x L h
 cases x with
 |Name y q =>
  replace h:=bd4 h;simp only[ZaG] at h;refine jP (M:=M) (yW g.mono XN (.var i)) ((zf1 (i:=i) (by rw[L.N];exact xS h.1.1.1) (by rw[L.sc];exact zis h.1.1.2) h.1.2 h.2).imp fun τ H Q q=>?_) (fun _=>rfl) (fun _ _ _ z=>nomatch z);obtain ⟨σ,G,hs,ab,q⟩:=q
  split at q
  .rename_i w e;obtain ⟨v,ev,rp⟩:=hs.2 i w e;exact ⟨v,ev,q v H .refl rp ab⟩
  .exact q.elim
 |_=>exact absurd h zzN
theorem s_con (c:Const):qY Γ p (.con c):=by
 intro M X x L h
 cases x with
 |Constant d k q =>
  replace h:=of_decide_eq_true h;subst h;refine jP (M:=M) (yW g.mono XN (.con c)) ?_ (fun _=>rfl) (fun _ _ _ z=>nomatch z)
  cases c with
  |none=>exact zjo.imp fun τ H Q q=>by obtain ⟨σ,G,hs,ab,q⟩:=q;exact q _ H .refl rfl ab
  |bool b=>exact pe_bl.imp fun τ H Q q=>by obtain ⟨σ,G,hs,ab,q⟩:=q;exact q _ H .refl rfl ab
  |int b=>exact zf5.imp fun τ H Q q=>by obtain ⟨σ,G,hs,ab,q⟩:=q;exact q _ H .refl rfl ab
  |str b=>exact zf3.imp fun τ H Q q=>by obtain ⟨σ,G,hs,ab,q⟩:=q;exact q _ H .refl rfl ab
  |_=>exact fun pins s σ H Q I q=>by obtain ⟨σ,G,hs,ab,q⟩:=q;exact q.elim
 |_=>exact absurd h zzN
theorem s_glb (i:Nat):qY Γ p (.glb i):=by
 intro M X x L h
 cases x with
 |Name y q =>
  replace h:=rY h;have gl:=uR L.sc h.2;have hi:=xS h.1;rw[← L.gls] at hi;obtain ⟨e,ei,rfl⟩:=jC hi;refine jP (M:=M) (yW g.mono XN (.glb i)) ((g.gl e (wC ei) X L.fits gl.1 q gl.2.1 gl.2.2).imp fun τ H Q q=>?_) (fun _=>rfl) (fun _ _ _ z=>nomatch z);obtain ⟨σ,G,hs,ab,q⟩:=q;simp only[ei] at q;exact ⟨σ,G,hs,ab,q⟩
 |_=>exact absurd h zzN
theorem hu_X {M:MC} {X:Cx} (L:Lk Γ M p X):X.A.units+200<cLine:=by rw[L.fits.A];exact g.un
theorem s_bin (op:Operator) (a b:IE) (ha:qY Γ p a) (hb:qY Γ p b):qY Γ p (.bin op a b):=by
 intro M X x L h
 cases x with
 |BinOp l o r q =>
  replace h:=bd3 h;simp only[decide_eq_true_eq] at h;obtain ⟨⟨rfl,h1⟩,h2⟩:=h;exact jP (M:=M) (yW g.mono XN (.bin op a b)) ((pe_op (zkG op) (ha M X l L h1).1 (hb M X r L h2).1).imp fun τ H Q q=>zbc (yW g.mono XN a) (yW g.mono XN b) (bJ op) q) (fun _=>rfl) (fun _ _ _ z=>nomatch z)
 |_=>exact absurd h zzN
theorem s_neg (a:IE) (ha:qY Γ p a):qY Γ p (.neg a):=by
 intro M X x L h
 cases x with
 |UnaryOp o l q =>
  cases o with
  |USub =>
   skip
   refine jP (M:=M) (yW g.mono XN (.neg a)) ((zjl zfJ (ha M X l L h).1).imp fun τ H Q q=>?_) (fun _=>rfl) (fun _ _ _ z=>nomatch z);obtain ⟨σ,G,hs,ab,q⟩:=q;refine xH (yW g.mono XN a) hs ab q fun w G1 v H1 gr _ rp ab q=>?_
   cases w with
   |int i=>cases rp;exact ⟨i,rfl,q _ H1 gr rfl ab⟩
   |_=>exact q.elim
  |_=>exact absurd h zzN
 |_=>exact absurd h zzN
theorem s_not (a:IE) (ha:qY Γ p a):qY Γ p (.not a):=by
 intro M X x L h
 cases x with
 |UnaryOp o l q =>
  cases o with
  |Not =>
   skip
   refine ⟨(zjn (ha M X l L h).1).imp fun τ H Q q=>?_,(zjd (ha M X l L h).2.1).imp fun τ H Q q=>?_,fun _ _ _ z=>nomatch z⟩
   .obtain ⟨σ,G,hs,ab,q⟩:=q;refine xH (yW g.mono XN a) hs ab q fun w G1 v H1 gr _ rp ab q=>?_
    cases w with
    |bl i=>cases rp;exact ⟨i,rfl,q _ H1 gr rfl ab⟩
    |_=>exact q.elim
   .obtain ⟨σ,G,hs,ab,q⟩:=q;exact fJ (sF g.mono XN a) hs ab q fun b G1 H1 gr _ ab q=>q H1 gr ab
  |_=>exact absurd h zzN
 |_=>exact absurd h zzN
theorem s_cmp (op:CmpOp) (a b:IE) (ha:qY Γ p a) (hb:qY Γ p b):qY Γ p (.cmp op a b):=by
 intro M X x L h
 cases x with
 |Compare l os rs q =>
   obtain ⟨o,r,rfl,rfl⟩:=zhC h;replace h:=bd4 h;simp only[decide_eq_true_eq] at h;obtain ⟨⟨⟨rfl,h1⟩,h2⟩,h3⟩:=h;have m:=yW g.mono XN (.cmp op a b)
   refine ⟨(zhc (pT (hu_X g L) op) (ha M X l L h1).1 (hb M X r L h2).1 (sD h3)).imp fun τ H Q q=>zbc (yW g.mono XN a) (yW g.mono XN b) (wZ op) q,
    (zg0 (pT (hu_X g L) op) (ha M X l L h1).1 (hb M X r L h2).1 (sD h3)).imp fun τ H Q q=>zbc (yW g.mono XN a) (yW g.mono XN b) (wZ op) (zdV m q),fun _ _ _ z=>nomatch z⟩
 |_=>exact absurd h zzN
theorem s_chn (o1 o2:CmpOp) (a b c:IE) (ha:qY Γ p a) (hb:qY Γ p b) (hc:qY Γ p c):qY Γ p (.chn o1 o2 a b c):=by
 intro M X x L h
 cases x with
 |Compare l os rs q =>
   obtain ⟨q1,q2,r,t,rfl,rfl⟩:=zhD h;replace h:=bd6 h;simp only[decide_eq_true_eq] at h;obtain ⟨⟨⟨⟨⟨rfl,rfl⟩,h1⟩,h2⟩,h3⟩,h4⟩:=h;have m:=yW g.mono XN (.chn o1 o2 a b c)
   have key:∀ τ H Q,xO X.K (zH Γ XN (.chn o1 o2 a b c)).e τ H Q->zcm (fA X.K (yI o1)) (fA X.K (yI o2)) (xO X.K (zH Γ XN a).e) (xO X.K (zH Γ XN b).e) (xO X.K (zH Γ XN c).e) τ H Q:=fun τ H Q q=>by
    obtain ⟨σ,G,hs,ab,q⟩:=q;refine xH (yW g.mono XN a) hs ab q fun x G1 v H1 g1 hs1 rx a1 q=>?_;refine xH (yW g.mono XN b) hs1 a1 q fun y G2 u H2 g2 hs2 ry a2 q=>?_;refine ⟨x,y,G2,rx.mono g2,ry,a2,wZ o1 x y G2 _ _ (fun z G3 q v3 H3 g3 r3 a3=>?_) q⟩
    cases z with
    |bl k =>
     cases r3;refine ⟨k,rfl,?_⟩;have q:if k=true then _ else _:=q
     split
     .rename_i hk;rw[if_pos hk] at q;refine xH (yW g.mono XN c) (hs2.mono g3) a3 q fun w G4 v4 H4 g4 hs4 r4 a4 q=>?_;exact ⟨y,w,G4,(ry.mono g3).mono g4,r4,a4,wZ o2 y w G4 _ _ (fun w5 G5 q v5 H5 g5=>q v5 H5 (g1.trans (g2.trans (g3.trans (g4.trans g5))))) q⟩
     .rename_i hk;rw[if_neg hk] at q;exact q _ H3 (g1.trans (g2.trans g3)) rfl a3
    |_=>exact q.elim
   refine ⟨(zeS (pT (hu_X g L) o1) (pT (hu_X g L) o2) (ha M X l L h1).1 (hb M X r L h2).1 (hc M X t L h3).1 (sD (op:=o2) h4)).imp key,
    (zeE (pT (hu_X g L) o1) (pT (hu_X g L) o2) (ha M X l L h1).1 (hb M X r L h2).1 (hc M X t L h3).1 (sD (op:=o2) h4)).imp fun τ H Q q=>key _ _ _ (zdV m q),fun _ _ _ z=>nomatch z⟩
 |_=>exact absurd h zzN
theorem s_ch3 (o1 o2 o3:CmpOp) (a b c d:IE) (ha:qY Γ p a) (hb:qY Γ p b) (hc:qY Γ p c) (hd:qY Γ p d):qY Γ p (.ch3 o1 o2 o3 a b c d):=fun M X x L h=>absurd h zzN
theorem s_and (a b:IE) (ha:qY Γ p a) (hb:qY Γ p b):qY Γ p (.and a b):=by
 intro M X x L h
 have e1:∀ τ H Q,xO X.K (zH Γ XN (.and a b)).e τ H Q->ziG (xO X.K (zH Γ XN a).e) (xO X.K (zH Γ XN b).e) τ H Q:=fun τ H Q q=>by
  obtain ⟨σ,G,hs,ab,q⟩:=q;refine xH (yW g.mono XN a) hs ab q fun w G1 v H1 g1 hs1 rx a1 q=>?_
  cases w with
  |bl k =>
   cases rx;refine ⟨k,rfl,?_⟩;have q:if k=true then _ else _:=q
   split
   .rename_i hk;rw[if_pos hk] at q;exact ⟨σ,G1,hs1,a1,yW g.mono XN b σ G1 _ _ (fun w G' q v' H' g'=>q v' H' (g1.trans g')) q⟩
   .rename_i hk;rw[if_neg hk] at q;exact q _ H1 g1 rfl a1
  |_=>exact q.elim
 have e2:∀ τ H Q,qK X.K (zH Γ XN (.and a b)).t τ H Q->tAnd (qK X.K (zH Γ XN a).t) (qK X.K (zH Γ XN b).t) τ H Q:=fun τ H Q q=>by
  obtain ⟨σ,G,hs,ab,q⟩:=q;refine fJ (sF g.mono XN a) hs ab q fun k G1 H1 g1 hs1 a1 q=>?_
  split
  .rename_i hk;rw[if_pos hk] at q;exact ⟨σ,G1,hs1,a1,sF g.mono XN b σ G1 _ _ (fun w G' q H' g'=>q H' (g1.trans g')) q⟩
  .rename_i hk;rw[if_neg hk] at q;exact q H1 g1 a1
 cases x with
 |BoolOp o vs q =>
  match o,vs,h with
  | .And,[l,r],h =>
   replace h:=rY h;have A:=ha M X l L h.1;have B:=hb M X r L h.2;have W2:PW X (.BoolOp .And [l,r] q) (qK X.K (zH Γ XN (.and a b)).t):=(zfZ A.2.1 (zgY B.2.1)).imp e2;exact ⟨(zf6 A.1 (zf4 B.1)).imp e1,W2.pt,fun _ _ _ _=>W2⟩
  | .And,l::r::q'::rest,h =>
   replace h:=rY h;have A:=ha M X l L h.1;have B:=hb M X _ L h.2;have W2:PW X (.BoolOp .And (l::r::q'::rest) q) (qK X.K (zH Γ XN (.and a b)).t):=(zfZ A.2.1 (B.2.2 _ _ _ rfl)).imp e2;exact ⟨(zf6 A.1 B.1).imp e1,W2.pt,fun _ _ _ _=>W2⟩
 |_=>exact absurd h zzN
theorem s_or (a b:IE) (ha:qY Γ p a) (hb:qY Γ p b):qY Γ p (.or a b):=by
 intro M X x L h
 have e1:∀ τ H Q,xO X.K (zH Γ XN (.or a b)).e τ H Q->tOrV (xO X.K (zH Γ XN a).e) (xO X.K (zH Γ XN b).e) τ H Q:=fun τ H Q q=>by
  obtain ⟨σ,G,hs,ab,q⟩:=q;refine xH (yW g.mono XN a) hs ab q fun w G1 v H1 g1 hs1 rx a1 q=>?_
  cases w with
  |bl k =>
   cases rx;refine ⟨k,rfl,?_⟩;have q:if k=true then _ else _:=q
   split
   .rename_i hk;rw[if_pos hk] at q;exact q _ H1 g1 rfl a1
   .rename_i hk;rw[if_neg hk] at q;exact ⟨σ,G1,hs1,a1,yW g.mono XN b σ G1 _ _ (fun w G' q v' H' g'=>q v' H' (g1.trans g')) q⟩
  |_=>exact q.elim
 have e2:∀ τ H Q,qK X.K (zH Γ XN (.or a b)).t τ H Q->tOr (qK X.K (zH Γ XN a).t) (qK X.K (zH Γ XN b).t) τ H Q:=fun τ H Q q=>by
  obtain ⟨σ,G,hs,ab,q⟩:=q;refine fJ (sF g.mono XN a) hs ab q fun k G1 H1 g1 hs1 a1 q=>?_
  split
  .rename_i hk;rw[if_pos hk] at q;exact q H1 g1 a1
  .rename_i hk;rw[if_neg hk] at q;exact ⟨σ,G1,hs1,a1,sF g.mono XN b σ G1 _ _ (fun w G' q H' g'=>q H' (g1.trans g')) q⟩
 cases x with
 |BoolOp o vs q =>
  match o,vs,h with
  | .Or,[l,r],h =>
   replace h:=rY h;have A:=ha M X l L h.1;have B:=hb M X r L h.2;have W2:PW X (.BoolOp .Or [l,r] q) (qK X.K (zH Γ XN (.or a b)).t):=(zjb A.2.1 (zja B.2.1)).imp e2;exact ⟨(zjm A.1 (zf4 B.1)).imp e1,W2.pt,fun _ _ _ _=>W2⟩
  | .Or,l::r::q'::rest,h =>
   replace h:=rY h;have A:=ha M X l L h.1;have B:=hb M X _ L h.2;have W2:PW X (.BoolOp .Or (l::r::q'::rest) q) (qK X.K (zH Γ XN (.or a b)).t):=(zjb A.2.1 (B.2.2 _ _ _ rfl)).imp e2;exact ⟨(zjm A.1 B.1).imp e1,W2.pt,fun _ _ _ _=>W2⟩
 |_=>exact absurd h zzN
theorem s_ite (c a b:IE) (hc:qY Γ p c) (ha:qY Γ p a) (hb:qY Γ p b):qY Γ p (.ite c a b):=fun M X x L h=>absurd h zzN
theorem s_ix (a i:IE) (ha:qY Γ p a) (hb:qY Γ p i):qY Γ p (.ix a i):=by
 intro M X x L h
 cases x with
 |Subscript l r q =>
  replace h:=bd3 h;exact jP (M:=M) (yW g.mono XN (.ix a i)) ((pe_ix (ix_ok (hu_X g L)) (ha M X l L h.1.1).1 (hb M X r L h.1.2).1 (zeL h.2)).imp fun τ H Q q=>zbc (yW g.mono XN a) (yW g.mono XN i) zbm q) (fun _=>rfl) (fun _ _ _ z=>nomatch z)
 |_=>exact absurd h zzN
theorem s_sl (a:IE) (lo hi:IO) (ha:qY Γ p a) (hl:OkO Γ p lo) (hh:OkO Γ p hi):qY Γ p (.sl a lo hi):=by
  intro M X x L h
  cases x with
  |Subscript l r q =>
    cases r with
    |Slice y z sp q2 =>
     cases sp with
     |none =>
      replace h:=bd3 h;refine jP (M:=M) (yW g.mono XN (.sl a lo hi)) ((zeQ sl_ok (ha M X l L h.1.1).1 ((hl M X L).1 y h.1.2) ((hh M X L).1 z h.2)).imp fun τ H Q q=>?_) (fun _=>rfl) (fun _ _ _ z=>nomatch z);obtain ⟨σ,G,hs,ab,q⟩:=q;refine xH (yW g.mono XN a) hs ab q fun w G1 v H1 g1 hs1 rx a1 q=>?_;refine ⟨σ,G1,hs1,a1,zjM g.mono XN lo σ G1 _ _ (fun o G2 q H2 g2 a2=>?_) q⟩;refine ⟨σ,G2,hs1.mono g2,a2,zjM g.mono XN hi σ G2 _ _ (fun o2 G3 q H3 g3 a3=>?_) q⟩;exact ⟨w,G3,(rx.mono g2).mono g3,a3,za5 (fun w' G' q v' H' g'=>q v' H' (g1.trans (g2.trans (g3.trans g')))) q⟩
     |some _=>exact absurd h zzN
    |_=>exact absurd h zzN
  |_=>exact absurd h zzN
theorem s_tup (es:IEs) (hs:OkA Γ p es):qY Γ p (.tup es):=by
 intro M X x L h
 cases x with
 |Tuple xs k q =>
  skip
  refine jP (M:=M) (yW g.mono XN (.tup es)) ((zf2 (hs M X xs L h).1).imp fun τ H Q q=>?_) (fun _=>rfl) (fun _ _ _ z=>nomatch z);obtain ⟨σ,G,hs',ab,q⟩:=q;refine tK (jM g.mono XN es) hs' ab q fun ws G1 vs H1 g1 hs1 rs a1 q=>⟨by rw[rs.length];exact q.1,vU a1 rs fun v' H' g'=>q.2 v' H' (g1.trans g')⟩
 |_=>exact absurd h zzN
theorem s_lst (es:IEs) (hs:OkA Γ p es):qY Γ p (.lst es):=by
 intro M X x L h
 cases x with
 |List xs q =>
  skip
  refine jP (M:=M) (yW g.mono XN (.lst es)) ((zjp (hs M X xs L h).1).imp fun τ H Q q=>?_) (fun _=>rfl) (fun _ _ _ z=>nomatch z);obtain ⟨σ,G,hs',ab,q⟩:=q;refine tK (jM g.mono XN es) hs' ab q fun ws G1 vs H1 g1 hs1 rs a1 q=>⟨by rw[rs.length];exact q.1,jO a1 rs fun r hr v' H' g'=>q.2 r hr v' H' (g1.trans g')⟩
 |_=>exact absurd h zzN
theorem hV {Γ:Ctx3} {M:MC} {es:IEs} {xs:List Expr} (h:mA es M xs=true):xs=[]->∀ σ G Q,zU Γ XN es σ G Q->Q [] G:=by
 rintro rfl σ G Q q
 cases es with
 |nil=>exact q
 |cons _ _=>exact absurd h zzN
theorem ziU (f:Nat) (es:IEs) (hs:OkA Γ p es):qY Γ p (.call f es):=by
  intro M X x L h
  cases x with
  |Call fn xs kw q =>
    cases fn with
    |Name y qy =>
     cases kw with
     |nil =>
      replace h:=bd3 h;have gl:=uR L.sc h.1.2;have hi:=xS h.1.1;rw[← L.fns] at hi;obtain ⟨e,ei,rfl⟩:=jC hi;have A:=hs M X xs L h.2;refine jP (M:=M) (yW g.mono XN (.call f es)) ((g.fn e (wC ei) X L.fits gl.1 xs (zU Γ XN es) qy q (jM g.mono XN es) A.2.1 A.1 (hV g h.2) gl.2.1 gl.2.2).imp fun τ H Q q=>?_) (fun _=>rfl) (fun _ _ _ z=>nomatch z);obtain ⟨σ,G,hs',ab,q⟩:=q;refine ⟨σ,G,hs',ab,jM g.mono XN es σ G _ _ (fun ws G1 q=>?_) q⟩;simp only[ei] at q;exact q
     |cons _ _=>exact absurd h zzN
    |_=>exact absurd h zzN
  |_=>exact absurd h zzN
theorem s_spc (i:Nat) (es:IEs) (hs:OkA Γ p es):qY Γ p (.spc i es):=by
 intro M X x L h;replace h:=rY h;replace h:=h.2
 split at h
 .rename_i m hm
  split at h
  .rename_i xs hx;rw[← L.sxs] at hm;obtain ⟨k,ek,rfl⟩:=jC hm;have A:=hs M X xs L h;have q:=g.sx k (wC ek) X L.fits x xs (semL Γ es) (by rw[L.sc];exact hx) A.2.2.2 A.2.1 (by rw[← hW];exact A.1);refine jP (M:=M) (yW g.mono XN (.spc i es)) (q.1.imp fun τ H Q q=>?_) q.2.1 q.2.2;obtain ⟨σ,G,hs',ab,q⟩:=q;refine ⟨σ,G,hs',ab,?_⟩;rw[← hW];refine jM g.mono XN es σ G _ _ (fun ws G1 q=>?_) q;simp only[ek] at q;exact q
  .exact absurd h zzN
 .exact absurd h zzN
theorem s_mth (m:Nat) (o:IE) (es:IEs) (ho:qY Γ p o) (hs:OkA Γ p es):qY Γ p (.mth m o es):=by
  intro M X x L h
  cases x with
  |Call fn xs kw q =>
    cases fn with
    |Attribute l y qy =>
     cases kw with
     |nil =>
      replace h:=bd6 h;simp only[decide_eq_true_eq] at h;have hi:=xS h.1.1.1.1.1;rw[← L.mts] at hi;obtain ⟨e,ei,rfl⟩:=jC hi;have A:=hs M X xs L h.2;have B:=ho M X l L h.1.2;refine jP (M:=M) (yW g.mono XN (.mth m o es)) ((g.mt e (wC ei) X L.fits l xs (zH Γ XN o).e (zU Γ XN es) qy q (yW g.mono XN o) (jM g.mono XN es) h.1.1.1.1.2 h.1.1.1.2 h.1.1.2 A.2.1 B.1 A.1 (hV g h.2)).imp fun τ H Q q=>?_) (fun _=>rfl) (fun _ _ _ z=>nomatch z);obtain ⟨σ,G,hs',ab,q⟩:=q;refine ⟨σ,G,hs',ab,yW g.mono XN o σ G _ _ (fun w G1 q=>?_) q⟩;simp only[ei] at q;exact q
     |cons _ _=>exact absurd h zzN
    |_=>exact absurd h zzN
  |_=>exact absurd h zzN
theorem s_att (o:IE) (f:Str) (ho:qY Γ p o):qY Γ p (.att o f):=fun M X x L h=>absurd h zzN
end
section
variable {Γ:Ctx3} {p:Par} (g:Good Γ p)
include g
theorem s_dct (ks:List Str) (es:IEs) (hs:OkA Γ p es):qY Γ p (.dct ks es):=by
 intro M X x L h
 cases x with
 |Dict keys xs q =>
  replace h:=bd5 h;simp only[decide_eq_true_eq,ZaG] at h;obtain ⟨⟨⟨⟨h1,h2⟩,h3⟩,h4⟩,h5⟩:=h;obtain ⟨all,ek,trs,pp,low⟩:=(hs M X xs L h2).2.2.1 ks keys q h1 h3
  have h0:keys≠[]:=by
   intro z;rw[z] at ek
   cases ks with
   |nil=>cases h5
   |cons _ _=>cases ek
  refine jP (M:=M) (yW g.mono XN (.dct ks es)) ((zhb pp all h3 h0 h4).imp fun τ H Q q=>?_) (fun _=>rfl) (fun _ _ _ z=>nomatch z);intro a ha;obtain ⟨σ,G,hs',ab,q⟩:=q;have gr:yO X.K H (xP H a (.dK [])):=xI ha;refine low τ _ _ ⟨σ,put G a (.dic []),hs'.mono gr,ab.new ha ⟨[],rfl,rfl⟩,jM g.mono XN es σ _ _ _ (fun ws G1 q vs H1 g1 rs a1=>?_) (q a (ab.free ha))⟩;obtain ⟨q1,q2,q3⟩:=q;obtain ⟨l,e,rl⟩:=a1.dic q1
  have el:l=[]:=by
   cases l with
   |nil=>rfl
   |cons _ _=>cases rl
  subst el;refine ⟨e,(ks.zip vs).map (fun kv=>((Sum.inr kv.1:yM),kv.2)),by rw[ZO];rfl,?_,?_⟩
  .rw[zzM,List.length_zip];omega
  .have gr2:yO X.K H1 (xP H1 a (.dK (rA [] ((ks.zip vs).map fun kv=>((Sum.inr kv.1:yM),kv.2))))):=a1.grow q1;exact q3 _ _ (gr.trans (g1.trans gr2)) rfl (a1.chg q1 ⟨_,rfl,zdJ ks (rs.mono gr2) rfl⟩)
 |_=>exact absurd h zzN
theorem cV (tg:ITg) (names:List Str) (caps:List Nat) (it:II) (c:IO) (elt:IE) (hi:OkI Γ p it) (hc:OkO Γ p c) (he:qY Γ p elt) {M:MC} {X:Cx} (L:Lk Γ M p X) {x t ix:Expr} {ifs:List Expr} {sc:Scope}
  (h:(blkB M.sc sc&&sH ix&&rF (names++caps.map (fun j=>M.N.getD j Str.empty))&&(caps.all fun j=>decide (j<M.N.length)&&(sc.names.lookup (M.N.getD j Str.empty)==some .free)) &&
    mI it M ix&&((tgIx tg).all fun i=>decide (i<names.length))&&mG { M with sc:=relS sc M.sc,N:=names++caps.map (fun j=>M.N.getD j Str.empty),own:=fun x=>sc.names.lookup x==some .cell } tg t&&mC c { M with sc:=relS sc M.sc,N:=names++caps.map (fun j=>M.N.getD j Str.empty),own:=fun x=>sc.names.lookup x==some .cell } ifs&&mE elt { M with sc:=relS sc M.sc,N:=names++caps.map (fun j=>M.N.getD j Str.empty),own:=fun x=>sc.names.lookup x==some .cell } x)=true) :
  PI X t ix (lowI X.K (zR Γ XN it))/\BlkSc X sc/\Caps X sc (names++caps.map (fun j=>M.N.getD j Str.empty)) (capV names.length caps) /\
  (∀ X',IsBlock X (names++caps.map (fun j=>M.N.getD j Str.empty)) sc X'->PG X' t (lowG X.K (zT tg)))/\(∀ X',IsBlock X (names++caps.map (fun j=>M.N.getD j Str.empty)) sc X'->PTs X' ifs (qK X.K (zO Γ c))) /\
  (∀ H1 X',IsBlock X (names++caps.map (fun j=>M.N.getD j Str.empty)) sc X'->PE X' x (fun τ H Q=>yO X.K H1 H/\xO X.K (zH Γ XN elt).e τ H Q))/\(∀ y,foldedSetIterable ix X.env y=pure y) /\
  ∀ τ H Q,xO X.K (zH Γ XN (.lc tg names caps it c elt)).e τ H Q->tLC (lowI X.K (zR Γ XN it)) (capV names.length caps) (lowG X.K (zT tg)) (qK X.K (zO Γ c)) (fun H0 τ H Q=>yO X.K H0 H/\xO X.K (zH Γ XN elt).e τ H Q) τ H Q:=by
 simp only[Zh] at h;obtain ⟨⟨⟨⟨⟨⟨⟨⟨h1,h2⟩,h3⟩,h4⟩,h5⟩,h6⟩,h7⟩,h8⟩,h9⟩:=h
 have lk:∀ X',IsBlock X (names++caps.map (fun j=>M.N.getD j Str.empty)) sc X'->Lk Γ { M with sc:=relS sc M.sc,N:=names++caps.map (fun j=>M.N.getD j Str.empty),own:=fun x=>sc.names.lookup x==some .cell } p X':=fun X' b =>
  ⟨⟨b.prog.trans L.fits.prog,b.w.trans L.fits.w,b.K.trans L.fits.K,b.mg.trans L.fits.mg,b.base.trans L.fits.base,b.A.trans L.fits.A,b.calm.trans L.fits.calm,b.xe⟩,b.N,b.scope.trans (zcI L.sc),gU h3,(fun x z=>b.fn x (eq_of_beq z)),(zbz L.sc h1).kind,L.fns,L.gls,L.mts,L.its,L.sxs,L.ixs⟩
 refine ⟨hi M X ix L h5 t,zbz L.sc h1,bP L.N L.sc h4,fun X' b=>?_,fun X' b=>?_,fun H1 X' b=>?_,pV h2,fun τ H Q q=>?_⟩
 .rw[← b.K];exact sndG (lk X' b) tg t h7
 .rw[← b.K];exact (hc _ X' (lk X' b)).2 ifs h8
 .rw[← b.K];exact (he _ X' x (lk X' b) h9).1.imp fun _ _ _ z=>z.2
 .obtain ⟨σ,G,hs,ab,q⟩:=q;refine ⟨σ,G,hs,ab,zcZ g.mono XN it σ G _ _ (fun items stab G1 q J H1 g1 a1 ii=>?_) q⟩;refine zgb (monoC g.mono c) (yW g.mono XN elt) ii a1 (zdS (hs.mono g1) names.length caps) g1 (fun w G' Q' z=>?_) q;refine sE tg w _ G' _ _ (fun σ2 G2 z=>⟨⟨z.2.1,fun i v e=>?_⟩,z.2.2⟩) (mB tg w _ G' _ (cX tg w _ G' _ z));have hk:=(nF e).1;rw[z.1 i (zc0 h6 hk)];exact e
theorem s_lc (tg:ITg) (names:List Str) (caps:List Nat) (it:II) (c:IO) (elt:IE) (hi:OkI Γ p it) (hc:OkO Γ p c) (he:qY Γ p elt):qY Γ p (.lc tg names caps it c elt):=by
 intro M X x L h
 cases x with
 |ListComp x gens sc q =>
  match gens,h with
  | [⟨t,ix,ifs,asy⟩],h =>
   have h':=h;replace h:=bd10 h;obtain ⟨⟨⟨⟨⟨⟨⟨⟨⟨h0,h1⟩,h2⟩,h3⟩,h4⟩,h5⟩,h6⟩,h7⟩,h8⟩,h9⟩:=h;replace h0:=of_decide_eq_true h0;subst h0;obtain ⟨c1,c2,c3,c4,c5,c6,c7,c8⟩:=cV g tg names caps it c elt hi hc he L (x:=x) (t:=t) (ix:=ix) (ifs:=ifs) (sc:=sc) (by simp only[Zh];exact ⟨⟨⟨⟨⟨⟨⟨⟨h1,h2⟩,h3⟩,h4⟩,h5⟩,h6⟩,h7⟩,h8⟩,h9⟩);exact jP (M:=M) (yW g.mono XN (.lc tg names caps it c elt)) ((pe_lc L.fits.calm c1 c2 c3 c4 c5 c6 c7).imp c8) (fun _=>rfl) (fun _ _ _ z=>nomatch z)
 |_=>exact absurd h zzN
theorem s_no:OkO Γ p .no:=by
 intro M X L;refine ⟨fun x h=>?_,fun xs h=>?_⟩
 .cases x with
  |none=>exact zg7.imp fun τ H Q q=>by obtain ⟨σ,G,hs,ab,q⟩:=q;exact q H .refl ab
  |some _=>exact absurd h zzN
 .cases xs with
  |nil=>exact zcL.imp fun τ H Q q=>by obtain ⟨σ,G,hs,ab,q⟩:=q;exact q H .refl ab
  |cons _ _=>exact absurd h zzN
theorem ziQ (e:IE) (he:qY Γ p e):OkO Γ p (.yes e):=by
 intro M X L;refine ⟨fun x h=>?_,fun xs h=>?_⟩
 .cases x with
  |none=>exact absurd h zzN
  |some x =>
   skip
   refine (zg6 (he M X x L h).1).imp fun τ H Q q=>?_;obtain ⟨σ,G,hs,ab,q⟩:=q;refine xH (yW g.mono XN e) hs ab q fun w G1 v H1 g1 hs1 rx a1 q=>?_
   cases w with
   |int i=>cases rx;exact ⟨i,rfl,q H1 g1 a1⟩
   |_=>exact q.elim
 .match xs,h with
  | [x],h=>exact zgZ (he M X x L (by simpa only [mC] using h)).2.1
theorem ziS:OkA Γ p .nil:=by
 intro M X xs L h
 cases xs with
 |cons _ _=>exact absurd h zzN
 |nil =>
  refine ⟨zcP.imp fun τ H Q q=>by obtain ⟨σ,G,hs,ab,q⟩:=q;exact q [] H .refl rfl ab,rfl,fun ks keys pos hk hl=>?_,trivial⟩
  cases keys with
  |cons _ _=>cases hl
  |nil =>
   cases ks with
   |cons _ _=>cases hk
   |nil =>
    refine ⟨rfl,rfl,[],zg5,fun τ H Q q=>?_⟩;obtain ⟨σ,G,hs,ab,q⟩:=q;exact q [] H .refl rfl ab
theorem zfT (e:IE) (es:IEs) (he:qY Γ p e) (hs:OkA Γ p es):OkA Γ p (.cons e es):=by
  intro M X xs L h
  cases xs with
  |nil=>exact absurd h zzN
  |cons x xs =>
    simp only[mA,Zh] at h;obtain ⟨⟨h1,h2⟩,h3⟩:=h;have A:=he M X x L h2;have B:=hs M X xs L h3;refine ⟨(nM A.1 B.1 (jT h1)).imp fun τ H Q q=>?_,by rw[Zax,h1,B.2.1];rfl,fun ks keys pos hk hl=>?_,⟨yW g.mono XN e,A.1,B.2.2.2⟩⟩
    . obtain ⟨σ,G,hs',ab,q⟩:=q
      refine xH (yW g.mono XN e) hs' ab q fun w G1 v H1 g1 hs1 rx a1 q=>?_;refine tK (jM g.mono XN es) hs1 a1 q fun ws G2 vs H2 g2 hs2 rs a2 q=>?_;exact q _ H2 (g1.trans g2) ⟨v,vs,rfl,rx.mono g2,rs⟩ a2
    . cases ks with
      |nil =>
        cases keys with
        |nil=>simp at hl
        |cons _ _=>simp[keyB] at hk
      |cons k ks =>
       cases keys with
       |nil=>cases hk
       |cons ko keys =>
        obtain ⟨y,ky,qy,rfl⟩:∃ y ky qy,ko=some (.Constant (.str y) ky qy):=by
          cases ko with
          |none=>cases hk
          |some ke =>
            cases ke with
            |Constant c ky qy =>
              cases c with
              |str y=>exact ⟨y,ky,qy,rfl⟩
              |_=>cases hk
            |_=>cases hk
        simp only[keyB,Zh,beq_iff_eq] at hk;obtain ⟨rfl,hk⟩:=hk;obtain ⟨all,ek,trs,pp,low⟩:=B.2.2.1 ks keys pos hk (by simpa using hl);refine ⟨by simpa using all,by simpa using ek,(tC (.str k),xO X.K (zH Γ XN e).e)::trs,zeK zf3 A.1 pp,fun τ H Q q=>?_⟩;obtain ⟨σ,G,hs',ab,q⟩:=q;show xO X.K (zH Γ XN e).e τ H _;refine xH (yW g.mono XN e) hs' ab q fun w G1 v H1 g1 hs1 rx a1 q=>?_;refine low τ H1 _ ⟨σ,G1,hs1,a1,jM g.mono XN es σ G1 _ _ (fun ws G2 q vs H2 g2 rs a2=>?_) q⟩;exact q (v::vs) H2 (g1.trans g2) ⟨v,vs,rfl,rx.mono g2,rs⟩ a2
theorem ziR (e:IE) (he:qY Γ p e):OkI Γ p (.val e):=fun M X x L h tg=>zjk (yW g.mono XN e) (he M X x L h).1
theorem ziV (i:Nat) (es:IEs) (hs:OkA Γ p es):OkI Γ p (.blt i es):=by
  intro M X x L h tg
  cases x with
  |Call fn xs kw q =>
    cases fn with
    |Name y qy =>
     cases kw with
     |nil =>
      replace h:=bd3 h;have gl:=uR L.sc h.1.2;have hi:=xS h.1.1;rw[← L.its] at hi;obtain ⟨e,ei,rfl⟩:=jC hi;have A:=hs M X xs L h.2;refine (g.it e (wC ei) X L.fits gl.1 tg xs (zU Γ XN es) qy q (jM g.mono XN es) A.2.1 A.1 (hV g h.2) gl.2.1 gl.2.2).imp fun τ H R q=>?_;obtain ⟨σ,G,hs',ab,q⟩:=q;refine ⟨σ,G,hs',ab,jM g.mono XN es σ G _ _ (fun ws G1 q=>?_) q⟩;simp only[ei] at q;exact q
     |cons _ _=>exact absurd h zzN
    |_=>exact absurd h zzN
  |_=>exact absurd h zzN
theorem zfS (i:Nat) (es:IEs) (hs:OkA Γ p es):OkI Γ p (.spc i es):=fun M X x L h=>absurd h zzN
theorem tY (e:IE):qY Γ p e :=
 IE.rec (motive_1:=qY Γ p) (motive_2:=OkO Γ p) (motive_3:=OkA Γ p) (motive_4:=OkI Γ p) (motive_5:=fun _=>True) (motive_6:=fun _=>True)
  (s_var g) (s_con g) (s_glb g) (s_bin g) (s_neg g) (s_not g) (s_cmp g) (s_chn g) (s_and g) (s_or g) (s_ite g) (s_ix g) (s_sl g) (s_tup g) (s_lst g) (s_dct g) (ziU g) (s_mth g) (s_att g)
  (fun tg names caps it c elt _ hi hc he=>s_lc g tg names caps it c elt hi hc he) (s_spc g) (s_ch3 g) (s_no g) (ziQ g) (ziS g) (zfT g) (ziR g) (ziV g) (zfS g) (fun _=>trivial) (fun _ _=>trivial) trivial (fun _ _ _ _=>trivial) e
theorem sndA (es:IEs):OkA Γ p es:=match es with
 | .nil=>ziS g
 | .cons e es=>zfT g e es (tY g e) (sndA es)
theorem sndI (it:II):OkI Γ p it:=match it with
 | .val e=>ziR g e (tY g e)
 | .blt i es=>ziV g i es (sndA g es)
 | .spc i es=>zfS g i es (sndA g es)
theorem sndO (o:IO):OkO Γ p o:=match o with
 | .no=>s_no g
 | .yes e=>ziQ g e (tY g e)
end
end L3
namespace L3
open PySem PySem.Spec PyProof.Rows L2
theorem zhF {i:Nat} {a:IE} {M:MC} {x:Stmt} (h:mS (.asg i a) M x=true):∃ y py v q,x=.Assign [.Name y py] v q/\(M.N[i]?==some y)=true/\locB M y=true/\mE a M v=true:=by
 cases x with
 |Assign ts v q =>
  cases ts with
  |nil=>exact absurd h zzN
  |cons t r =>
   cases r with
   |cons _ _=>cases t<;>exact absurd h zzN
   |nil =>
    cases t with
    |Name y py =>
     replace h:=bd3 h;exact ⟨y,py,v,q,rfl,h.1.1,h.1.2,h.2⟩
    |_=>exact absurd h zzN
 |_=>exact absurd h zzN
theorem zfe {ts:ITgs} {a:IE} {M:MC} {x:Stmt} (h:mS (.asgT ts a) M x=true):∃ es k qt v q,x=.Assign [.Tuple es k qt] v q/\fB v=true/\zjH v=true/\mGs M ts es=true/\mE a M v=true:=by
 cases x with
 |Assign ts v q =>
  cases ts with
  |nil=>exact absurd h zzN
  |cons t r =>
   cases r with
   |cons _ _=>cases t<;>exact absurd h zzN
   |nil =>
    cases t with
    |Tuple es k qt =>
     replace h:=bd4 h;exact ⟨es,k,qt,v,q,rfl,h.1.1.1,h.1.1.2,h.1.2,h.2⟩
    |_=>exact absurd h zzN
 |_=>exact absurd h zzN
theorem zff {o i a:IE} {M:MC} {x:Stmt} (h:mS (.asgI o i a) M x=true):∃ l r qs v q,x=.Assign [.Subscript l r qs] v q/\fB v=true/\nJ r=true/\mE o M l=true/\mE i M r=true/\mE a M v=true:=by
 cases x with
 |Assign ts v q =>
  cases ts with
  |nil=>exact absurd h zzN
  |cons t r =>
   cases r with
   |cons _ _=>cases t<;>exact absurd h zzN
   |nil =>
    cases t with
    |Subscript l r qs =>
     replace h:=bd5 h;exact ⟨l,r,qs,v,q,rfl,h.1.1.1.1,h.1.1.1.2,h.1.1.2,h.1.2,h.2⟩
    |_=>exact absurd h zzN
 |_=>exact absurd h zzN
theorem zkl {a:IE} {M:MC} {x:Stmt} (h:mS (.ex a) M x=true):∃ v q,x=.Expr v q/\fB v=true/\mE a M v=true:=by
 cases x with
 |Expr v q =>
  replace h:=rY h;exact ⟨v,q,rfl,h.1,h.2⟩
 |_=>exact absurd h zzN
theorem zhx {a:IE} {M:MC} {x:Stmt} (h:mS (.ret a) M x=true):∃ v q,x=.Return (some v) q/\mE a M v=true:=by
 cases x with
 |Return v q =>
  cases v with
  |none=>exact absurd h zzN
  |some v=>exact ⟨v,q,rfl,h⟩
 |_=>exact absurd h zzN
theorem zfb {M:MC} {x:Stmt} (h:mS .retN M x=true):∃ q,x=.Return none q:=by
 cases x with
 |Return v q =>
  cases v with
  |none=>exact ⟨q,rfl⟩
  |some v=>exact absurd h zzN
 |_=>exact absurd h zzN
theorem zfc {M:MC} {x:Stmt} (h:mS .pass M x=true):∃ q,x=.Pass q:=by
 cases x with
 |Pass q=>exact ⟨q,rfl⟩
 |_=>exact absurd h zzN
theorem zhE {M:MC} {x:Stmt} (h:mS .brk M x=true):∃ q,x=.Break q:=by
 cases x with
 |Break q=>exact ⟨q,rfl⟩
 |_=>exact absurd h zzN
theorem zhB {M:MC} {x:Stmt} (h:mS .cnt M x=true):∃ q,x=.Continue q:=by
 cases x with
 |Continue q=>exact ⟨q,rfl⟩
 |_=>exact absurd h zzN
theorem zhz {c:IE} {a b:ISs} {M:MC} {x:Stmt} (h:mS (.ite c a b) M x=true):∃ t y z q,x=.If t y z q/\mE c M t=true/\sZ a M y=true/\sZ b M z=true:=by
 cases x with
 |If t y z q =>
  replace h:=bd3 h;exact ⟨t,y,z,q,rfl,h.1.1,h.1.2,h.2⟩
 |_=>exact absurd h zzN
theorem zhw {c:IE} {b:ISs} {M:MC} {x:Stmt} (h:mS (.whl c b) M x=true):∃ t y q,x=.While t y [] q/\mE c M t=true/\sZ b M y=true:=by
 cases x with
 |While t y z q =>
  cases z with
  |nil =>
   replace h:=rY h;exact ⟨t,y,q,rfl,h.1,h.2⟩
  |cons _ _=>exact absurd h zzN
 |_=>exact absurd h zzN
theorem zhA {tg:ITg} {it:II} {b:ISs} {M:MC} {x:Stmt} (h:mS (.for tg it b) M x=true):∃ t y z q,x=.For t y z [] q/\sH y=true/\mG M tg t=true/\mI it M y=true/\sZ b M z=true:=by
 cases x with
 |For t y z e q =>
  cases e with
  |nil =>
   replace h:=bd4 h;exact ⟨t,y,z,q,rfl,h.1.1.1,h.1.1.2,h.1.2,h.2⟩
  |cons _ _=>exact absurd h zzN
 |_=>exact absurd h zzN
theorem zhy {M:MC} {x:List Stmt} (h:sZ .nil M x=true):x=[]:=by
 cases x with
 |nil=>rfl
 |cons _ _=>exact absurd h zzN
theorem zfd {s:IS} {ss:ISs} {M:MC} {x:List Stmt} (h:sZ (.cons s ss) M x=true):∃ y ys,x=y::ys/\mS s M y=true/\sZ ss M ys=true:=by
 cases x with
 |nil=>exact absurd h zzN
 |cons y ys =>
  replace h:=rY h;exact ⟨y,ys,rfl,h.1,h.2⟩
end L3
namespace L2
open PySem PySem.Spec PyProof.Rows
section
variable {X:Cx} {pos:Pos}
end
end L2
namespace L2
open PySem PySem.Spec PyProof.Rows
section
variable {prog:Program} {w:World} {A:Around} {E:Value->Shared->Prop} {s:Shared}
theorem zbv {it l:Addr} {xs:Array Value} (ne:l≠it):∀ (n i:Nat) (s:Shared) (Q:List Value->Shared->Prop),s.heap.IsListIter it l i->s.heap.IsList l xs->i+n<=xs.size ->
  (∀ h',h'.IsListIter it l (i+n)->Heap.SameBut it s.heap h'->Q ((xs.toList.drop i).take n) { s with heap:=h' })->wpAny (model prog w) A (draw (.ref it) n) Q E s
 | 0,i,s,Q,a,_,_,q=>by
  show wpAny _ _ (pure []) Q E s;exact Zc (by simpa using q s.heap a (Heap.SameBut.refl ..))
 |n+1,i,s,Q,a,b,le,q=>by
  have lt:i<xs.size:=by omega
  show wpAny _ _ (pyNext (.ref it) >>= _) Q E s;refine Za (wpAny_pyNext_list_item a b (x:=xs[i]) (by simp[lt]) fun h1 a1 s1=>?_);refine Za (ZR (zbv ne n (i+1) _ _ a1 (b.extBut s1.extBut ne) (by omega) fun h2 a2 s2=>Zc ?_));have e:xs.toList.drop i=xs[i]::xs.toList.drop (i+1):=by simp[List.drop_eq_getElem_cons,lt]
  have z:=q h2 (by rw[show i+(n+1)=i+1+n by omega];exact a2) (s1.trans s2);rw[e,List.take_succ_cons] at z;exact z
theorem zbC {l:Addr} {xs:Array Value} {ts:List (Bool×(Value->Sem Unit))} {Q:Unit->Shared->Prop} (hh:A.handled=none) (hl:s.heap.IsList l xs) (hn:ts.length=xs.size) (hs:ts.findIdx? (·.1)=none)
  (h:∀ h',Heap.ExtBut s.heap.objs.size s.heap h'->wpAny (model prog w) A (assignInOrder (ts.map (·.2)) xs.toList) Q E { s with heap:=h' }):wpAny (model prog w) A (unpack (.ref l) ts) Q E s:=by
 have ne:l≠s.heap.objs.size:=by obtain ⟨o,ho,_⟩:=hl;exact Zj (Zd ho)
 unfold unpack;rw[hn,hs];refine Za (ZR ?_);unfold unpackItems;refine Za ?_;unfold notIterableAtAll;refine Za (Zak hl.typeIs slot_list_iter.lookup (Zc ?_));simp only[zzB,if_false];refine Za (ZR (Zbs hl ?_));refine Za (ZR (zbv ne xs.size 0 _ _ ⟨_,Zg _ rfl,rfl,rfl⟩ (hl.push _) (by omega) fun h1 a1 s1=>?_));rw[show List.take xs.size (List.drop 0 xs.toList)=xs.toList by rw[Zcv];exact Zad (by simp),if_neg (by simp)];refine Za (ZR (wpAny_pyNext_list_end hh a1 ((hl.push _).extBut s1.extBut ne) (by simp) fun h2 e2=>?_));simp only[Option.isSome_none,zzB,if_false];exact Zc (h h2 fun b o hb e=>e2 b o hb (s1.extBut b o hb (Zb _ e)))
end
def gTL (K:PySem.W.Frag) (n:Nat) (t:TGs):TG:=fun v σ H Q=>∃ a xs,v=.ref a/\(sP K H a xs\/rW K H a xs)/\xs.length=n/\t xs σ H Q
theorem pg_tl {X:Cx} {pos:Pos} {es:List Expr} {k:Nat} {t:TGs} {n:Nat} (hc:X.calm=true) (h:PGs X es t) (hn:(assignEach es X.env).length=n) (hst:(assignEach es X.env).findIdx? (·.1)=none):PG X (.Tuple es k pos) (gTL X.K n t):=by
 intro pins s σ H v u Q I r hw;obtain ⟨a,xs,e1,hq,hl,hw⟩:=hw;rcases hq with hq|hq
 .exact zf0 hc h hn hst pins s σ H v u Q I r ⟨a,xs,e1,hq,hl,hw⟩
 .subst e1;cases r;obtain ⟨its,rv,pl,hz⟩:=I.list hq;rw[assign_Tuple];refine Za (ZbE (zbC (I.ok.hd hc) pl.isList (by simp[hn,← hl,rv.length]) hst fun h' hx=>?_));exact h pins _ σ H xs _ Q (I.kept (t':=s.toks) fun b o e=>hx b o (Zj (Zd e)) e) (by simpa using rv) hw
end L2
namespace L3
open PySem PySem.Spec PyProof.Rows L2 PySem.SeqAt
section
variable {Γ:Ctx3} {p:Par} (g:Good Γ p)
def OkS (Γ:Ctx3) (p:Par) (s:IS):Prop:=∀ M X x,Lk Γ M p X->mS s M x=true->PS X x (lowS X.K (zQ Γ XN s))
def OkSs (Γ:Ctx3) (p:Par) (s:ISs):Prop:=∀ M X x,Lk Γ M p X->sZ s M x=true->dM X x (lowS X.K (zC Γ XN s))
include g
theorem ziz (i:Nat) (e:IE):OkS Γ p (.asg i e):=by
 intro M X x L h;obtain ⟨y,py,v,q,rfl,h1,h2,h3⟩:=zhF h
 .
  have lo:=zc3 L h2;have hN:=xS h1;rw[← L.N] at hN;have nd:X.N.Nodup:=L.N▸L.nd
  have low:∀ (te:TE),(∀ τ H Q,xO X.K (zH Γ XN e).e τ H Q->te τ H Q)->∀ D τ H,lowS X.K (zQ Γ XN (.asg i e)) D τ H->tAsg te (zfi i) D τ H:=fun te k D τ H hq=>by
   obtain ⟨σ,G,D3,hs,ab,f,hq⟩:=hq;refine k _ _ _ ⟨σ,G,hs,ab,yW g.mono XN e σ G _ _ (fun w G' hq v' H' g' rp ab'=>?_) hq⟩;exact f.nx _ G' _ H' g' ((hs.mono g').set rp i) ab' hq
  by_cases hl:fB v=true
  .exact (zbb (i:=i) nd hN lo.1 (tY g e M X v L h3).1 (kJ hl) lo.2).imp (low _ fun _ _ _ z=>z)
  .cases v with
   |ListComp x gens sc qq =>
    cases e with
    |lc tg names caps it c elt =>
     match gens,h3 with
     | [⟨t,ix,ifs,asy⟩],h3 =>
      have h3':=h3;replace h3:=bd10 h3;obtain ⟨⟨⟨⟨⟨⟨⟨⟨⟨z0,z1⟩,z2⟩,z3⟩,z4⟩,z5⟩,z6⟩,z7⟩,z8⟩,z9⟩:=h3;replace z0:=of_decide_eq_true z0;subst z0;have cond:∃ b,swapsWith (.ListComp x [⟨t,ix,ifs,0⟩] sc qq) (some (.Name y py)) q.line X.env=pure b:=⟨_,rfl⟩;obtain ⟨b,hb⟩:=cond
      cases b with
      |false=>exact (zbb (i:=i) nd hN lo.1 (tY g _ M X _ L h3').1 hb lo.2).imp (low _ fun _ _ _ z=>z)
      |true =>
       obtain ⟨c1,c2,c3,c4,c5,c6,c7,c8⟩:=cV g tg names caps it c elt (sndI g it) (sndO g c) (tY g elt) L (x:=x) (t:=t) (ix:=ix) (ifs:=ifs) (sc:=sc) (by simp only[Zh];exact ⟨⟨⟨⟨⟨⟨⟨⟨z1,z2⟩,z3⟩,z4⟩,z5⟩,z6⟩,z7⟩,z8⟩,z9⟩);exact (zeG (i:=i) L.fits.calm c1 c2 c3 c4 c5 c6 nd hN lo.1 lo.2 hb c7).imp (low _ c8)
    |_=>exact absurd h3 zzN
   |SetComp _ _ _ _=>cases e<;>exact absurd h3 zzN
   |DictComp _ _ _ _ _=>cases e<;>exact absurd h3 zzN
   |_=>exact absurd rfl hl
theorem sndTL {M:MC} {X:Cx} {ts:ITgs} {es:List Expr} {k:Nat} {q:Pos} (L:Lk Γ M p X) (h:mGs M ts es=true):PG X (.Tuple es k q) (lowG X.K fun w σ G Q=>zT (.tup ts) (unl G w) σ G Q):=by
 obtain ⟨ps,hn,hst⟩:=zgM L ts es h;refine (pg_tl (n:=es.length) L.fits.calm ps hn hst).imp fun v σ H Q q=>?_;obtain ⟨w,σ3,G,rp,hs,ab,q⟩:=q
 cases w with
 |tup ws =>
  obtain ⟨a,vs,rfl,sq,rs⟩:=rp;exact ⟨a,vs,rfl,.inl sq,by rw[rs.length];exact ze2 ts es ws σ3 G _ h q,ws,σ3,G,rs,hs,ab,q⟩
 |ref p =>
  cases (show v=.ref p from rp);simp only[unl] at q
  split at q
  .rename_i ws e;obtain ⟨vs,sq,rs⟩:=ab.seq e;exact ⟨p,vs,rfl,.inr sq,by rw[rs.length];exact ze2 ts es ws σ3 G _ h q,ws,σ3,G,rs,hs,ab,q⟩
  .exact q.elim
 |_=>exact q.elim
theorem zfO (ts:ITgs) (e:IE):OkS Γ p (.asgT ts e):=by
 intro M X x L h;obtain ⟨es,k,qt,v,q,rfl,h1,h2,h3,h4⟩:=zfe h
 .
  have pg:=sndTL g (k:=k) (q:=qt) L h3;refine (zjh (tY g e M X v L h4).1 pg (by unfold swapsWithSole;exact kJ h1) (by cases v<;>first|rfl|cases h2) rfl).imp fun D τ H hq=>?_;obtain ⟨σ,G,D3,hs,ab,f,hq⟩:=hq;refine ⟨σ,G,hs,ab,yW g.mono XN e σ G _ _ (fun w G' hq v' H' g' rp ab'=>?_) hq⟩;exact ⟨w,σ,G',rp,hs.mono g',ab',sE _ (unl G' w) σ G' _ _ (fun σ2 G2 hq τ2 H2 g2 hs2 a2=>f.nx σ2 G2 τ2 H2 (g'.trans g2) hs2 a2 hq) hq⟩
theorem zfP (i j:Nat) (e:IE):OkS Γ p (.asgS i j e):=fun M X x L h=>absurd h zzN
theorem zfQ (o i e:IE):OkS Γ p (.asgI o i e):=by
 intro M X x L h;obtain ⟨l,r,qs,v,q,rfl,h1,h2,h3,h4,h5⟩:=zff h
 .
  have pe:=(tY g e M X v L h5).1;have po:=(tY g o M X l L h3).1;have pi:=(tY g i M X r L h4).1;intro pins s τ H D I hq;obtain ⟨σ,G,D3,hs,ab,f,hq⟩:=hq
  have q1:xO X.K (zH Γ XN e).e τ H fun v H1=>xO X.K (zH Γ XN o).e τ H1 fun ov H2=>xO X.K (zH Γ XN i).e τ H2 fun iv H3=>zf9 X.K ov iv v H3 fun H4=>D.nx τ H4:=by
   refine xH (yW g.mono XN e) hs ab hq fun w G1 v1 H1 g1 hs1 r1 a1 hq=>?_;refine xH (yW g.mono XN o) hs1 a1 hq fun x G2 v2 H2 g2 hs2 r2 a2 hq=>?_;refine xH (yW g.mono XN i) hs2 a2 hq fun y G3 v3 H3 g3 hs3 r3 a3 hq=>?_;exact ⟨x,y,w,G3,r2.mono g3,r3,(r1.mono g2).mono g3,a3,zcB (fun G4 hq H4 g4 a4=>f.nx σ G4 τ H4 (g1.trans (g2.trans (g3.trans g4))) (hs3.mono g4) a4 hq) hq⟩
  refine wpAny_Assign_Subscript (xQ (pe pins s τ H _ I q1) fun u1 s1 ⟨v1,H1,I1,r1,q1⟩=>xQ (po pins s1 τ H1 _ I1 q1) fun u2 s2 ⟨v2,H2,I2,r2,q2⟩=>xQ (pi pins s2 τ H2 _ I2 q2) fun u3 s3 ⟨v3,H3,I3,r3,q3⟩=>?_) (kJ h1);exact xQ (ziN (hu_X g L) pins s3 τ H3 v2 v3 v1 u2 u3 u1 _ I3 r2 r3 r1 q3) fun _ s4 ⟨H4,I4,q4⟩=>⟨τ,H4,I4,q4⟩
theorem zfR (o:IE) (f:Str) (e:IE):OkS Γ p (.asgA o f e):=fun M X x L h=>absurd h zzN
theorem wD:OkS Γ p .retN/\OkS Γ p .pass/\OkS Γ p .brk/\OkS Γ p .cnt/\OkS Γ p .dead:=by
 refine ⟨fun M X x L h=>?_,fun M X x L h=>?_,fun M X x L h=>?_,fun M X x L h=>?_,fun M X x L h=>?_⟩
 .obtain ⟨q,rfl⟩:=zfb h;exact zg2.imp fun D τ H hq=>by obtain ⟨σ,G,D3,hs,ab,f,hq⟩:=hq;exact f.rt .non G _ H .refl (show wO X.K H .non .non from rfl) ab hq
 .obtain ⟨q,rfl⟩:=zfc h;exact zg3.imp fun D τ H hq=>by obtain ⟨σ,G,D3,hs,ab,f,hq⟩:=hq;exact f.nx σ G τ H .refl hs ab hq
 .obtain ⟨q,rfl⟩:=zhE h;exact zeJ.imp fun D τ H hq=>by obtain ⟨σ,G,D3,hs,ab,f,hq⟩:=hq;exact f.bk σ G τ H .refl hs ab hq
 .obtain ⟨q,rfl⟩:=zhB h;exact zaz.imp fun D τ H hq=>by obtain ⟨σ,G,D3,hs,ab,f,hq⟩:=hq;exact f.ct σ G τ H .refl hs ab hq
 .exact zeI.imp fun D τ H hq=>by obtain ⟨σ,G,D3,hs,ab,f,hq⟩:=hq;exact hq.elim
theorem t_ex (e:IE):OkS Γ p (.ex e):=by
 intro M X x L h;obtain ⟨v,q,rfl,hh⟩:=zkl h
 .have h:=hh;refine (zg4 (tY g e M X v L h.2).1 (kJ h.1)).imp fun D τ H hq=>?_;obtain ⟨σ,G,D3,hs,ab,f,hq⟩:=hq;exact xH (yW g.mono XN e) hs ab hq fun w G1 v1 H1 g1 hs1 r1 a1 hq=>f.nx σ G1 τ H1 g1 hs1 a1 hq
theorem ziw (e:IE):OkS Γ p (.ret e):=by
 intro M X x L h;obtain ⟨v,q,rfl,hh⟩:=zhx h
 .have h:=hh;refine (zcN (tY g e M X v L h).1).imp fun D τ H hq=>?_;obtain ⟨σ,G,D3,hs,ab,f,hq⟩:=hq;exact xH (yW g.mono XN e) hs ab hq fun w G1 v1 H1 g1 hs1 r1 a1 hq=>f.rt w G1 v1 H1 g1 r1 a1 hq
theorem zix (c:IE) (a b:ISs) (ha:OkSs Γ p a) (hb:OkSs Γ p b):OkS Γ p (.ite c a b):=by
 intro M X x L h;obtain ⟨t,y,z,q,rfl,hh⟩:=zhz h
 .have h:=hh;refine (zjf (tY g c M X t L h.1).2.1 (ha M X y L h.2.1) (hb M X z L h.2.2)).imp fun D τ H hq=>?_;obtain ⟨σ,G,D3,hs,ab,f,hq⟩:=hq;refine fJ (sF g.mono XN c) hs ab hq fun k G1 H1 g1 hs1 a1 hq=>?_
  split
  .rename_i hk;rw[if_pos hk] at hq;exact ⟨σ,G1,D3,hs1,a1,f.grow g1,hq⟩
  .rename_i hk;rw[if_neg hk] at hq;exact ⟨σ,G1,D3,hs1,a1,f.grow g1,hq⟩
theorem ziv (c:IE) (b:ISs) (hb:OkSs Γ p b):OkS Γ p (.whl c b):=by
 intro M X x L h;obtain ⟨t,y,q,rfl,hh⟩:=zhw h
 .have h:=hh;have hp:PassesOwn 'a' X.A X.env X.xe:=by rw[L.fits.xe];exact Zcr
  refine (zeF hp (tY g c M X t L h.1).2.1 (hb M X y L h.2)).imp fun D τ H hq=>?_;obtain ⟨σ,G,D3,hs,ab,f,Pv,⟨m0,p0⟩,step⟩:=hq;refine ⟨fun m τ H'=>yO X.K H H'/\∃ σ G,yT X.K H' σ τ/\xR X.K H' G/\Pv m σ G,⟨m0,.refl,σ,G,hs,ab,p0⟩,?_⟩;rintro m τ1 H1 ⟨g1,σ1,G1,hs1,a1,p1⟩;refine fJ (sF g.mono XN c) hs1 a1 (step m σ1 G1 p1) fun k G2 H2 g2 hs2 a2 hq=>?_
  split
  .rename_i hk;rw[if_pos hk] at hq;refine ⟨fun τ' H'=>∃ m',m' < m/\yO X.K H H'/\∃ σ G,yT X.K H' σ τ'/\xR X.K H' G/\Pv m' σ G,fun τ' H' z=>z,?_⟩;refine ⟨σ1,G2,_,hs2,a2,⟨?_,?_,?_,?_⟩,hq⟩
   .rintro σ3 G3 τ3 H3 g3 hs3 a3 ⟨m',hm,p'⟩;exact ⟨m',hm,g1.trans (g2.trans g3),σ3,G3,hs3,a3,p'⟩
   .exact fun σ3 G3 τ3 H3 g3 hs3 a3 z=>f.nx σ3 G3 τ3 H3 (g1.trans (g2.trans g3)) hs3 a3 z
   .rintro σ3 G3 τ3 H3 g3 hs3 a3 ⟨m',hm,p'⟩;exact ⟨m',hm,g1.trans (g2.trans g3),σ3,G3,hs3,a3,p'⟩
   .exact fun w G3 v3 H3 g3 r3 a3 z=>f.rt w G3 v3 H3 (g1.trans (g2.trans g3)) r3 a3 z
  .rename_i hk;rw[if_neg hk] at hq;exact f.nx σ1 G2 τ1 H2 (g1.trans g2) hs2 a2 hq
theorem ziy (tg:ITg) (it:II) (b:ISs) (hb:OkSs Γ p b):OkS Γ p (.for tg it b):=by
 intro M X x L h;obtain ⟨t,y,z,q,rfl,h1,h2,h3,h4⟩:=zhA h
 .
  have hp:PassesOwn 'a' X.A X.env X.xe:=by rw[L.fits.xe];exact Zcr
  refine (zjg hp L.fits.calm (sndI g it M X y L h3 t) (sndG L tg t h2) (hb M X z L h4) (pV h1)).imp fun D τ H hq=>?_;obtain ⟨σ,G,D3,hs,ab,f,hq⟩:=hq;refine ⟨σ,G,hs,ab,zcZ g.mono XN it σ G _ _ (fun items stab G1 hq J H1 g1 a1 ii=>?_) hq⟩;obtain ⟨Pv,p0,pst,step,fin⟩:=hq;refine ⟨fun i m τ H'=>m+i=items.length/\yO X.K H1 H'/\∃ σ G,yT X.K H' σ τ/\xR X.K H' G/\Pv i σ G,⟨items.length,rfl,.refl,σ,G1,hs.mono g1,a1,p0⟩,?_⟩;rintro i m τ2 H2 ⟨hm,g2,σ2,G2,hs2,a2,p2⟩;have st:=pst i σ2 G2 p2 (by omega)
  by_cases hi:i<items.length
  .refine .inr ⟨ii.go i H2 G2 g2 a2 st hi,fun τ' H'=>∃ m',m' < m/\(m'+(i+1)=items.length/\yO X.K H1 H'/\∃ σ G,yT X.K H' σ τ'/\xR X.K H' G/\Pv (i+1) σ G),fun τ' H' z=>z,fun x H' yl=>?_⟩;obtain ⟨w,ew,g3,rp,a3⟩:=ii.yld i H2 G2 x H' g2 a2 st hi yl;refine ⟨w,σ2,G2,rp,hs2.mono g3,a3,sE tg w σ2 G2 _ _ (fun σ4 G4 hq τ4 H4 g4 hs4 a4=>?_) (step i w σ2 G2 ew p2)⟩;refine ⟨σ4,G4,_,hs4,a4,⟨?_,?_,?_,?_⟩,hq⟩
   .exact fun σ5 G5 τ5 H5 g5 hs5 a5 z=>⟨m-1,by omega,by omega,g2.trans (g3.trans (g4.trans g5)),σ5,G5,hs5,a5,z⟩
   .exact fun σ5 G5 τ5 H5 g5 hs5 a5 z=>f.nx σ5 G5 τ5 H5 (g1.trans (g2.trans (g3.trans (g4.trans g5)))) hs5 a5 z
   .exact fun σ5 G5 τ5 H5 g5 hs5 a5 z=>⟨m-1,by omega,by omega,g2.trans (g3.trans (g4.trans g5)),σ5,G5,hs5,a5,z⟩
   .exact fun w5 G5 v5 H5 g5 r5 a5 z=>f.rt w5 G5 v5 H5 (g1.trans (g2.trans (g3.trans (g4.trans g5)))) r5 a5 z
  .have ei:i=items.length:=by omega
   subst ei;exact .inl ⟨ii.stop _ H2 G2 g2 a2 st (zzR _),f.nx σ2 G2 τ2 H2 (g1.trans g2) hs2 a2 (fin σ2 G2 p2)⟩
theorem zcy (s:ISs):OkSs Γ p s :=
 ISs.rec (motive_1:=OkS Γ p) (motive_2:=OkSs Γ p) (ziz g) (zfO g) (zfQ g) (zfR g) (t_ex g) (ziw g) (wD g).1 (wD g).2.1 (wD g).2.2.1 (wD g).2.2.2.1
  (fun c a b ha hb=>zix g c a b ha hb) (fun c b hb=>ziv g c b hb) (fun tg it b hb=>ziy g tg it b hb) (wD g).2.2.2.2 (zfP g)
  (fun M X x L h=>by
   cases zhy h;exact zcM.imp fun D τ H hq=>by obtain ⟨σ,G,D3,hs,ab,f,hq⟩:=hq;exact f.nx σ G τ H .refl hs ab hq)
  (fun s ss hs1 hs2 M X x L h=>by
   obtain ⟨y,ys,rfl,hh⟩:=zfd h
   .have h:=hh;refine (zba (hs1 M X y L h.1) (hs2 M X ys L h.2)).imp fun D τ H hq=>?_;obtain ⟨σ,G,D3,hs,ab,f,hq⟩:=hq;refine ⟨σ,G,{ D3 with nx:=zC Γ XN ss D3 },hs,ab,⟨?_,f.bk,f.ct,f.rt⟩,hq⟩;exact fun σ2 G2 τ2 H2 g2 hs2 a2 z=>⟨σ2,G2,D3,hs2,a2,f.grow g2,z⟩) s
end
end L3
namespace PySem
open Sem (wp)
section
variable {prog:Program} {w:World} {s:Shared} {A:Around} {E:Value->Shared->Prop}
def itc (b:Bool):String:=if b then "tuple_iterator" else "list_iterator"
def SIt (b:Bool) (h:Heap) (i l:Addr) (k:Nat):Prop:=∃ o,h.get? i=some o/\o.cls=.type (itc b)/\o.data=.fields #[.ref l,.int k 0]
def SSq (b:Bool) (h:Heap) (l:Addr) (its:Array Value):Prop:=match b with
 |true=>h.IsTuple l its
 |false=>h.IsList l its
theorem SIt.at {b:Bool} {h h':Heap} {i l:Addr} {k:Nat} (x:SIt b h i l k) (e:∀ o,h.get? i=some o->h'.get? i=some o):SIt b h' i l k:=let ⟨o,ho,r⟩:=x;⟨o,e _ ho,r⟩
theorem mH {b:Bool} {l:Addr} {its:Array Value} {Q:Value->Shared->Prop} (h:SSq b s.heap l its)
  (hQ:Q (.ref s.heap.objs.size) { s with heap:=s.heap.push { cls:=.type (itc b),data:=.fields #[.ref l,.int 0 0] } }):wpAny (model prog w) A (pyIter (.ref l)) Q E s:=by
 cases b
 .exact Zbs h hQ
 .exact wpAny_pyIter_tuple h hQ
abbrev zdG (it:Addr):Sem Value:=Builtin.SmallTypes.nextOf (.ref it)
theorem zfN {it:Addr} {Q:Value->Shared->Prop} (ty:s.TypeIs (.ref it) "tuple_iterator")
  (h:wpAny (model prog w) A.in1 (Builtin.«tuple_iterator.__next__» ⟨[.ref it],[]⟩) (fun f s'=>∃ v,f=.done (.ret v)/\Q v s') E s) :
  wpAny (model prog w) A (zdG it) Q E s:=by
 have sl:=F.slot_tuple_iterator_next;apply Za;apply ZQ ty sl;apply ZM sl ty F.entry_tuple_iterator_next _ (F.args_tuple_iterator_next_1 _);exact Z2 h (fun _ _ ⟨v,e,q⟩=>⟨v,e,Zc q⟩) fun _ _ e=>e
theorem nZ {it t:Addr} {i:Nat} {items} {x:Value} {Q:Value->Shared->Prop} (hit:s.heap.IsTupleIter it t i) (ht:s.heap.IsTuple t items) (hx:items[i]?=some x)
  (hQ:∀ h',h'.IsTupleIter it t (i+1)->Heap.SameBut it s.heap h'->Q x { s with heap:=h' }) :
  wpAny (model prog w) A (zdG it) Q E s:=by
 apply zfN hit.typeIs;obtain ⟨⟨c,di,da,sl⟩,g1,c1,d1⟩:=hit;obtain ⟨⟨c2,di2,da2,sl2⟩,g2,c2',n2,d2⟩:=ht;cases c1;cases d1;cases d2;obtain ⟨hp,ge,dr,tk,os⟩:=s
 wp_walk using ZaM g2,ZaM g1
 rw[Za4,hx]
 wp_walk using ZaM g1
 refine ⟨x,rfl,hQ _ ⟨_,ZD _ g1 rfl,rfl,?_⟩ (.update ..)⟩;exact congrArg (fun z=>Data.fields #[.ref t,z]) rfl
theorem mU {it t:Addr} {i:Nat} {items} {Q:Value->Shared->Prop} (hh:A.handled=none) (hit:s.heap.IsTupleIter it t i) (ht:s.heap.IsTuple t items) (hx:items[i]?=none)
  (hE:∀ g e,Heap.ExtBut it s.heap g->(∃ o,g.get? e=some o/\o.cls=.type "StopIteration")->E (.ref e) { s with heap:=g }) :
  wpAny (model prog w) A (zdG it) Q E s:=by
 apply zfN hit.typeIs;obtain ⟨⟨c,di,da,sl⟩,g1,c1,d1⟩:=hit;obtain ⟨⟨c2,di2,da2,sl2⟩,g2,c2',n2,d2⟩:=ht;cases c1;cases d1;cases d2;obtain ⟨hp,ge,dr,tk,os⟩:=s;have hh':A.in1.handled=none:=hh
 wp_walk using ZaM g2,ZaM g1
 rw[Za4,hx]
 wp_walk using ZaM g1
 unfold raiseNew
 wp_walk
 exact hE _ _ (fun b o n z=>Zb _ (Zb _ ((ZbH ..).extBut b o n z))) ⟨_,Zg _ rfl,rfl⟩
theorem zer {b:Bool} {it l:Addr} {i:Nat} {items:Array Value} {x:Value} {Q:Value->Shared->Prop} (hit:SIt b s.heap it l i) (hl:SSq b s.heap l items) (hx:items[i]?=some x)
  (hQ:∀ h',SIt b h' it l (i+1)->Heap.SameBut it s.heap h'->Q x { s with heap:=h' }):wpAny (model prog w) A (Builtin.SmallTypes.nextOf (.ref it)) Q E s:=by
 cases b
 .exact wpAny_nextOf_list_item hit hl hx hQ
 .exact nZ hit hl hx hQ
theorem zgO {b:Bool} {it l:Addr} {i:Nat} {items:Array Value} {Q:Value->Shared->Prop} (hh:A.handled=none) (hit:SIt b s.heap it l i) (hl:SSq b s.heap l items) (hx:items[i]?=none)
  (hE:∀ h' e,Heap.ExtBut it s.heap h'->(∃ o,h'.get? e=some o/\o.cls=.type "StopIteration")->E (.ref e) { s with heap:=h' }):wpAny (model prog w) A (Builtin.SmallTypes.nextOf (.ref it)) Q E s:=by
 cases b
 .exact wpAny_nextOf_list_end hh hit hl hx hE
 .exact mU hh hit hl hx hE
end
section
variable {prog:Program} {w:World} {s:Shared} {A:Around} {E:Value->Shared->Prop}
end
end PySem
namespace PySem
open Sem (wp)
section
variable {prog:Program} {w:World} {s:Shared} {A:Around} {E:Value->Shared->Prop}
theorem zak {M:Model} {a:Addr} {Q:Option Obj->Shared->Prop} (h:Q (s.heap.get? a) s):wpAny M A (loadIfAlive a) Q E s:=fun Γ p hΓ=>by
 unfold loadIfAlive;rw[Sem.wp_loadIfAlive];exact Zc h Γ p hΓ
end
end PySem
namespace L2
open PySem PySem.Spec PyProof.Rows
structure TurnL (P:Program) (w:World) (K:PySem.W.Frag) (T:String) (J:It) (fp:List Addr) (it:Addr) (tn:Nat->Heap->Prop):Prop where
 mem:it∈fp
 ty:∀ i h,tn i h->∃ o,h.get? it=some o/\o.cls=.type T
 obj:∀ i h,tn i h->∀ b∈fp,∃ o,h.get? b=some o/\∀ v,o.data≠.cell v
 keep:∀ i h h',tn i h->(∀ b∈fp,∀ o,h.get? b=some o->h'.get? b=some o)->tn i h'
 item:∀ (X:Cx),X.prog=P->X.w=w->X.K=K->X.calm=true->∀ (i:Nat) (pins:List (Addr×Obj)) (s:Shared) (σ:St) (H:Hp) (E:Value->Shared->Prop),Inv X pins σ H s->(∀ b∈fp,uJ X pins H b)->tn i s.heap->J.go i H ->
  wpAny (model P w) X.A (pyNext (.ref it)) (fun r s2=>∃ u x H',r=some u/\Inv X pins σ H' s2/\yY x u/\J.yld i H x H'/\tn (i+1) s2.heap/\∀ b∈fp,H' b=none) E s
 done:∀ (X:Cx),X.prog=P->X.w=w->X.K=K->X.calm=true->∀ (i:Nat) (pins:List (Addr×Obj)) (s:Shared) (σ:St) (H:Hp) (E:Value->Shared->Prop),Inv X pins σ H s->(∀ b∈fp,uJ X pins H b)->tn i s.heap->J.stop i H ->
  wpAny (model P w) X.A (pyNext (.ref it)) (fun r s1=>r=none/\Inv X pins σ H s1) E s
 self:∀ (A:Around) (i:Nat) (s:Shared) (Q:Value->Shared->Prop) (E:Value->Shared->Prop),tn i s.heap->Q (.ref it) s->wpAny (model P w) A (pyIter (.ref it)) Q E s
 hint:∀ (A:Around) (i:Nat) (s:Shared) (Q:Bool->Shared->Prop) (E:Value->Shared->Prop),tn i s.heap->(∀ b,Q b s)->wpAny (model P w) A (Builtin.List.listLengthHint (.ref it)) Q E s
abbrev Cx.atA (X:Cx) (A:Around):Cx:={ X with A:=A }
theorem Cx.Ok.atA {X:Cx} (ok:X.Ok) {A:Around} (hf:A.frames=X.A.frames) (hh:A.handled=X.A.handled):(X.atA A).Ok :=
 ⟨ok.mod,ok.kind,ok.glob,ok.blt,ok.above,ok.inj,ok.has,ok.cab,fun z=>hh.trans (ok.hd z),hf.trans ok.frames,ok.stk,ok.exf,ok.bs,ok.bsz,ok.noex,ok.exfs,ok.funs,ok.frf⟩
section
variable {X:Cx} {pins:List (Addr×Obj)} {σ:St} {H:Hp} {s:Shared}
theorem Inv.atA (I:Inv X pins σ H s) {A:Around} (hf:A.frames=X.A.frames) (hh:A.handled=X.A.handled):Inv (X.atA A) pins σ H s :=
 ⟨I.ok.atA hf hh,I.os,I.bare,I.base,I.loc,I.cell,I.free,I.freeC,I.pin,I.hok,I.len,I.tk⟩
theorem Inv.unA {A:Around} (hf:A.frames=X.A.frames) (hh:A.handled=X.A.handled) (I:Inv (X.atA A) pins σ H s):Inv X pins σ H s :=
 ⟨Cx.Ok.atA (X:=X.atA A) (A:=X.A) I.ok hf.symm hh.symm,I.os,I.bare,I.base,I.loc,I.cell,I.free,I.freeC,I.pin,I.hok,I.len,I.tk⟩
theorem zfo {P:Program} {w:World} {A:Around} {R:Result->Shared->Prop} (S I:Addr) (res:Value) (Jn:Nat->Shared->Prop)
  (step:∀ k s,Jn k s->wpAny (model P w) A.in1 (pyNext (.ref I)) (fun r s'=>match r with
   |none=>R (.ok (.ret res)) s'
   |some v=>∃ its c,s'.heap.get? S=some (vR its c)/\its.length<sizeLine/\∀ h',Heap.SameBut S s'.heap h'->h'.get? S=some (vR (its++[v]) (c+1))->∃ k',k' < k/\Jn k' { s' with heap:=h' }) (fun e s'=>R (.error e) s') s) :
  ∀ k s,Jn k s->codeAny (model P w) A (.builtin "list.extend.loop" ⟨[.ref S,.ref I,res],[]⟩) R s:=by
 intro k
 induction k using Nat.strongRecOn with
 |_ k ih =>
  intro s j;refine Zbm F.entry_extend_loop ?_;rw[ZaE Zbd _];show wpAny _ A.in1 (pyNext (.ref I) >>= _) _ _ s;refine Za (xQ (step k s j) fun r s' q=>?_)
  cases r with
  |none=>exact Zc q
  |some v =>
   obtain ⟨its,c,hS,hl,q⟩:=q;show wpAny _ A.in1 (updateSeq S (·.push v) >>= _) _ _ _;refine Za ?_;obtain ⟨k',hk,j'⟩:=q _ (ZbH ..) (by exact (ZD (Obj.mapSeq (·.push v)) hS rfl).trans (by simp[Obj.mapSeq,vR]));exact Za3 hS rfl (Zc ⟨ZaS Zbd _,ih k' hk _ j'⟩) (by show its.toArray.size<=sizeLine;rw[zzS];omega) (by show (its.toArray.push v).size<=sizeLine+1;rw[Array.size_push,zzS];omega)
theorem Inv.adopt {a:Addr} {o:HO} (I:Inv X pins σ H s) (off:Off X pins a) (hn:H a=none) (new:xM X.prog X.w (xP H a o) s.heap a o):Inv X pins σ (xP H a o) s:=by
 have b:=I.base;have nb:∀ b' ob,X.s₀.heap.get? b'=some ob->b'≠a:=fun b' ob e=>Zj (Ze (Zd e) off.ge);refine ⟨I.ok,I.os,I.bare,⟨b.keep,b.slot,fun c ob e n hx=>?_,b.there,fun c xs e=>?_,fun c ob u e=>?_,fun c ps e=>?_⟩,I.loc,I.cell,?_,fun x c e=>?_,fun p hp=>?_,I.hok.adopt (fun c u v _ q=>q) hn new,I.len,I.tk⟩
 .rw[zE (nb c ob e)];exact b.free c ob e n hx
 .rw[zE (yK (b.tups c xs e) hn)];exact b.tups c xs e
 .rw[zE (yK (b.frzs c ob u e) hn)];exact b.frzs c ob u e
 .obtain ⟨mo,e'⟩:=b.tbls c ps e;exact ⟨mo,by rw[zE (yK e' hn)];exact e'⟩
 .rw[zE off.ne.symm];exact I.free
 .rw[zE (off.cl x c e)];exact I.freeC x c e
 .obtain ⟨q1,q2,q3⟩:=I.pin p hp;exact ⟨q1,by rw[zE (off.pn p hp)];exact q2,q3⟩
theorem zc4 (hc:X.calm=true) {T:String} {J:It} {fp:List Addr} {it:Addr} {tn:Nat->Heap->Prop} {Q:VK} (hTl:(Value.type T==Value.type "list")=false) (hTt:(Value.type T==Value.type "tuple")=false)
  (I:Inv X pins σ H s) (Tn:TurnL X.prog X.w X.K T J fp it tn) (t0:tn 0 s.heap) (hf:∀ b∈fp,uJ X pins H b) (n:Nat) (hn:n<=sizeLine) (W:Nat->List V->Hp->Prop) (w0:W 0 [] H)
  (wgo:∀ i acc H,i<n->W i acc H->J.go i H/\∀ x H',J.yld i H x H'->W (i+1) (acc++[x]) H') (wst:∀ acc H,W n acc H->J.stop n H/\∀ p,H p=none->Q (.ref p) (xP H p (.lst acc))) :
  wpAny 'a' X.A (call (.type "list") [.ref it]) (EP X pins σ Q) X.xe s:=by
 have hfp:∀ b∈fp,b<s.heap.objs.size:=fun b hb=>by
  obtain ⟨o,e,_⟩:=Tn.obj _ _ t0 b hb;exact Zd e
 have hSf:∀ b∈fp,b≠s.heap.objs.size:=fun b hb=>Zj (hfp b hb);have hSI:s.heap.objs.size≠it:=(hSf it Tn.mem).symm;have off:Off X pins s.heap.objs.size:=I.off (zzR _);have nfs:s.heap.objs.size∉X.fs:=I.nofs (zzR _);have fr0:∀ b∈fp,H b=none:=fun b hb=>(hf b hb).1;have HS0:H s.heap.objs.size=none:=I.hok.fresh (zzR _)
 have fpok:∀ {H':Hp} {ob:Obj},(∀ b∈fp,H' b=none)->∀ b∈fp,uJ X ((s.heap.objs.size,ob)::pins) H' b:=fun {H' ob} hn b hb=>by
  obtain ⟨q1,q2,q3,q4,q5,q6⟩:=hf b hb;refine ⟨hn b hb,q2,q3,q4,q5,fun p hp=>?_⟩;rcases ZE.mp hp with hp|hp
  .exact q6 p (ZT _ hp)
  .rcases Zp.mp hp with rfl|hp
   .exact (hSf b hb).symm
   .exact q6 p (Zv _ hp)
 have pinS:∀ {H':Hp} {s':Shared} {its:List Value} {c:Nat},Inv X pins σ H' s'->H' s.heap.objs.size=none->s'.heap.get? s.heap.objs.size=some (vR its c)->Inv X ((s.heap.objs.size,vR its c)::pins) σ H' s':=fun {H' s' its c} I' hn e =>
  I'.pins_of fun p hp=>by
   rcases Zp.mp hp with rfl|hp
   .exact ⟨e,hn,off.ne,nfs,fun v z=>nomatch z⟩
   .exact I'.pin p (Zv _ hp)
 have unpin:∀ {H':Hp} {s':Shared} {ob:Obj},Inv X ((s.heap.objs.size,ob)::pins) σ H' s'->Inv X pins σ H' s':=fun {H' s' ob} I'=>I'.pins_of fun p hp=>I'.pin p (Zv _ (Zk _ hp))
 refine Zcw (Q₁:=fun obj s₁=>obj=.ref s.heap.objs.size/\s₁={ s with heap:=s.heap.push { cls:=.type "list", data:=.seq #[] } }) F.called_list (F.typeCall_list_1 _) F.entry_list_init
  (code_list_new _ ⟨rfl,rfl⟩) fun obj s₁ h₁=>?_
 obtain ⟨rfl,rfl⟩:=h₁;have hS:(s.heap.push { cls:=.type "list", data:=.seq #[] }).get? s.heap.objs.size=some { cls:=.type "list", data:=.seq #[] }:=Zg _ rfl;refine ⟨⟨_,hS,rfl⟩,F.args_list_init_2 _ _,?_⟩
 have loop:∀ (h':Heap) (c:Nat),h'.get? s.heap.objs.size=some (vR [] c)->(∀ b o,s.heap.get? b=some o->h'.get? b=some o) ->
   codeAny 'a' X.A.in1 (.builtin "list.extend.loop" ⟨[.ref s.heap.objs.size,.ref it,.none],[]⟩) (wants (fun r s₂=>r=.none/\EP X pins σ Q (.ref s.heap.objs.size) s₂) X.xe) { s with heap:=h' }:=by
  intro h' c e0 k0
  refine zfo s.heap.objs.size it .none (fun k s'=>∃ i acc H' its c,k+i=n/\Inv X pins σ H' s'/\tn i s'.heap/\(∀ b∈fp,H' b=none)/\H' s.heap.objs.size=none/\s'.heap.get? s.heap.objs.size=some (vR its c)/\zF acc its/\acc.length<=i/\W i acc H') ?_ n _
   ⟨0,[],H,[],c,by omega,I.kept (t':=s.toks) k0,Tn.keep _ _ _ t0 fun b _ o e=>k0 b o e,fr0,HS0,e0,.nil,zzR _,w0⟩
  rintro k s' ⟨i,acc,H',its,c',hk,I',st,fr,hS',oS,v,la,wi⟩;have Ip:=(pinS I' hS' oS).atA (A:=X.A.in1.in1) rfl rfl
  by_cases hi:i<n
  .obtain ⟨go,yl⟩:=wgo i acc H' hi wi;refine xQ (Tn.item (X.atA X.A.in1.in1) rfl rfl rfl hc i _ s' σ H' _ Ip (fpok fr) st go) fun r s2 ⟨u,x,H2,hr,I2,r2,y2,st2,fr2⟩=>?_;subst hr;have I2':=Inv.unA (X:=X) (A:=X.A.in1.in1) rfl rfl I2;have p2:=I2'.pin (s.heap.objs.size,vR its c') (Zv _ (zzT ..));refine ⟨its,c',p2.1,by rw[← v.length];omega,fun h'' sb e''=>⟨k-1,by omega,i+1,acc++[x],H2,its++[u],c'+1,by omega,off.turned (unpin I2') p2.2.1 sb,Tn.keep _ _ _ st2 fun b hb o e=>sb.extBut b o (hSf b hb) e,fr2,p2.2.1,e'',v.append (.cons r2 .nil),by rw[zzW];show acc.length+1<=i+1;omega,yl x H2 y2⟩⟩
  .have hin:i=n:=by omega
   subst hin;obtain ⟨yR,fin⟩:=wst acc H' wi;refine xQ (Tn.done (X.atA X.A.in1.in1) rfl rfl rfl hc i _ s' σ H' _ Ip (fpok fr) st yR) fun r s2 ⟨hr,I2⟩=>?_;subst hr;have I2':=Inv.unA (X:=X) (A:=X.A.in1.in1) rfl rfl I2;have p2:=I2'.pin (s.heap.objs.size,vR its c') (Zv _ (zzT ..));exact ⟨rfl,.ref s.heap.objs.size,xP H' s.heap.objs.size (.lst acc),(unpin I2').adopt off hS' ⟨by omega,its,c',v,p2.1⟩,rfl,fin _ hS'⟩
 show wpAny _ X.A.in1.in1 (do let old ← Builtin.List.listItems (.ref s.heap.objs.size);Builtin.List.listUpdate (.ref s.heap.objs.size) (fun _=>#[]);letGo old.toList.reverse;Builtin.List.listExtendWith (.ref s.heap.objs.size) (.ref it) .none) _ _ _;refine Za ?_;unfold Builtin.List.listItems;refine Za (wpAny_seqItems hS rfl (Zc ?_));show wpAny _ X.A.in1.in1 (updateSeq s.heap.objs.size (fun _=>#[]) >>= fun _=>letGo (#[]:Array Value).toList.reverse >>= fun _=>Builtin.List.listExtendWith (.ref s.heap.objs.size) (.ref it) .none) _ _ _;refine Za (Za3 hS rfl ?_);have hS₂:=ZD (Obj.mapSeq (fun _=>(#[]:Array Value))) hS rfl;generalize hh2:(s.heap.push { cls:=.type "list", data:=.seq #[] }).update s.heap.objs.size (Obj.mapSeq (fun _=>(#[]:Array Value)))=h2 at *
 have k2:∀ b o,s.heap.get? b=some o->h2.get? b=some o:=fun b o e=>by
  rw[← hh2,Zq _ _ (Z8 (Zd e))];exact Zb _ e
 have tn2:tn 0 h2:=Tn.keep _ _ _ t0 fun b _ o e=>k2 b o e;refine Za (wpAny_letGo ?_);unfold Builtin.List.listExtendWith;obtain ⟨oI,eI,cI⟩:=Tn.ty _ _ tn2;refine Za (Zbh (s:={ s with heap:=h2 }) ⟨oI,eI,cI⟩ ?_);have h1:Builtin.List.listSameRef (.ref s.heap.objs.size) (.ref it)=false:=by simp[Builtin.List.listSameRef,hSI]
 rw[if_neg (by rw[h1,hTl,hTt];decide)];refine Za (Tn.self _ 0 { s with heap:=h2 } _ _ tn2 ?_);refine Za (ZR (Tn.hint _ 0 { s with heap:=h2 } _ _ tn2 fun room=>?_));dsimp only
 split
 .refine Za (ZbG ?_);refine Za ?_;show wpAny _ X.A.in1.in1 (updateSeq s.heap.objs.size (·.push .none) >>= fun _=>updateSeq s.heap.objs.size (·.pop)) _ _ _;refine Za (Za3 hS₂ rfl ?_);have hS₃:=ZD (Obj.mapSeq (·.push Value.none)) hS₂ rfl;refine Za3 (hz:=by seq_fits) hS₃ rfl ?_;have hS₄:=ZD (Obj.mapSeq (·.pop)) hS₃ rfl;refine Zc ⟨ZaS Zbd _,loop _ _ hS₄ fun b o e=>?_⟩;rw[Zq _ _ (Z8 (Zd e)),Zq _ _ (Z8 (Zd e))];exact k2 b o e
 .exact Zc ⟨ZaS Zbd _,loop _ _ hS₂ k2⟩
end
end L2
namespace L2
open PySem PySem.Spec PyProof.Rows
def SqB (b:Bool) (K:PySem.W.Frag) (H:Hp) (a:Addr) (xs:List V):Prop:=match b with
 |true=>sP K H a xs
 |false=>rW K H a xs
theorem Inv.sqB {X:Cx} {pins:List (Addr×Obj)} {σ:St} {H:Hp} {s:Shared} {b:Bool} {a:Addr} {xs:List V} (I:Inv X pins σ H s) (h:SqB b X.K H a xs):∃ its:List Value,zF xs its/\SSq b s.heap a its.toArray/\xs.length<=sizeLine:=by
 cases b
 .obtain ⟨its,r,p,hz⟩:=I.list h;exact ⟨its,r,p.isList,hz⟩
 .obtain ⟨its,r,p,hz⟩:=I.tuple h;exact ⟨its,r,p,hz⟩
theorem Inv.sqB_inj {X:Cx} {pins:List (Addr×Obj)} {σ:St} {H:Hp} {s:Shared} {b:Bool} {a:Addr} {xs ys:List V} (I:Inv X pins σ H s) (h:SqB b X.K H a xs) (h':SqB b X.K H a ys):xs=ys:=by
 cases b
 .exact I.list_inj h h'
 .exact I.tuple_inj h h'
theorem Inv.turns {X:Cx} {pins:List (Addr×Obj)} {σ:St} {H:Hp} {s:Shared} {h':Heap} {t':Nat} {fp:List Addr} (I:Inv X pins σ H s) (hf:∀ b∈fp,uJ X pins H b) (k:∀ b o,b∉fp->s.heap.get? b=some o->h'.get? b=some o) (ht:0<t':=by first|exact ZI _|exact L2.Inv.tk (by assumption)|exact L2.Inv.tk ‹L2.Inv _ _ _ _ _› | assumption|omega):Inv X pins σ H { s with heap:=h',toks:=t' }:=by
 have nit:∀ b u,H b=some u->b∉fp:=fun b u e z=>by rw[(hf b z).1] at e;cases e
 refine I.step (g':=s.gens) (d':=s.drawn) (ch:=fp) (fun b hb=>?_) (fun b o _ _ hc e _=>k b o hc e) (fun b o _ _ hc e _=>⟨o.slots,k b o hc e⟩) (fun _ _ _ _ n=>n)
  (fun b o hc e=>⟨o,k b o hc e⟩) (fun _ _ e=>e) (fun _ _ _ e=>e) (fun b ps e=>⟨#[],by rw[e];simp⟩) (fun m hm=>?_) (fun b u e=>?_) I.bare
 .obtain ⟨_,q2,q3,q4,q5,q6⟩:=hf b hb;exact ⟨q4,q2,q5,q6⟩
 .obtain ⟨o,es,ep,ho,r⟩:=hm;exact ⟨o,es,ep,k _ o (fun z=>(hf _ z).2.1 rfl) ho,r⟩
 .refine (I.hok b u e).stay (fun c v hc q=>k c v ?_ q) (fun _ q=>q) fun _ _ q=>q;rcases hc with z|z
  .rw[z];exact nit b u e
  .exact nit c _ z
section
variable {a b:Bool} {z TI TO i1 i2 l1 l2:Addr}
variable {X:Cx} {pins:List (Addr×Obj)} {σ:St} {H:Hp} {s:Shared}
end
end L2
namespace L3
open PySem PySem.Spec PyProof.Rows L2
structure Pr where
 prog:Program
 w:World
 K:yS
 mg:Str->Option Value
 base:Heap
abbrev Pr.at (q:Pr) (A:Around):Par:=⟨q.prog,q.w,q.K,q.mg,q.base,A⟩
def tP (K:yS) (sp:nQ):Sp:=fun vs H Q E=>∃ ws G,zG K H ws vs/\xR K H G/\sp ws G (jE K H Q) XN
def yG (N:List Str) (ws:List W):xE:=ws.map some++List.replicate (N.length-ws.length) none
theorem rQ {K:yS} {H:Hp} {N:List Str} {ws:List W} {vs:List V} (r:zG K H ws vs):yT K H (yG N ws) (L2.start N vs):=by
 have hl:=r.length;refine ⟨by simp[yG,L2.start,hl],fun i w e=>?_⟩;unfold yG at e;unfold L2.start
 by_cases hi:i<ws.length
 .rw[ZaB (by simpa using hi),Zm] at e
  cases q:ws[i]? with
  |none=>rw[q] at e;cases e
  |some w' =>
   rw[q] at e;obtain rfl:w'=w:=Zx (Zx e);obtain ⟨v,ev,rp⟩:=r.get q;refine ⟨v,?_,rp⟩;rw[ZaB (by simp;omega),Zm,ev];rfl
 .rw[Zac (by simp;omega),Zbi] at e
  split at e<;>cases e
structure MOk (Γ:Ctx3) (M:MC) (sc:Scope):Prop where
 sc:M.sc=sc
 own:M.own=fun _=>true
 fns:Γ.fn.map (·.nm)=M.fns
 gls:Γ.gl.map (·.1)=M.gls
 mts:Γ.mt.map (·.nm)=M.mts
 its:Γ.it.map (·.nm)=M.its
 sxs:Γ.sx.map (·.m)=M.sxm
 ixs:Γ.ix.map (·.m)=M.ixm
def FnE (p:Par) (f:Fn3):Prop:=∀ X,Fits p X->Gl X f.nm->∀ (args:List Expr) (t:A3) (q pos:Pos),kT t->args.all noStar=true->PA X args (uV X.K t)->(args=[]->∀ σ G Q,t σ G Q->Q [] G)->(f.nm==("__debug__" : Str))=false->f.nm ≠ "__name__" ->
  PE X (.Call (.Name f.nm q) args [] pos) (xO X.K fun σ G Q=>t σ G fun ws G1=>f.sp ws G1 Q XN)
theorem xW {e:Expr} {es:List Expr} {env:Env} {pos:Pos} (h:(e::es).all noStar=true):starEach (e::es) env=(false,eval e env)::starEach es env/\(backTo pos (starEach es env)).any (·.1)=false:=by
 rw[Zax,Zh] at h;refine ⟨jT h.1,?_⟩;have h2:=h.2
 clear h
 induction es with
 |nil=>rfl
 |cons a r ih =>
  rw[Zax,Zh] at h2;rw[jT h2.1];show (false || (backTo pos (starEach r env)).any (·.1))=false;rw[ih h2.2];rfl
theorem Fits.eq {p:Par} {X:Cx} (f:Fits p X):p=⟨X.prog,X.w,X.K,X.mg,X.base,X.A⟩:=by
 obtain ⟨e1,e2,e3,e4,e5,e6,_,_⟩:=f;rw[e1,e2,e3,e4,e5,e6]
theorem pa_sp {X:Cx} {args:List Expr} {t:A3} {sp:nQ} {dws:List W} {dvs:List V} (m:kT t) (hd:∀ H,zG X.K H dws dvs) (mono:∀ ws G (Q Q':Q3),(∀ w G',Q w G'->Q' w G')->sp ws G Q XN->sp ws G Q' XN) {τ:L2.St} {H:Hp} {Q:VK} {E:XK}
  (h:xO X.K (fun σ G Q=>t σ G fun ws G1=>sp (ws++dws) G1 Q XN) τ H Q):zgI (tP X.K sp) dvs E (uV X.K t) τ H Q:=by
 obtain ⟨σ,G,hs,ab,h⟩:=h;refine tK m hs ab h fun ws G1 vs H1 g1 hs1 rs a1 h=>?_;exact ⟨ws++dws,G1,rs.append (hd H1),a1,mono _ _ _ _ (fun w G' z v' H' g'=>z v' H' (g1.trans g')) h⟩
theorem zkq {q:Pr} {k:Nat} {nm:Str} {f:Addr} {fd:FuncData} {ps:List Str} {ds:List Value} {dvs:List V} {dws:List W} {sp:nQ} (FO:FnOk q.prog q.w q.K q.mg q.base CX0 k f fd ps (tP q.K sp)) (hm:q.mg nm=some (.ref f)) (hk:PySem.W.keepIn q.K (.ref f)=true)
  (hb:tJ q.K fd ps ds) (hd:∀ H,zG q.K H dws dvs) (hv:zF dvs ds) (mono:∀ ws G (Q Q':Q3),(∀ w G',Q w G'->Q' w G')->sp ws G Q XN->sp ws G Q' XN) {A:Around} (hr:Room k A):FnE (q.at A) ⟨nm,fun ws G Q _=>sp (ws++dws) G Q XN⟩:=by
 intro X fits gl args t qp pos mt hn pa hnil hdb hnm;have e:=fits.eq
 injection e with e1 e2 e3 e4 e5 e6
 subst e6;rw[e1,e2,e3,e4,e5] at FO;rw[e4] at hm;rw[e3] at hk hb hd
 cases args with
 |nil =>
  refine (zeU (p:=qp) (pos:=pos) FO hr gl hm hk hb hv zju hdb).imp fun τ H Q h=>?_;obtain ⟨σ,G,hs,ab,h⟩:=h;have h:=hnil rfl _ _ _ h;exact ⟨dws,G,hd H,ab,h⟩
 |cons a r =>
  obtain ⟨s1,s2⟩:=xW (env:=X.env) (pos:=pos) hn;exact (zhd (p:=qp) (pos:=pos) FO hr gl hm hk hb hv zju pa hdb s1 s2).imp fun τ H Q h=>pa_sp (args:=a::r) mt hd mono h
end L3
namespace L3
open PySem PySem.Spec PyProof.Rows L2 PySem.SeqAt
abbrev RS:=List W->Hw->Q3->Prop
def wP (sp:RS):Prop:=∀ ws G (Q Q':Q3),(∀ w G',Q w G'->Q' w G')->sp ws G Q->sp ws G Q'
def vS (K:yS) (sp:RS):List V->Hp->VK->Prop:=fun vs H Q=>∃ ws G,zG K H ws vs/\xR K H G/\sp ws G (jE K H Q)
theorem nI {X:Cx} {t:A3} {sp:RS} (mt:kT t) (mono:wP sp) {τ:L2.St} {H:Hp} {Q:VK} (h:xO X.K (fun σ G Q=>t σ G fun ws G1=>sp ws G1 Q) τ H Q):tCB (vS X.K sp) (uV X.K t) τ H Q:=by
 obtain ⟨σ,G,hs,ab,h⟩:=h;exact tK mt hs ab h fun ws G1 vs H1 g1 hs1 rs a1 h=>⟨ws,G1,rs,a1,mono _ _ _ _ (fun w G' z v' H' g'=>z v' H' (g1.trans g')) h⟩
theorem fQ {q:Pr} {A:Around} {nm:Str} {id:String} {sp:RS} (hm:q.mg nm=none) (hv:bootBuiltins nm=some (.builtin id)) (hc:∀ X,Fits (q.at A) X->xB X (.builtin id) (vS X.K sp)) (mono:wP sp) (h0:∀ G Q,¬ sp [] G Q):FnE (q.at A) ⟨nm,fun ws G Q _=>sp ws G Q⟩:=by
 intro X fits gl args t qp pos mt hn pa hnil hdb hnm;have hm':X.mg nm=none:=by rw[fits.mg];exact hm
 cases args with
 |nil=>exact fun pins s σ H Q I h=>absurd (hnil rfl _ _ _ h.choose_spec.choose_spec.2.2) (h0 _ _)
 |cons a r =>
  obtain ⟨s1,s2⟩:=xW (env:=X.env) (pos:=pos) hn;exact (zeT (p:=qp) (pos:=pos) (hc X fits) gl hm' hv pa hnm hdb s1 s2).imp fun τ H Q h=>nI mt mono h
theorem zfl {q:Pr} {A:Around} {nm:Str} {T:String} {sp:RS} (hm:q.mg nm=none) (hv:bootBuiltins nm=some (.type T)) (hc:∀ X,Fits (q.at A) X->xB X (.type T) (vS X.K sp)) (mono:wP sp) (h0:∀ G Q,¬ sp [] G Q):FnE (q.at A) ⟨nm,fun ws G Q _=>sp ws G Q⟩:=by
 intro X fits gl args t qp pos mt hn pa hnil hdb hnm;have hm':X.mg nm=none:=by rw[fits.mg];exact hm
 cases args with
 |nil=>exact fun pins s σ H Q I h=>absurd (hnil rfl _ _ _ h.choose_spec.choose_spec.2.2) (h0 _ _)
 |cons a r =>
  obtain ⟨s1,s2⟩:=xW (env:=X.env) (pos:=pos) hn;exact (cQ (p:=qp) (pos:=pos) (hc X fits) gl hm' hv pa hnm hdb s1 s2).imp fun τ H Q h=>nI mt mono h
abbrev MS:=W->List W->Hw->Q3->Prop
def MtE (p:Par) (m:Mt3):Prop:=∀ X,Fits p X->∀ (o:Expr) (args:List Expr) (to:E3) (t:A3) (apos cpos:Pos),wI to->kT t->zfE o=true->(apos.endLine==cpos.line)=true->args.length<25->args.all noStar=true ->
  PE X o (xO X.K to)->PA X args (uV X.K t)->(args=[]->∀ σ G Q,t σ G Q->Q [] G)->PE X (.Call (.Attribute o m.nm apos) args [] cpos) (xO X.K fun σ G Q=>to σ G fun x G1=>tyW G1 x m.T/\t σ G1 fun ws G2=>m.sp x ws G2 Q)
def lowM (K:yS) (sp:MS):V->List V->Hp->VK->Prop:=fun x vs H Q=>∃ w ws G,wO K H w x/\zG K H ws vs/\xR K H G/\sp w ws G (jE K H Q)
theorem zfn {args:List Expr} {env:Env} {pos:Pos} (h:args.all noStar=true):(backTo pos (starEach args env)).all (fun x=>!x.1)=true:=by
 induction args with
 |nil=>rfl
 |cons a r ih =>
  rw[Zax,Zh] at h;rw[jT h.1];show (true&&(backTo pos (starEach r env)).all (fun x=>!x.1))=true;rw[ih h.2];rfl
theorem rC {p:Par} {nm:Str} {T id:String} {sp:MS} (pa:PlainAttrs T) (slot:Slot T nm id) (hty:typeOf (.builtin id)=pure (.type "method_descriptor")) (hm:∀ X,Fits p X->MtR X id (lowM X.K sp))
  (mono:∀ x ws G (Q Q':Q3),(∀ w G',Q w G'->Q' w G')->sp x ws G Q->sp x ws G Q'):MtE p ⟨nm,T,sp⟩:=by
 intro X fits o args to t apos cpos mo mt ho hline hlen hn po pa' hnil
 cases args with
 |nil =>
  refine (zjt pa slot hty (hm X fits) po (fH ho) hline).imp fun τ H Q h=>?_;obtain ⟨σ,G,hs,ab,h⟩:=h;refine xH mo hs ab h fun w G1 v H1 g1 hs1 rw1 a1 h=>⟨zfK rw1 a1 h.1,w,[],G1,rw1,rfl,a1,mono _ _ _ _ _ (fun w' G' z v' H' g'=>z v' H' (g1.trans g')) (hnil rfl _ _ _ h.2)⟩
 |cons a r =>
  obtain ⟨s1,s2⟩:=xW (env:=X.env) (pos:=cpos) hn;refine (pe_bm pa slot hty (hm X fits) po pa' (fH ho) ?_ hline s1 s2).imp fun τ H Q h=>?_
  .rw[zfn hn]
   have:(a::r).length+([]:List Keyword).length+(if ([]:List Keyword).isEmpty then 0 else 1)<30:=by
    show (a::r).length+0+0<30;omega
   rw[decide_eq_true this];rfl
  .obtain ⟨σ,G,hs,ab,h⟩:=h;refine xH mo hs ab h fun w G1 v H1 g1 hs1 rw1 a1 h=>⟨zfK rw1 a1 h.1,?_⟩;exact tK mt hs1 a1 h.2 fun ws G2 vs H2 g2 hs2 rs a2 h=>⟨w,ws,G2,rw1.mono g2,rs,a2,mono _ _ _ _ _ (fun w' G' z v' H' g'=>z v' H' (g1.trans (g2.trans g'))) h⟩
def maxS:RS:=fun ws G Q=>match ws with
 | [.int i,.int j]=>Q (.int (if j > i then j else i)) G
 |_=>False
theorem cM:wP maxS:=by
 intro ws G Q Q' k h;unfold maxS at h ⊢
 split at h
 .exact k _ _ h
 .exact h.elim
theorem gY {K:yS} {H:Hp} {a b:W} {vs:List V} (r:zG K H [a,b] vs):∃ x y,vs=[x,y]/\wO K H a x/\wO K H b y:=by
 obtain ⟨x,t,rfl,rx,y,t',rfl,ry,rt⟩:=r;cases (show t'=[] from rt);exact ⟨x,y,rfl,rx,ry⟩
theorem qX {K:yS} {H:Hp} {a:W} {vs:List V} (r:zG K H [a] vs):∃ x,vs=[x]/\wO K H a x:=by
 obtain ⟨x,t,rfl,rx,rt⟩:=r;cases (show t=[] from rt);exact ⟨x,rfl,rx⟩
theorem zjO {X:Cx} (hc:X.calm=true):xB X (.builtin "max") (vS X.K maxS):=by
 intro pins s σ H xs us Q I r h;obtain ⟨ws,G,rs,ab,h⟩:=h;unfold maxS at h
 split at h
 .rename_i i j;obtain ⟨x,y,rfl,rx,ry⟩:=gY rs;cases (show x=.int i from rx);cases (show y=.int j from ry);exact zdT hc pins s σ H _ us Q I r ⟨i,j,rfl,h _ H .refl rfl ab⟩
 .exact h.elim
def vE (G:Hw):W->Option Nat
 | .str x=>if x.length<=sizeLine then some x.length else none
 | .tup ws=>some ws.length
 | .ref p=>match G p with
  |some (.lst ws)=>some ws.length
  |some (.fix ws)=>some ws.length
  |some (.dic kvs)=>some kvs.length
  |_=>none
 |_=>none
def vD:RS:=fun ws G Q=>match ws with
 | [x]=>(match vE G x with|some n=>Q (.int n) G|none=>False)
 |_=>False
theorem cH:wP vD:=by
 intro ws G Q Q' k h;unfold vD at h ⊢
 split at h
 .split at h
  .exact k _ _ h
  .exact h.elim
 .exact h.elim
theorem zhq {X:Cx}:xB X (.builtin "len") (fun xs H Q=>∃ a kvs,xs=[V.ref a]/\H a=some (.dK kvs)/\Q (.int kvs.length) H):=by
 intro pins s σ H xs us Q I r h;obtain ⟨a,kvs,rfl,ha,q⟩:=h;obtain ⟨u,rfl,ru⟩:=jL r;cases ru;exact d_len I (.inl ha) fun t s' I'=>⟨.int kvs.length,H,I',⟨t,rfl⟩,q⟩
theorem zjT {X:Cx}:xB X (.builtin "len") (vS X.K vD):=by
 intro pins s σ H xs us Q I r h;obtain ⟨ws,G,rs,ab,h⟩:=h;unfold vD at h
 split at h
 .rename_i w;obtain ⟨v,rfl,rv⟩:=qX rs
  split at h
  .rename_i n hn;have q:Q (.int n) H:=h (.int n) H .refl rfl ab
   cases w with
   |str x =>
    cases (show v=.str x from rv);simp only[vE] at hn
    split at hn
    .rename_i hl;cases hn;exact zao pins s σ H _ us Q I r ⟨x,rfl,hl,q⟩
    .cases hn
   |tup ws' =>
    obtain ⟨a,vs,rfl,sq,rr⟩:=rv;simp only[vE] at hn;cases hn;exact vM pins s σ H _ us Q I r ⟨a,vs,rfl,.inr sq,by rw[rr.length];exact q⟩
   |ref p =>
    cases (show v=.ref p from rv);simp only[vE] at hn
    split at hn
    .rename_i ws' e;cases hn;obtain ⟨vs,sq,rr⟩:=ab.seq (show yU G p=some ws' by unfold yU;rw[e]);exact vM pins s σ H _ us Q I r ⟨p,vs,rfl,.inl sq,by rw[rr.length];exact q⟩
    .rename_i ws' e;cases hn;obtain ⟨vs,sq,rr⟩:=ab.seq (show yU G p=some ws' by unfold yU;rw[e]);exact vM pins s σ H _ us Q I r ⟨p,vs,rfl,.inl sq,by rw[rr.length];exact q⟩
    .rename_i kvs e;cases hn;obtain ⟨l,e',rl⟩:=ab.dic e;exact zhq pins s σ H _ us Q I r ⟨p,l,rfl,e',by rw[rl.length];exact q⟩
    .cases hn
   |_=>simp[vE] at hn
  .exact h.elim
 .exact h.elim
def wT (G:Hw):W->Option (List W)
 | .tup ws=>some ws
 | .ref p=>yU G p
 |_=>none
def lstS:RS:=fun ws G Q=>match ws with
 | [x]=>(match wT G x with|some xs=>∀ p,G p=none->Q (.ref p) (put G p (.lst xs))|none=>False)
 |_=>False
theorem cJ:wP lstS:=by
 intro ws G Q Q' k h;unfold lstS at h ⊢
 split at h
 .split at h
  .exact fun p hp=>k _ _ (h p hp)
  .exact h.elim
 .exact h.elim
theorem zcC {K:yS} {H:Hp} {G:Hw} {w:W} {v:V} {xs:List W} (ab:xR K H G) (r:wO K H w v) (e:wT G w=some xs):∃ a vs b,v=.ref a/\SqB b K H a vs/\zG K H xs vs:=by
 cases w with
 |tup ws =>
  obtain ⟨a,vs,rfl,sq,rr⟩:=r;cases e;exact ⟨a,vs,true,rfl,sq,rr⟩
 |ref p =>
  cases (show v=.ref p from r);obtain ⟨vs,sq,rr⟩:=ab.seq e;exact ⟨p,vs,false,rfl,sq,rr⟩
 |_=>cases e
theorem zjS {X:Cx}:xB X (.type "list") (vS X.K lstS):=by
 intro pins s σ H xs us Q I r h;obtain ⟨ws,G,rs,ab,h⟩:=h;unfold lstS at h
 split at h
 .rename_i w;obtain ⟨v,rfl,rv⟩:=qX rs
  split at h
  .rename_i ys hy;obtain ⟨a,vs,b,rfl,sq,rr⟩:=zcC ab rv hy;refine zan pins s σ H _ us Q I r ⟨a,vs,rfl,?_,jO ab rr h⟩;cases b
   .exact .inl sq
   .exact .inr sq
  .exact h.elim
 .exact h.elim
def allS (f:List Bool->Bool):RS:=fun ws G Q=>match ws with
 | [.ref p]=>∃ bs:List Bool,yU G p=some (bs.map .bl)/\Q (.bl (f bs)) G
 |_=>False
theorem bH (f:List Bool->Bool):wP (allS f):=by
 intro ws G Q Q' k h;unfold allS at h ⊢
 split at h
 .obtain ⟨bs,e,h⟩:=h;exact ⟨bs,e,k _ _ h⟩
 .exact h.elim
theorem fL {K:yS} {H:Hp}:∀ {bs:List Bool} {vs:List V} {us:List Value},zG K H (bs.map .bl) vs->zF vs us->us=bs.map .bool
 | [],vs,us,r,v=>by cases (show vs=[] from r);cases v;rfl
 |b::bs,vs,us,r,v=>by
  obtain ⟨x,t,rfl,rx,rt⟩:=r;cases (show x=.bl b from rx)
  cases v with
  |cons a c =>
   cases (show _=Value.bool b from a);rw[fL rt c];rfl
theorem zd0 (bs:List Bool):(List.range bs.length).all (fun i=>(bs[i]?).getD false)=bs.all id:=by
 rw[Zci,ZC,ZC]
 constructor
 .intro h b hb;obtain ⟨i,hi,rfl⟩:=List.mem_iff_getElem.mp hb;have:=h i (ZH.mpr hi)
  rwa[Zl hi] at this
 .intro h i hi;have hi:=ZH.mp hi;rw[Zl hi];exact h _ (ZJ hi)
theorem zfF {X:Cx} (hc:X.calm=true) {pins:List (Addr×Obj)} {s:Shared} {σ:L2.St} {H:Hp} {G:Hw} {p:Addr} {bs:List Bool} (I:Inv X pins σ H s) (ab:xR X.K H G) (e:yU G p=some (bs.map .bl)) {A:Around} (hh:A.handled=none) {E:Value->Shared->Prop}
  {R:Value->Shared->Prop} (h:∀ (I':Addr) (s₂:Shared),Walks X.prog X.w A I' [I',p] [I'] bs.length (fun i v=>(bs.map Value.bool).toArray[i]?=some v) (fun i h=>h.IsListIter I' p i/\h.IsList p (bs.map Value.bool).toArray)->(s₂.heap.IsListIter I' p 0/\s₂.heap.IsList p (bs.map Value.bool).toArray) ->
   (∀ h' tk,(∀ b o,b∉[I']->s₂.heap.get? b=some o->h'.get? b=some o)->0<tk->Inv X pins σ H { s₂ with heap:=h',toks:=tk })->R (.ref I') s₂):wpAny 'a' A (pyIter (.ref p)) R E s:=by
 obtain ⟨vs,sq,rr⟩:=ab.seq e;obtain ⟨its,rv,pl,hz⟩:=I.list sq;have eits:=fL rr rv;subst eits;have hl:=pl.isList;refine Zbs hl ?_
 have hne:p≠s.heap.objs.size:=by
  obtain ⟨o,ho,_⟩:=hl;exact Zj (Zd ho)
 have W:=Walks.list (prog:=X.prog) (w:=X.w) hh s.heap.objs.size p hne (bs.map Value.bool).toArray;have hn:(bs.map Value.bool).toArray.size=bs.length:=by simp
 rw[hn] at W;refine h _ _ W ⟨⟨_,Zg _ rfl,rfl,rfl⟩,hl.push _⟩ fun h' tk k h0=>I.kept (fun b o e=>k b o (fun hm=>?_) (Zb _ e)) h0;rw[ZG] at hm;exact Zj (Zd e) hm
theorem zee {P:Program} {w:World} {A:Around} {bs:List Bool}:TruthOf P w A (fun i v=>(bs.map Value.bool).toArray[i]?=some v) (fun i=>(bs[i]?).getD false):=by
 intro i v s Q E h q;have h':(bs[i]?).map Value.bool=some v:=by simpa using h
 cases e:bs[i]? with
 |none=>rw[e] at h';cases h'
 |some b =>
  rw[e] at h';cases h';have q':Q ((bs[i]?).getD false) s:=q;rw[e] at q';exact Z3 q'
theorem zkN {X:Cx} (hc:X.calm=true):xB X (.builtin "all") (vS X.K (allS (·.all id))):=by
 intro pins s σ H xs us Q I r h;obtain ⟨ws,G,rs,ab,h⟩:=h;unfold allS at h
 split at h
 .rename_i p;obtain ⟨v,rfl,rv⟩:=qX rs;cases (show v=.ref p from rv);obtain ⟨bs,e,h⟩:=h;obtain ⟨u,rfl,ru⟩:=jL r;cases ru;refine wE I.tk (call_all_walk (zfF hc I ab e (A:=X.A.in1) (I.ok.hd hc) fun I' s₂ W st k=>⟨I',_,_,_,_,_,_,rfl,W,st,zee,fun h' tk hk h0=>?_⟩));rw[zd0];exact ⟨.bl (bs.all id),H,k h' tk hk h0,rfl,h _ H .refl rfl ab⟩
 .exact h.elim
def tyO (G:Hw):W->Option String
 | .non=>some "NoneType"
 | .bl _=>some "bool"
 | .int _=>some "int"
 | .str _=>some "str"
 | .tup _=>some "tuple"
 | .ref p=>match G p with
  |some (.lst _)=>some "list"
  |some (.fix _)=>some "list"
  |some (.dic _)=>some "dict"
  |_=>none
 |_=>none
def popS:MS:=fun x ws G Q=>match x,ws with
 | .ref p,[]=>(match G p with
  |some (.lst xs)=>(match xs[xs.length-1]? with|some y=>Q y (put G p (.lst xs.dropLast))|none=>False)
  |_=>False)
 |_,_=>False
theorem cR:∀ x ws G (Q Q':Q3),(∀ w G',Q w G'->Q' w G')->popS x ws G Q->popS x ws G Q':=by
 intro x ws G Q Q' k h;unfold popS at h ⊢
 split at h
 .split at h
  .split at h
   .exact k _ _ h
   .exact h.elim
  .exact h.elim
 .exact h.elim
theorem zji {X:Cx}:MtR X "list.pop" (lowM X.K popS):=by
 intro pins s σ H x xs v us Q I rx rxs h;obtain ⟨w,ws,G,rw1,rs,ab,h⟩:=h;unfold popS at h
 split at h
 .rename_i p;cases (show x=.ref p from rw1);cases (show xs=[] from rs)
  split at h
  .rename_i ys e
   split at h
   .rename_i y ey;obtain ⟨vs,ev,rr⟩:=ab.lst e;obtain ⟨vy,evy,ry⟩:=rr.get ey;have gr:yO X.K H (xP H p (.lst vs.dropLast)):=ab.grow e;exact zjL pins s σ H _ _ v us Q I rx rxs ⟨p,vs,vy,rfl,rfl,ev,by rw[rr.length];exact evy,h vy _ gr (ry.mono gr) (ab.chg e ⟨_,rfl,rr.dropLast.mono gr⟩)⟩
   .exact h.elim
  .exact h.elim
 .exact h.elim
def nS:MS:=fun x ws G Q=>match x,ws with
 | .ref p,[y]=>(match G p with
  |some (.lst xs)=>xs.length<sizeLine/\Q .non (put G p (.lst (xs++[y])))
  |_=>False)
 |_,_=>False
theorem bI:∀ x ws G (Q Q':Q3),(∀ w G',Q w G'->Q' w G')->nS x ws G Q->nS x ws G Q':=by
 intro x ws G Q Q' k h;unfold nS at h ⊢
 split at h
 .split at h
  .exact ⟨h.1,k _ _ h.2⟩
  .exact h.elim
 .exact h.elim
theorem zkK {X:Cx}:MtR X "list.append" (lowM X.K nS):=by
 intro pins s σ H x xs v us Q I rx rxs h;obtain ⟨w,ws,G,rw1,rs,ab,h⟩:=h;unfold nS at h
 split at h
 .rename_i p y;cases (show x=.ref p from rw1);obtain ⟨vy,rfl,ry⟩:=qX rs
  split at h
  .rename_i ys e;obtain ⟨vs,ev,rr⟩:=ab.lst e;have gr:yO X.K H (xP H p (.lst (vs++[vy]))):=ab.grow e;exact zcY pins s σ H _ _ v us Q I rx rxs ⟨p,vs,vy,rfl,rfl,ev,by rw[rr.length];exact h.1,h.2 .non _ gr (show wO X.K _ .non .non from rfl) (ab.chg e ⟨_,rfl,(rr.append (show zG X.K H [y] [vy] from ⟨vy,[],rfl,ry,rfl⟩)).mono gr⟩)⟩
  .exact h.elim
 .exact h.elim
def idxS:MS:=fun x ws G Q=>match x,ws with
 | .ref p,[y]=>∃ xs,yU G p=some xs/\(kR y=true/\xF xs=true/\min (jQ xs) (uD y)<=150)/\(xs.any fun w=>jB w y)=true/\Q (.int ((xs.findIdx fun w=>jB w y:Nat):Int)) G
 |_,_=>False
theorem bX:∀ x ws G (Q Q':Q3),(∀ w G',Q w G'->Q' w G')->idxS x ws G Q->idxS x ws G Q':=by
 intro x ws G Q Q' k h;unfold idxS at h ⊢
 split at h
 .obtain ⟨xs,e,e1,e2,h⟩:=h;exact ⟨xs,e,e1,e2,k _ _ h⟩
 .exact h.elim
theorem zbs {X:Cx} {pins:List (Addr×Obj)} {σ:L2.St} {H:Hp} {s:Shared} (I:Inv X pins σ H s) {x:W}:∀ {ws:List W} {vs:List V} {us:List Value},zG X.K H ws vs->zF vs us->xF ws=true->us.map (eqI X.K H x)=ws.map fun w=>jB w x:=by
 intro ws
 induction ws with
 |nil=>intro vs us h r _;rw[show _=[] from h] at r;cases r;rfl
 |cons w ws ih =>
  intro vs us h r p;obtain ⟨v,t,e,h,hs⟩:=h;subst e
  cases r with
  |cons r rs =>
   have p':=xA.mp p;rw[zzU,zzU,zdy I h r p'.1,ih hs rs p'.2]
theorem findIdx_map {α:Type} (f:α->Bool):∀ l:List α,(l.map f).findIdx id=l.findIdx f
 | []=>rfl
 |a::r=>by
  rw[zzU,List.findIdx_cons,List.findIdx_cons,findIdx_map f r];rfl
theorem zko {X:Cx} (hu:X.A.units+200<cLine):MtR X "list.index" (lowM X.K idxS):=by
 intro pins s σ H x xs v us Q I rx rxs h;obtain ⟨w,ws,G,rw1,rs,ab,h⟩:=h;unfold idxS at h
 split at h
 .rename_i p y;cases (show x=.ref p from rw1);cases (show v=Value.ref p from rx);obtain ⟨vy,rfl,ry⟩:=qX rs;obtain ⟨uy,rfl,ruy⟩:=jL rxs;obtain ⟨ys,e,⟨p1,p2,p3⟩,ha,h⟩:=h;obtain ⟨vs,its,sq,rr,vv,_,pl,hz⟩:=gE I ab e;obtain ⟨o,n,ho,hc,hd,hdat⟩:=pl;have hm:=zbs I (x:=y) rr vv p2;have lenE:its.length=ys.length:=by rw[← vv.length,rr.length]
  have fe:its.findIdx (eqI X.K H y)=ys.findIdx (fun w=>jB w y):=by rw[← findIdx_map,hm,findIdx_map]
  have ha':its.any (eqI X.K H y)=true:=by rw[zdA I rr vv p2];exact ha
  have hlt:its.findIdx (eqI X.K H y)<its.length:=by
   rw[List.findIdx_lt_length];exact Zcc.mp ha'
  obtain ⟨cls,dd,data,sl⟩:=o;simp only at hc hdat;subst hc;subst hdat
  refine Zav PySem.F.slot_list_index ⟨_,ho,rfl⟩ PySem.F.entry_list_index (PySem.F.args_list_index_2 _ _)
   (list_indexAt p its.toArray n dd sl uy (eqI X.K H y) (its.findIdx (eqI X.K H y)) (by simpa using hlt) (by have:=Zt;omega) ?_ ?_) ⟨ho,fun z hz'=>?_,?_⟩
  .simpa using List.findIdx_getElem (w:=hlt)
  .intro m hm' hlt';simpa using List.not_of_lt_findIdx hlt'
  .refine zdz I ry ruy p1 rr vv p2 ?_ z (by simpa using hz');show X.A.units+1+min (jQ ys) (uD y)<cLine;omega
  .rw[fe];exact ⟨.int ((ys.findIdx fun w=>jB w y:Nat):Int),H,I.tok _,⟨_,rfl⟩,h _ H .refl rfl ab⟩
 .exact h.elim
theorem zkb {K:yS} {H1:Hp} {n:Nat}:ItIs K (Itr 0 n) H1 ((List.range n).map fun i=>W.int (i:Nat)) (fun _=>True) where
 go:=fun i H G _ ab st hi=>by show i<n;simpa using hi
 yld:=fun i H G x H' _ ab st hi y=>by
  obtain ⟨rfl,rfl⟩:=y;have hi':i<n:=by simpa using hi
  refine ⟨.int (i:Nat),by simp[hi'],.refl,?_,ab⟩;show V.int (0+(i:Int))=V.int (i:Int);rw[Int.zero_add]
 stop:=fun i H G _ ab st hi=>by show n<=i;simpa using hi
def ItE (p:Par) (i:It3):Prop:=∀ X,Fits p X->Gl X i.nm->∀ (tg:Expr) (args:List Expr) (t:A3) (q pos:Pos),kT t->args.all noStar=true->PA X args (uV X.K t)->(args=[]->∀ σ G Q,t σ G Q->Q [] G)->(i.nm==("__debug__" : Str))=false->i.nm ≠ "__name__" ->
  PI X tg (.Call (.Name i.nm q) args [] pos) (lowI X.K fun σ G R=>t σ G fun ws G1=>i.sp ws G1 R)
def lofM (nm:Str):Scope->Expr->Option (List Expr):=fun sc e=>match e with
 | .Call (.Name o _) [.Call (.Name x _) xs [] _] [] _=>if o==("list" : Str)&&x==nm&&qB sc o&&qB sc x&&!xs.isEmpty then some xs else none
 |_=>none
theorem zeZ {nm:Str} {sc:Scope} {e:Expr} {xs:List Expr} (h:lofM nm sc e=some xs):∃ qo q pos pos' a r,xs=a::r/\e=.Call (.Name "list" qo) [.Call (.Name nm q) (a::r) [] pos] [] pos'/\qB sc "list" = true/\qB sc nm=true:=by
 have no:¬ ((none:Option (List Expr))=some xs):=fun e=>nomatch e
 cases e with
 |Call f args kws pos' =>
  cases f with
  |Name o qo =>
   cases args with
   |nil=>exact absurd h no
   |cons c rest =>
    cases c with
    |Call g ys kw2 pos =>
     cases g with
     |Name x q =>
      cases kw2 with
      |nil =>
       cases rest with
       |nil =>
        cases kws with
        |nil =>
         replace h:(if (o==("list" : Str)&&x==nm&&qB sc o&&qB sc x&&!ys.isEmpty)=true then some ys else none)=some xs:=h
         by_cases hb:(o==("list" : Str)&&x==nm&&qB sc o&&qB sc x&&!ys.isEmpty)=true
         .rw[if_pos hb] at h;cases h;simp only[Zh,beq_iff_eq,ZaG,List.isEmpty_eq_false_iff] at hb;obtain ⟨⟨⟨⟨rfl,rfl⟩,h1⟩,h2⟩,h3⟩:=hb
          cases xs with
          |nil=>exact absurd rfl h3
          |cons a r=>exact ⟨qo,q,pos,pos',a,r,rfl,rfl,h1,h2⟩
         .rw[if_neg hb] at h;exact absurd h no
        |cons _ _=>exact absurd h no
       |cons _ _=>exact absurd h no
      |cons _ _=>exact absurd h no
     |_=>exact absurd h no
    |_=>exact absurd h no
  |_=>exact absurd h no
 |_=>exact absurd h no
def SxE (p:Par) (k:Sx3):Prop:=∀ X,Fits p X->∀ (e:Expr) (xs:List Expr) (es:List E3),k.m X.env.scope e=some xs->pA X xs es->xs.all noStar=true->PA X xs (uV X.K (rO es)) ->
  PE X e (xO X.K fun σ G Q=>rO es σ G fun ws G1=>k.sp ws G1 Q)/\(∀ whole,isTrue e X.env whole=(do let v ← whole;standAt e.pos;holding [v] (truthy v)))/\∀ op vs pos,e≠.BoolOp op vs pos
theorem wM {X:Cx}:∀ {xs:List Expr} {es:List E3},pA X xs es->kT (rO es)
 | [],[],_=>fun σ G Q Q' k h=>k _ _ h
 |_::_,_::_,⟨m,_,r⟩=>fun σ G Q Q' k h=>m σ G _ _ (fun x G1 h=>wM r σ G1 _ _ (fun xs G2 h=>k _ _ h) h) h
theorem ziH {q:Pr} {A:Around} {nm:Str} {T:String} {sp:RS} (hl:q.mg "list" = none) (hm:q.mg nm=none) (hv:bootBuiltins nm=some (.type T)) (mono:wP sp)
  (hc:∀ X,Fits (q.at A) X->∀ (pins:List (Addr×Obj)) (s:Shared) (σ:L2.St) (H:Hp) (vs:List V) (us:List Value) (Q:VK),Inv X pins σ H s->zF vs us->vS X.K sp vs H Q ->
   wpAny 'a' X.A (call (.type T) us) (fun v s1=>wpAny 'a' X.A (call (.type "list") [v]) (EP X pins σ Q) X.xe s1) X.xe s):SxE (q.at A) ⟨lofM nm,sp⟩:=by
 intro X fits e xs es he each hn pa;obtain ⟨qo,qq,pos,pos',a,r,rfl,rfl,g1,g2⟩:=zeZ he;obtain ⟨gl1,d1,n1⟩:=uR rfl g1;obtain ⟨gl2,d2,n2⟩:=uR rfl g2;have hl':X.mg "list" = none:=by rw[fits.mg];exact hl
 have hm':X.mg nm=none:=by rw[fits.mg];exact hm
 refine ⟨fun pins s σ H Q I h=>?_,fun _=>rfl,fun _ _ _ z=>nomatch z⟩;obtain ⟨s1,s2⟩:=xW (env:=X.env) (pos:=pos) hn;have h':=nI (wM each) mono h;refine ZP (vQ I gl1 hl' boot_list ?_ n1 d1);refine ZU (e:=.Call (.Name nm qq) (a::r) [] pos) (rest:=[]) ?_ rfl rfl;show wpAny _ _ (spliced ((false,eval (.Call (.Name nm qq) (a::r) [] pos) X.env)::backTo pos' (starEach [] X.env))) _ _ s;refine ZbP (ZP (vQ I gl2 hm' hv (ZU (xQ (pa pos pins s σ H _ I h') fun us s1 ⟨vs,H1,I1,r1,q1⟩=>?_) s1 s2) n2 d2));exact xQ (hc X fits pins s1 σ H1 vs us Q I1 r1 q1) fun v s2 z=>Zb1 z
def Itv (K:yS) (a:Addr) (n:Nat):It where
 go:=fun i H=>∃ xs,rW K H a xs/\xs.length=n/\i<n
 yld:=fun i H v H'=>H'=H/\∀ xs,rW K H a xs->xs.length=n->xs[n-1-i]?=some v
 stop:=fun i H=>i=n
theorem zbT:typeLookup (.type "list_reverseiterator") "__len__" = pure none:=by rw[Zaj,ZW];kernel_rfl
theorem zeY:typeLookup (.type "list_reverseiterator") "__length_hint__" = pure (some (.builtin "list_reverseiterator.__length_hint__")):=by rw[Zaj,ZW];kernel_rfl
theorem zgR {P:Program} {w:World} {A:Around} {it a:Addr} {i:Int} {s:Shared} {Q:Bool->Shared->Prop} {E:Value->Shared->Prop} (st:s.heap.IsRevIter it a i) (h:∀ b,Q b s):wpAny (model P w) A (Builtin.List.listLengthHint (.ref it)) Q E s:=by
 have hT:=st.typeIs;unfold Builtin.List.listLengthHint;refine Za (Zak hT zbT ?_);show wpAny _ _ (specialOf (Value.ref it) (Str.ofString "__length_hint__") >>= _) _ _ _;refine Za (Zak hT zeY ?_)
 (generalize hid:("list_reverseiterator.__length_hint__" : String)=id0;(fail_if_success (clear hid id0));wp_delta;rw[show splitId id0=some ("list_reverseiterator", "__length_hint__") from by subst hid;decide +kernel];subst hid)
 refine Za (Zbc (b:=true) hT (by rw[Za8];kernel_rfl) ?_);exact Zc (h _)
theorem zeu (P:Program) (w:World) (K:yS) {it a:Addr} {n:Nat} (hne:a≠it):TurnL P w K "list_reverseiterator" (Itv K a n) [it] it (fun i h=>i<=n/\h.IsRevIter it a ((n:Int)-1-i)) where
 mem:=by simp
 ty:=fun i h ⟨_,o,ho,hc,_⟩=>⟨o,ho,hc⟩
 obj:=fun i h ⟨_,o,ho,hc,hd⟩ b hb=>by
  rw[ZG] at hb;subst hb;exact ⟨o,ho,fun v z=>by rw[hd] at z;cases z⟩
 keep:=fun i h h' ⟨hi,x⟩ k=>⟨hi,x.at fun o e=>k it (by simp) o e⟩
 item:=by
  intro X e1 e2 e3 hc i pins s σ H E I hf st go;subst e1;subst e2;subst e3;obtain ⟨hi,st⟩:=st;obtain ⟨xs,sq,ln,hlt⟩:=go;obtain ⟨its,rv,pl,hz⟩:=I.list sq;have hlx:n-1-i<xs.length:=by omega
  obtain ⟨u,eu,ru⟩:=rv.get (Zl hlx);have e:(n:Int)-1-(i:Int)=((n-1-i:Nat):Int):=by omega
  rw[e] at st;refine wpAny_pyNext_rev_item st pl.isList (x:=u) (by simpa using eu) fun h' st' sb=>?_;have e':((n-1-i:Nat):Int)-1=(n:Int)-1-((i+1:Nat):Int):=by omega
  rw[e'] at st';obtain ⟨f1,f2,f3,f4,f5,f6⟩:=hf it (by simp);refine ⟨u,xs[n-1-i],H,rfl,I.turned (t':=s.toks) (fun b o hb e=>sb.extBut b o hb e) f1 f2 f4 f5 f6,ru,⟨rfl,fun ys sq' _=>by rw[I.list_inj sq' sq];exact Zl hlx⟩,⟨hlt,st'⟩,fun b hb=>(hf b hb).1⟩
 done:=by
  intro X e1 e2 e3 hc i pins s σ H E I hf st stop;subst e1;subst e2;subst e3;obtain ⟨hi,st⟩:=st;have hin:i=n:=stop;subst hin;have e:(i:Int)-1-(i:Int)=-1:=by omega
  rw[e] at st;obtain ⟨f1,f2,f3,f4,f5,f6⟩:=hf it (by simp);exact wpAny_pyNext_rev_end (I.ok.hd hc) st fun h' k=>⟨rfl,I.turned (t':=s.toks) (fun b o hb e=>k b o hb e) f1 f2 f4 f5 f6⟩
 self:=fun A i s Q E st h=>wpAny_pyIter_revIter st.2 h
 hint:=fun A i s Q E st h=>zgR st.2 h
def revS:RS:=fun ws G Q=>match ws with
 | [.ref p]=>∃ xs,yU G p=some xs/\∀ r,G r=none->Q (.ref r) (put G r (.lst xs.reverse))
 |_=>False
theorem cU:wP revS:=by
 intro ws G Q Q' k h;unfold revS at h ⊢
 split at h
 .obtain ⟨xs,e1,h⟩:=h;exact ⟨xs,e1,fun p hp=>k _ _ (h p hp)⟩
 .exact h.elim
theorem zi1 {X:Cx} (hc:X.calm=true) (pins:List (Addr×Obj)) (s:Shared) (σ:L2.St) (H:Hp) (vs:List V) (us:List Value) (Q:VK) (I:Inv X pins σ H s) (r:zF vs us) (h:vS X.K revS vs H Q) :
  wpAny 'a' X.A (call (.type "reversed") us) (fun v s1=>wpAny 'a' X.A (call (.type "list") [v]) (EP X pins σ Q) X.xe s1) X.xe s:=by
 obtain ⟨ws,G,rs,ab,h⟩:=h;unfold revS at h
 split at h
 .rename_i p;obtain ⟨v,rfl,rv⟩:=qX rs;cases (show v=.ref p from rv);obtain ⟨u,rfl,ru⟩:=jL r;cases (show u=Value.ref p from ru);obtain ⟨xs,e,h⟩:=h;obtain ⟨vs,sq,rr⟩:=ab.seq e;obtain ⟨its,vv,pl,hz⟩:=I.list sq;have hl:=pl.isList
  have hlt:p<s.heap.objs.size:=by
   obtain ⟨o,ho,_⟩:=hl;exact Zd ho
  refine call_reversed_list hl ?_;have I1:Inv X pins σ H { s with heap:=s.heap.push (revObj p ((its.toArray.size:Int)-1)),toks:=s.toks }:=I.kept fun b u e=>Zb _ e;have en:its.toArray.size=vs.length:=by rw[zzS,← vv.length]
  refine zc4 hc (by decide) (by decide) I1 (zeu X.prog X.w X.K (n:=vs.length) (Zj hlt)) ⟨Zan _,?_⟩ (fun b hb=>?_) vs.length hz
   (fun i acc H'=>H'=H/\acc=vs.reverse.take i) ⟨rfl,by simp⟩ ?_ ?_
  .refine ⟨_,Zg _ rfl,rfl,?_⟩;show Data.fields #[.ref p,rawInt ((its.toArray.size:Int)-1)]=_;rw[en];simp
  .rw[ZG] at hb;subst hb;exact I.fpOk (zzR _) (I.hok.fresh (zzR _))
  .rintro i acc H' hi ⟨rfl,rfl⟩;refine ⟨⟨vs,sq,rfl,hi⟩,?_⟩;rintro v H2 ⟨rfl,e2⟩;refine ⟨rfl,?_⟩;have e2:=e2 vs sq rfl;have hl':i<vs.reverse.length:=by simpa using hi
   rw[ZS hl'];congr 2;have:vs.reverse[i]?=some v:=by rw[Zbu hi];exact e2
   exact (Zx ((Zl hl').symm.trans this)).symm
  .rintro acc H' ⟨rfl,rfl⟩;refine ⟨rfl,?_⟩;rw[Zad (by simp)];exact jO ab rr.reverse h
 .exact h.elim
end L3
namespace L3
open PySem PySem.Spec PyProof.Rows L2
def zV (S:List Addr) (G G':Hw):Prop:=∀ a o,a∉S->G a=some o->G' a=some o
theorem zV.refl {S:List Addr} {G:Hw}:zV S G G:=fun _ _ _ h=>h
theorem zV.trans {S:List Addr} {G G1 G2:Hw} (a:zV S G G1) (b:zV S G1 G2):zV S G G2:=fun x o hx h=>b x o hx (a x o hx h)
theorem zV.put {S:List Addr} {G:Hw} {p:Addr} {o:O} (h:p∈S):zV S G (put G p o):=fun x u hx hu=>by
 rw[xJ (fun e:x=p=>hx (e▸h))];exact hu
theorem zV.new {S:List Addr} {G:Hw} {p:Addr} {o:O} (h:G p=none):zV S G (L3.put G p o):=fun x u hx hu=>by
 rw[xJ (pE hu h)];exact hu
theorem zV.none {S:List Addr} {G G':Hw} {p:Addr} (k:zV S G G') (hp:p∉S) (h:G' p=Option.none):G p=Option.none:=by
 cases e:G p with
 |none=>rfl
 |some o=>rw[k p o hp e] at h;cases h
theorem zV.mono {S S':List Addr} {G G':Hw} (k:zV S G G') (h:∀ a∈S,a∈S'):zV S' G G':=fun x o hx hu=>k x o (fun z=>hx (h x z)) hu
abbrev kS:yM:=.inr "seed"
abbrev kN:yM:=.inr "number"
abbrev kL:yM:=.inr "left"
def zkB (seed jR:Int) (l:Addr):O:=.dic [(kS,.int seed),(kN,.int jR),(kL,.ref l)]
structure DealS (G:Hw) (d l:Addr) (seed jR:Int) (left:List Int):Prop where
 dic:G d=some (zkB seed jR l)
 lst:G l=some (.lst (left.map .int))
 s0:0<=seed
 s1:seed<2147483647
 n0:0<=jR
 lf:∀ x∈left,(0:Int)<=x
 len:left.length<=63
 ne:d≠l
def yA (G:Hw) (d l:Addr):Prop:=∃ seed jR left,DealS G d l seed jR left
theorem dgS {a b c:W}:uQ [(kS,a),(kN,b),(kL,c)] kS=some a:=by rfl
theorem dgN {a b c:W}:uQ [(kS,a),(kN,b),(kL,c)] kN=some b:=by
 have e1:¬ (kS=kN):=by decide +kernel
 unfold uQ;rw[Zbo (by simp[e1]),List.find?_cons_of_pos (by simp)];rfl
theorem dgL {a b c:W}:uQ [(kS,a),(kN,b),(kL,c)] kL=some c:=by
 have e1:¬ (kS=kL):=by decide +kernel
 have e2:¬ (kN=kL):=by decide +kernel
 unfold uQ;rw[Zbo (by simp[e1]),Zbo (by simp[e2]),List.find?_cons_of_pos (by simp)];rfl
theorem dpN {a b c x:W}:qH [(kS,a),(kN,b),(kL,c)] kN x=[(kS,a),(kN,x),(kL,c)]:=by
 unfold qH;have e1:¬ (kS=kN):=by decide +kernel
 have e2:¬ (kL=kN):=by decide +kernel
 simp[e1,e2]
theorem dpS {a b c x:W}:qH [(kS,a),(kN,b),(kL,c)] kS x=[(kS,x),(kN,b),(kL,c)]:=by
 unfold qH;have e1:¬ (kN=kS):=by decide +kernel
 have e2:¬ (kL=kS):=by decide +kernel
 simp[e1,e2]
def zkH:ISs:=(.cons (.whl (.and (.cmp .Eq (.ix (.var 0) (.con (.str "number"))) (.con (.int 0))) (.cmp .Gt (.call 1 (.cons (.ix (.var 0) (.con (.str "left"))) .nil)) (.con (.int 0)))) (.cons (.asgI (.var 0) (.con (.str "number")) (.mth 0 (.ix (.var 0) (.con (.str "left"))) .nil))
 .nil))
 (.cons (.asg 2 (.ix (.var 0) (.con (.str "number"))))
 (.cons (.ite (.cmp .Gt (.var 2) (.con (.int 0))) (.cons (.asgI (.var 0) (.con (.str "number")) (.bin .FloorDiv (.var 2) (.var 1)))
 (.cons (.ret (.bin .Mod (.var 2) (.var 1)))
 .nil)) .nil)
 (.cons (.asg 3 (.bin .Mod (.bin .Add (.bin .Mult (.ix (.var 0) (.con (.str "seed"))) (.con (.int 48271))) (.con (.int 7919))) (.con (.int 2147483647))))
 (.cons (.asgI (.var 0) (.con (.str "seed")) (.bin .Mod (.bin .Add (.bin .Mult (.var 3) (.con (.int 40692))) (.con (.int 104729))) (.con (.int 2147483399))))
 (.cons (.asg 4 (.bin .Mod (.bin .Mult (.ix (.var 0) (.con (.str "seed"))) (.ix (.var 0) (.con (.str "seed")))) (.con (.int 2147483563))))
 (.cons (.ret (.bin .Mod (.bin .Add (.bin .Mult (.bin .Mod (.bin .Mult (.var 3) (.var 3)) (.con (.int 2147483629))) (.con (.int 2147483563))) (.var 4)) (.var 1)))
 .nil)))))))
abbrev nU:Fn3:=⟨"len", fun ws G Q _=>vD ws G Q⟩
abbrev ePop:Mt3:=⟨"pop", "list", popS⟩
theorem DealS.put {G:Hw} {d l:Addr} {seed jR:Int} {left:List Int} (D:DealS G d l seed jR left) {seed' num':Int} (h1:0<=seed') (h2:seed' < 2147483647) (h3:0<=num'):DealS (put G d (zkB seed' num' l)) d l seed' num' left :=
 ⟨zW,by rw[xJ D.ne.symm];exact D.lst,h1,h2,h3,D.lf,D.len,D.ne⟩
theorem zbX {i j:Int}:jB (.int i) (.int j)=decide (i=j):=by
 simp[jB,Bool.beq_eq_decide_eq]
theorem wB {G:Hw} {i j:Int}:eqG G (.int i) (.int j)=some (decide (i=j)):=by
 simp[eqG,kR,uD,zbX]
theorem zeX {left:List Int}:(left.map W.int)[left.length-1]?=(left[left.length-1]?).map W.int:=by simp
theorem modb {a m:Int} (h:0<m):0<=a % m/\a % m<m:=⟨Int.emod_nonneg _ (by omega),Int.emod_lt_of_pos _ h⟩
theorem bT {d l:Addr} {m:Int} {G G1:Hw} {Q:Q3} {seed jR:Int} {left:List Int} (D:DealS G1 d l seed jR left) (kp:zV [d,l] G G1) (hm:0<m/\m<1073741824) (few:∀ {a b c:W},[(kS,a),(kN,b),(kL,c)].length<sizeLine)
  (hq:∀ r G',0<=r->r<m->zV [d,l] G G'->yA G' d l->Q (.int r) G'):if decide (0<jR)=true then
   CDiv jR m/\[(kS,W.int seed),(kN,W.int jR),(kL,W.ref l)].length<sizeLine/\0<m/\Q (W.int (jR % m)) (put G1 d (O.dic [(kS,W.int seed),(kN,W.int (jR / m)),(kL,W.ref l)]))
  else
   CMul seed 48271/\(0:Int)<2147483647/\CMul ((seed * 48271+7919) % 2147483647) 40692/\(0:Int)<2147483399/\[(kS,W.int seed),(kN,W.int jR),(kL,W.ref l)].length<sizeLine /\
   CMul (((seed * 48271+7919) % 2147483647 * 40692+104729) % 2147483399) (((seed * 48271+7919) % 2147483647 * 40692+104729) % 2147483399)/\(0:Int)<2147483563 /\
   CMul ((seed * 48271+7919) % 2147483647) ((seed * 48271+7919) % 2147483647)/\(0:Int)<2147483629 /\
   CMul ((seed * 48271+7919) % 2147483647 * ((seed * 48271+7919) % 2147483647) % 2147483629) 2147483563/\0<m /\
   Q (W.int (((seed * 48271+7919) % 2147483647 * ((seed * 48271+7919) % 2147483647) % 2147483629 * 2147483563+((seed * 48271+7919) % 2147483647 * 40692+104729) % 2147483399 * (((seed * 48271+7919) % 2147483647 * 40692+104729) % 2147483399) % 2147483563) % m))
    (put G1 d (O.dic [(kS,W.int (((seed * 48271+7919) % 2147483647 * 40692+104729) % 2147483399)),(kN,W.int jR),(kL,W.ref l)])):=by
 split
 .exact ⟨hm,few,hm.1,hq _ _ (modb hm.1).1 (modb hm.1).2 (kp.trans (zV.put (by simp))) ⟨seed,jR / m,left,D.put D.s0 D.s1 (Int.ediv_nonneg D.n0 (by omega))⟩⟩
 .have b1:=modb (a:=seed * 48271+7919) (m:=2147483647) (by decide);generalize (seed * 48271+7919) % 2147483647=x at b1 ⊢;have b2:=modb (a:=x * 40692+104729) (m:=2147483399) (by decide);generalize (x * 40692+104729) % 2147483399=y at b2 ⊢;refine ⟨.inr ⟨by decide,by decide⟩,by decide,.inr ⟨by decide,by decide⟩,by decide,few,.inl ⟨by omega,by omega⟩,by decide,.inl ⟨by omega,by omega⟩,by decide,.inr ⟨by decide,by decide⟩,hm.1,?_⟩;exact hq _ _ (modb hm.1).1 (modb hm.1).2 (kp.trans (zV.put (by simp))) ⟨y,jR,left,D.put b2.1 (by omega) D.n0⟩
theorem zfy {Γ:Ctx3} (h1:Γ.fn[1]?=some nU) (h2:Γ.mt[0]?=some ePop) {d l:Addr} {m:Int} {G:Hw} {Q:Q3} {nx:xE->Hw->Prop} (D:yA G d l) (hm:0<m/\m<1073741824)
  (hq:∀ r G',0<=r->r<m->zV [d,l] G G'->yA G' d l->Q (.int r) G'):zC Γ XN zkH { nx:=nx,rt:=Q } [some (.ref d),some (.int m),none,none,none] G:=by
 obtain ⟨seed,jR,left,D⟩:=D;dsimp only[zkH,zC,zQ,zS,zP,zH,zD,zA,yZ,zM,zU,zN,ZY,Zab,Zal,ZaX];simp only[h1,h2];refine ⟨fun k σ G'=>σ=[some (.ref d),some (.int m),none,none,none]/\zV [d,l] G G'/\∃ jR left,k=left.length/\DealS G' d l seed jR left,⟨_,rfl,.refl,jR,left,rfl,D⟩,?_⟩;rintro k σ G1 ⟨rfl,kp,jR,left,rfl,D⟩;have hd:G1 d=some (.dic [(kS,.int seed),(kN,.int jR),(kL,.ref l)]):=D.dic;have hl:G1 l=some (.lst (left.map .int)):=D.lst;have hds:∀ o,(put G1 d o) d=some o:=fun o=>zW;have hdl:∀ o,(put G1 l o) d=some (.dic [(kS,.int seed),(kN,.int jR),(kL,.ref l)]):=fun o=>by rw[xJ D.ne];exact hd
 have few:∀ {a b c:W},[(kS,a),(kN,b),(kL,c)].length<sizeLine:=by intros;show 3<sizeLine;rw[Zt];decide
 simp only[ZY,Zab,Zal,ZaX,nW,hd,vZ,dgN,dgL,dgS,yI,wB,zB,vD,vE,hl,zzM,tyW,popS,rJ,zeX,sL,hdl,hds,dpN,dpS,wK]
 by_cases hn:jR=0
 .simp only[decide_eq_true hn,if_true]
  by_cases hlen:(0:Int)<(left.length:Int)
  .simp only[decide_eq_true hlen,if_true];have hlast:left.length-1<left.length:=by omega
   rw[Zl hlast];simp only[Option.map_some];refine ⟨trivial,few,left.dropLast.length,by rw[ZbB];omega,trivial,?_,left[left.length-1],left.dropLast,rfl,?_⟩
   .exact (kp.trans (zV.put (by simp))).trans (zV.put (by simp))
   .refine ⟨zW,?_,D.s0,D.s1,D.lf _ (ZJ hlast),fun x hx=>D.lf x (List.dropLast_subset _ hx),by have:=D.len;rw[ZbB];omega,D.ne⟩;rw[xJ D.ne.symm,zW,List.map_dropLast]
  .simp only[decide_eq_false hlen,zzB,if_false];exact bT D kp hm few hq
 .simp only[decide_eq_false hn,zzB,if_false];exact bT D kp hm few hq
theorem zc7 {items:List W} {stab:Hw->Prop} {G1:Hw} {turn:W->Hw->(Option W->Hw->Prop)->Prop} {Q:Q3} (f:W->Option W) (hs:stab G1) (hl:items.length<=sizeLine) (ht:∀ w∈items,∀ K:Option W->Hw->Prop,K (f w) G1->turn w G1 K)
  (hq:∀ p,G1 p=none->Q (.ref p) (put G1 p (.lst (items.filterMap f)))):lcR items stab G1 turn Q:=by
 refine ⟨fun i acc G=>G=G1/\acc=(items.take i).filterMap f,⟨rfl,by simp⟩,?_,hl,?_,?_⟩
 .rintro i acc G ⟨rfl,rfl⟩ hi;refine ⟨hs,Zn (ZaI _ _) ?_⟩;rw[Z5];omega
 .rintro i w acc G hi ⟨rfl,rfl⟩;have hlt:i<items.length:=(Zi.mp hi).1;have hw:items[i]=w:=(Zi.mp hi).2;refine ht w (Zr hi) _ ?_;have et:items.take (i+1)=items.take i++[w]:=by rw[ZS hlt,hw]
  cases e:f w with
  |some x=>exact ⟨rfl,by rw[et,Zaz];simp[e]⟩
  |none=>exact ⟨rfl,by rw[et,Zaz];simp[e]⟩
 .rintro acc G ⟨rfl,rfl⟩ p hp;rw[ZbA];exact hq p hp
theorem kY {α β:Type} (f:α->β) (xs:List α) (lo hi:Option Int):tL (xs.map f) lo hi=(tL xs lo hi).map f:=by
 unfold tL;rw[zzM,List.map_take,List.map_drop]
theorem zic {α:Type} (xs:List α) (lo hi:Option Int):(tL xs lo hi).length<=xs.length:=by
 unfold tL;rw[Z5,Z0];omega
def zkI:ISs:=(.cons (.asg 2 (.lc (.nm 0) ["_law_cell"] [] (.val (.sl (.var 0) (.yes (.var 1)) (.yes (.con (.int 63))))) .no (.call 0 (.cons (.var 0) (.cons (.bin .Sub (.con (.int 0)) (.var 0)) .nil)))))
 (.cons (.asg 3 (.bin .Add (.con (.int 7919)) (.var 1)))
 (.cons (.for (.nm 4) (.val (.var 2)) (.cons (.asg 3 (.bin .Mod (.bin .Add (.bin .Mult (.var 3) (.con (.int 69621))) (.bin .Mod (.var 4) (.con (.int 2147483629)))) (.con (.int 2147483647))))
 .nil))
 (.cons (.ret (.dct ["seed", "number", "left"] (.cons (.var 3) (.cons (.con (.int 0)) (.cons (.spc 0 (.cons (.lc (.nm 0) ["_law_cell"] [] (.val (.var 2)) (.yes (.cmp .GtE (.var 0) (.bin .Pow (.con (.int 10)) (.con (.int 18))))) (.var 0)) .nil)) .nil)))))
 .nil))))
abbrev eMax:Fn3:=⟨"max", fun ws G Q _=>maxS ws G Q⟩
abbrev eRev:Sx3:=⟨lofM "reversed", revS⟩
def nR (x:Int):Int:=if 0-x > x then 0-x else x
theorem zik (x:Int):0<=nR x:=by unfold nR;split<;>omega
theorem yV {G:Hw} {p:Addr} {ws:List W} (h:G p=some (.lst ws)):yU G p=some ws:=by unfold yU;rw[h]
theorem dct3 {a b c:W}:zh9 ["seed", "number", "left"] [a,b,c]=[(kS,a),(kN,b),(kL,c)]:=by
 have e1:¬ (kS=kN):=by decide +kernel
 have e2:¬ (kS=kL):=by decide +kernel
 have e3:¬ (kN=kL):=by decide +kernel
 simp[zh9,qH,e1,e2,e3]
def bF (G:Hw) (w:W) (ns:List Int):Prop:=(∃ a,w=.ref a/\yU G a=some (ns.map .int))\/w=.lsf (ns.map .int)
theorem bF.sl {G:Hw} {w:W} {ns:List Int} (h:bF G w ns) {lo hi:Option Int} {Q:Q3} (hq:∀ r,G r=none->Q (.ref r) (put G r (.lst (tL (ns.map W.int) lo hi)))):fF w lo hi G Q:=by
 rcases h with ⟨a,rfl,e⟩|rfl
 .simp only[fF,e];exact hq
 .exact hq
theorem zfB {Γ:Ctx3} (h0:Γ.fn[0]?=some eMax) (h2:Γ.sx[0]?=some eRev) {a:W} {base:Int} {ns:List Int} {G:Hw} {Q:Q3} {nx:xE->Hw->Prop} (hs:bF G a ns) (hl:ns.length<=63) (hb:0<=base/\base<=1000)
  (hq:∀ d l G',G d=none->G l=none->zV [] G G'->yA G' d l->Q (.ref d) G'):zC Γ XN zkI { nx:=nx,rt:=Q } [some a,some (.int base),none,none,none] G:=by
 dsimp only[zkI,zC,zQ,zS,zP,zH,zD,zA,yZ,zM,zU,zR,zL,zO,zT,zN,ZY,Zab,zK];simp only[h0,h2,qI];refine hs.sl fun p1 hp1=>?_;dsimp only;have hp1':yU (put G p1 (.lst (tL (ns.map W.int) (some base) (some 63)))) p1=some (tL (ns.map W.int) (some base) (some 63)):=yV zW;rw[hp1'];rw[kY];generalize ecs:tL ns (some base) (some 63)=cs;have hcl:cs.length<=63:=by rw[← ecs];exact Zn (zic _ _ _) hl
 rw[kY,ecs] at hp1';refine zc7 (fun w=>match w with|.int x=>some (.int (nR x))|_=>none) hp1' (by rw[zzM,Zt];omega) ?_ ?_
 .intro w hw K hK;obtain ⟨x,hx,rfl⟩:=zzP hw;simp only[qT,Zf,Zo,List.replicate,zzV,Zw,Zal,ZY,wK,maxS,if_true];exact hK
 .intro p2 hp2
  have ef:(cs.map W.int).filterMap (fun w=>match w with|.int x=>some (.int (nR x))|_=>none)=(cs.map nR).map W.int:=by
   rw[ZbS,ZO,← List.filterMap_eq_map];rfl
  rw[ef];generalize eG:put (put G p1 (.lst (cs.map W.int))) p2 (.lst ((cs.map nR).map W.int))=G2;have kp2:zV [] G G2:=by rw[← eG];exact (zV.new hp1).trans (zV.new hp2)
  have g2:G2 p2=some (.lst ((cs.map nR).map W.int)):=by rw[← eG];exact zW
  simp only[ZY,Zab,Zal,ZaX,wK,yV g2];refine ⟨fun i σ G'=>G'=G2/\∃ (n:Int) (c:Option W),σ=[some a,some (.int base),some (.ref p2),some (.int n),c]/\0<=n/\n<2147483647,⟨rfl,7919+base,none,rfl,by omega,by omega⟩,?_,?_,?_⟩
  .rintro i σ G' ⟨rfl,_⟩ _;exact yV g2
  .rintro i w σ G' hi ⟨rfl,n,c,rfl,n0,n1⟩;have hw:=Zr hi;obtain ⟨x,hx,rfl⟩:=zzP hw;simp only[ZY,Zab,Zal,ZaX,wK];exact ⟨.inr ⟨by decide,by decide⟩,by decide,by decide,trivial,_,_,rfl,(modb (by decide)).1,(modb (by decide)).2⟩
  .rintro σ G' ⟨rfl,n,c,rfl,n0,n1⟩;intro d hd;simp only[ZY,Zab];have g3:(put G' d (.dic [])) p2=some (.lst ((cs.map nR).map W.int)):=by rw[xJ (pE g2 hd)];exact g2
   simp only[yV g3];refine zc7 (fun w=>match w with|.int x=>if (10:Int) ^ 18<=x then some (.int x) else none|_=>none) (yV g3) (by rw[zzM,zzM,Zt];omega) ?_ ?_
   .intro w hw K hK;obtain ⟨x,hx,rfl⟩:=zzP hw;simp only[qT,Zf,Zo,List.replicate,zzV,Zw,Zal,ZY,wK,yI,rJ,zB];refine ⟨⟨by decide,by decide,by decide⟩,?_⟩;have e18:(10:Int) ^ (18:Int).toNat=10 ^ 18:=rfl;rw[e18]
    by_cases hx:(10:Int) ^ 18<=x
    .rw[decide_eq_true hx,if_pos rfl];simp only[if_pos hx] at hK;exact hK
    .rw[decide_eq_false hx,if_neg zzN];simp only[if_neg hx] at hK;exact hK
   .intro p3 hp3
    have ef:((cs.map nR).map W.int).filterMap (fun w=>match w with|.int x=>if (10:Int) ^ 18<=x then some (.int x) else none|_=>none)=((cs.map nR).filter fun x=>decide ((10:Int) ^ 18<=x)).map W.int:=by
     generalize cs.map nR=ys
     induction ys with
     |nil=>rfl
     |cons y ys ih =>
      rw[zzU,Zas,Zbz]
      by_cases hy:(10:Int) ^ 18<=y
      .simp only[if_pos hy,decide_eq_true hy,if_true,zzU,ih]
      .simp only[if_neg hy,decide_eq_false hy,zzB,if_false,ih]
    rw[ef];generalize efl:(cs.map nR).filter (fun x=>decide ((10:Int) ^ 18<=x))=fl;have flen:fl.length<=63:=by rw[← efl];refine Zn (List.length_filter_le _ _) ?_;rw[zzM];exact hcl
    have fnn:∀ x∈fl,(0:Int)<=x:=fun x hx=>by
     rw[← efl] at hx;obtain ⟨y,hy,rfl⟩:=zzP (Zcn.mp hx).1;exact zik y
    refine ⟨fl.map W.int,yV zW,fun l hl'=>?_⟩
    have ned:d≠l:=fun e=>by
     subst e;rw[xJ (pE zW hp3),zW] at hl';cases hl'
    have np3:d≠p3:=pE zW hp3;refine ⟨by rw[xJ ned,xJ np3,zW],rfl,?_⟩;rw[dct3];refine hq d l _ (kp2.none (by simp) hd) ?_ ?_ ⟨n,0,fl.reverse,zW,?_,n0,n1,by omega,fun x hx=>fnn x (Zce.mp hx),by rw[Z7];exact flen,ned⟩
    .have k3:zV [] G (put (put G' d (.dic [])) p3 (.lst (fl.map W.int))):=(kp2.trans (zV.new hd)).trans (zV.new hp3);exact k3.none (by simp) hl'
    .intro x u hx hu;rw[xJ (pE hu (kp2.none (by simp) hd))];exact ((((kp2.trans (zV.new hd)).trans (zV.new hp3)).trans (zV.new hl')) x u hx hu)
    .rw[xJ ned.symm,zW,← List.map_reverse]
structure FunD (K:yS) (x qual:Str) (st:Stmt) (dV:Value) (f:Addr) (fd:FuncData):Prop where
 ex:∃ (oc:Value) (od:Option Addr) (kV doc pm:Value) (an:Option Addr) (cdv ct:Value) (osl:Array (Option Value)),
  fd=PySem.W.fnOf x qual (yP st) (zI st) (zX st) dV kV doc pm an cdv ct/\K.lookup f=some ⟨oc,od,.func fd,osl⟩/\PySem.W.codeIn K cdv qual=true
 kp:PySem.W.keepIn K (.ref f)=true
theorem zdI {Γ:Ctx3} {q:Pr} {k:Nat} {M:MC} {x qual:Str} {st:Stmt} {dV:Value} {f:Addr} {fd:FuncData} {ps:List Str} {sp:nQ} {body:ISs} (F:FunD q.K x qual st dV f fd) (S:FnScope M.N ps (zX st)) (g:∀ A,Room k A->Good Γ (q.at A))
  (eM:MOk Γ M (zX st)) (hm:sZ body M (zI st)=true) (len:∀ ws G Q,sp ws G Q XN->ws.length=ps.length)
  (hb:∀ ws G Q,sp ws G Q XN->zC Γ XN body { nx:=fun _ G'=>Q .non G',rt:=Q } (yG M.N ws) G):FnOk q.prog q.w q.K q.mg q.base CX0 (k+1) f fd ps (tP q.K sp):=by
 obtain ⟨oc,od,kV,doc,pm,an,cdv,ct,osl,rfl,lk,hcd⟩:=F.ex;refine zhM lk hcd S (fun vs H Q E h=>?_) fun A outer s H vs Q E hr h=>?_
 .obtain ⟨ws,G,rs,ab,h⟩:=h;rw[rs.length];exact len ws G _ h
 .obtain ⟨ws,G,rs,ab,h⟩:=h;have gg:=g _ hr;refine ⟨lowS q.K (zC Γ XN body),dM.nox (zcy gg body M _ (zI st) ?_ hm),?_⟩
  .exact ⟨⟨rfl,rfl,rfl,rfl,rfl,rfl,rfl,rfl⟩,rfl,eM.sc.symm,S.nd,fun _ _=>rfl,by rw[eM.sc];exact S.kind,eM.fns,eM.gls,eM.mts,eM.its,eM.sxs,eM.ixs⟩
  .refine ⟨yG M.N ws,G,_,rQ rs,ab,⟨?_,?_,?_,?_⟩,hb ws G _ h⟩
   .exact fun σ G' τ H' g' _ a' z=>z .non H' g' (show wO q.K H' .non .non from rfl) a'
   .exact fun σ G' τ H' g' _ a' z=>z.elim
   .exact fun σ G' τ H' g' _ a' z=>z.elim
   .exact fun w G' v H' g' r' a' z=>z v H' g' r' a'
structure HD (K:yS) (x qual:Str) (st:Stmt) (dV:Value) (f:Addr):Prop where
 ex:∃ (oc:Value) (od an:Option Addr) (osl:Array (Option Value)) (kV doc pm cdv ct:Value),K.lookup f=some ⟨oc,od,.func (PySem.W.fnOf x qual (yP st) (zI st) (zX st) dV kV doc pm an cdv ct),osl⟩/\PySem.W.codeIn K cdv qual=true
 kp:PySem.W.keepIn K (.ref f)=true
theorem HD.mk' {K:yS} {x qual:Str} {st:Stmt} {dV:Value} {f:Addr} {oc:Value} {od an:Option Addr} {osl:Array (Option Value)} {kV doc pm cdv ct:Value}
  (l:K.lookup f=some ⟨oc,od,.func (PySem.W.fnOf x qual (yP st) (zI st) (zX st) dV kV doc pm an cdv ct),osl⟩) (c:PySem.W.codeIn K cdv qual=true) (k:PySem.W.keepIn K (.ref f)=true):HD K x qual st dV f:=⟨⟨oc,od,an,osl,kV,doc,pm,cdv,ct,l,c⟩,k⟩
theorem HD.fd {K:yS} {x qual:Str} {st:Stmt} {dV:Value} {f:Addr} (h:HD K x qual st dV f):∃ fd,FunD K x qual st dV f fd/\∃ kV doc pm an cdv ct,fd=PySem.W.fnOf x qual (yP st) (zI st) (zX st) dV kV doc pm an cdv ct:=by
 obtain ⟨oc,od,an,osl,kV,doc,pm,cdv,ct,l,c⟩:=h.ex;exact ⟨_,⟨⟨oc,od,kV,doc,pm,an,cdv,ct,osl,rfl,l,c⟩,h.kp⟩,kV,doc,pm,an,cdv,ct,rfl⟩
def zd3 (f:Fn3):Prop:=∀ ws G (Q Q':Q3) E,(∀ w G',Q w G'->Q' w G')->f.sp ws G Q E->f.sp ws G Q' E
def qF (p:Par) (f:Fn3):Prop:=FnE p f/\zd3 f
def sR (m:Mt3):Prop:=∀ x ws G (Q Q':Q3),(∀ w G',Q w G'->Q' w G')->m.sp x ws G Q->m.sp x ws G Q'
def fG (m:It3):Prop:=∀ ws G (R R':List W->(Hw->Prop)->Hw->Prop),(∀ a b c,R a b c->R' a b c)->m.sp ws G R->m.sp ws G R'
def GlE (p:Par) (g:Str×W):Prop:=∀ X,Fits p X->Gl X g.1->∀ q:Pos,(g.1==("__debug__" : Str))=false->g.1 ≠ "__name__" -> PE X (.Name g.1 q) (xO X.K fun _ G Q=>Q g.2 G)
theorem zhI {Γ:Ctx3} {p:Par} (un:p.A.units+200<cLine) (fn:∀ f∈Γ.fn,qF p f) (gl:∀ g∈Γ.gl,GlE p g) (mt:∀ m∈Γ.mt,MtE p m/\sR m) (it:∀ i∈Γ.it,ItE p i/\fG i)
  (cl:∀ c∈Γ.cl,Cls p.K c.1/\∀ f∈c.2,zgt p.K c.1 f) (sx:∀ k∈Γ.sx,SxE p k/\wP k.sp) (ix:Γ.ix=[]):Good Γ p where
 mono:=⟨fun f hf=>(fn f hf).2,fun m hm=>(mt m hm).2,fun i hi=>(it i hi).2,fun k hk=>(sx k hk).2,fun k hk=>by rw[ix] at hk;cases hk⟩
 un:=un
 fn:=fun f hf=>(fn f hf).1
 gl:=gl
 mt:=fun m hm=>(mt m hm).1
 it:=fun i hi=>(it i hi).1
 cl:=cl
 sx:=fun k hk=>(sx k hk).1
 ix:=fun k hk=>by rw[ix] at hk;cases hk
theorem yJ {α:Type} {P:α->Prop}:∀ x∈([]:List α),P x:=fun _ h=>nomatch h
theorem zY {α:Type} {P:α->Prop} {a:α} {l:List α} (h:P a) (t:∀ x∈l,P x):∀ x∈a::l,P x:=fun x hx=>by
 rcases Zp.mp hx with rfl|hx
 .exact h
 .exact t x hx
theorem zaK {α:Type} {P:α->Prop} {a:α} {l:List α} (t:∀ x∈l,P x) (h:P a):∀ x∈l++[a],P x:=fun x hx=>by
 rcases ZE.mp hx with hx|hx
 .exact t x hx
 .rw[zzO hx];exact h
theorem wN {q:Pr} {A:Around} {x:Str} {w:W} {u:Value} {v:V} (hm:q.mg x=some u) (r:yY v u) (rp:∀ H,wO q.K H w v):GlE (q.at A) (x,w):=by
 intro X fits gl qp hd hn;have hm':X.mg x=some u:=by rw[fits.mg];exact hm
 refine (zha gl hm' r hd).imp fun τ H Q h=>?_;obtain ⟨σ,G,hs,ab,h⟩:=h;exact h v H .refl (by have:=rp H;rw[fits.K];exact this) ab
theorem zaJ {q:Pr} {A:Around} {x:Str} {T:String} (hm:q.mg x=none) (hv:bootBuiltins x=some (.type T)):GlE (q.at A) (x,.ty T):=by
 intro X fits gl qp hd hn;have hm':X.mg x=none:=by rw[fits.mg];exact hm
 refine (zhe (v:=.ty T) gl hm' hv rfl hn hd).imp fun τ H Q h=>?_;obtain ⟨σ,G,hs,ab,h⟩:=h;exact h (.ty T) H .refl rfl ab
theorem zgW {K:yS} {a:Addr} {o:Obj} {its:Array Value} {n:Nat} {ws:List W} {vs:List V} (l:K.lookup a=some o) (hc:o.cls=.type "tuple") (hd:o.data=.seq its n) (hz:its.size<=sizeLine) (hv:zF vs its.toList) (hr:∀ H,zG K H ws vs):∀ H,wO K H (.tup ws) (.ref a) :=
 fun H=>⟨a,vs,rfl,.inr ⟨o,its,n,l,hc,hd,hz,hv⟩,hr H⟩
def zct:nQ:=fun ws G Q _=>∃ a base ns,ws=[a,.int base]/\bF G a ns/\ns.length<=63/\(0<=base/\base<=1000)/\∀ d l G',G d=none->G l=none->zV [] G G'->yA G' d l->Q (.ref d) G'
def zcs:nQ:=fun ws G Q _=>∃ d l m,ws=[.ref d,.int m]/\yA G d l/\(0<m/\m<1073741824)/\∀ r G',0<=r->r<m->zV [d,l] G G'->yA G' d l->Q (.int r) G'
theorem zar:zd3 ⟨"_law_deal", zct⟩:=fun ws G Q Q' E k hh=>by
 obtain ⟨a,b,ns,h1,h2,h3,h4,h⟩:=hh;exact ⟨a,b,ns,h1,h2,h3,h4,fun d l G' a b c e=>k _ _ (h d l G' a b c e)⟩
theorem zaq:zd3 ⟨"_law_draw", zcs⟩:=fun ws G Q Q' E k hh=>by
 obtain ⟨a,b,m,h1,h2,h3,h⟩:=hh;exact ⟨a,b,m,h1,h2,h3,fun d l a b c e=>k _ _ (h d l a b c e)⟩
abbrev zkx:Fn3:=⟨"_law_deal", zct⟩
abbrev tM:Fn3:=⟨"_law_draw", zcs⟩
abbrev eAll:Fn3:=⟨"all", fun ws G Q _=>allS (·.all id) ws G Q⟩
abbrev eLst:Fn3:=⟨"list", fun ws G Q _=>lstS ws G Q⟩
abbrev eIdx:Mt3:=⟨"index", "list", idxS⟩
section
variable {q:Pr} {A:Around} {k:Nat}
theorem zhU (hm:q.mg "max" = none):qF (q.at A) eMax:=⟨fQ hm (by decide +kernel) (fun X f=>zjO f.calm) cM (fun _ _ h=>h),fun ws G Q Q' _ k h=>cM ws G Q Q' k h⟩
theorem zhW (hm:q.mg "len" = none):qF (q.at A) nU:=⟨fQ hm (by decide +kernel) (fun X f=>zjT) cH (fun _ _ h=>h),fun ws G Q Q' _ k h=>cH ws G Q Q' k h⟩
theorem zh1 (hm:q.mg "all" = none):qF (q.at A) eAll:=⟨fQ hm (by decide +kernel) (fun X f=>zkN f.calm) (bH _) (fun _ _ h=>h),fun ws G Q Q' _ k h=>bH _ ws G Q Q' k h⟩
theorem zhV (hm:q.mg "list" = none):qF (q.at A) eLst:=⟨zfl hm (by decide +kernel) (fun X f=>zjS) cJ (fun _ _ h=>h),fun ws G Q Q' _ k h=>cJ ws G Q Q' k h⟩
theorem zhT:MtE (q.at A) ePop/\sR ePop:=⟨rC ZaQ PySem.F.slot_list_pop PySem.F.type_list_pop (fun X f=>zji) cR,cR⟩
theorem zhY (hu:A.units+200<cLine):MtE (q.at A) eIdx/\sR eIdx:=⟨rC ZaQ PySem.F.slot_list_index PySem.F.type_list_index (fun X f=>zko (by rw[f.A];exact hu)) bX,bX⟩
theorem zhS (hl:q.mg "list" = none) (hm:q.mg "reversed" = none):SxE (q.at A) eRev/\wP eRev.sp:=⟨ziH hl hm (by decide +kernel) cU (fun X f=>zi1 f.calm),cU⟩
end
theorem FnE.imp {p:Par} {nm:Str} {sp sp':nQ} (h:FnE p ⟨nm,sp'⟩) (k:∀ ws G Q,sp ws G Q XN->sp' ws G Q XN):FnE p ⟨nm,sp⟩:=by
 intro X fits gl args t qp pos mt hn pa hnil hdb hnm;refine (h X fits gl args t qp pos mt hn pa hnil hdb hnm).imp fun τ H Q z=>?_;obtain ⟨σ,G,hs,ab,z⟩:=z;exact ⟨σ,G,hs,ab,mt σ G _ _ (fun ws G1 z=>k _ _ _ z) z⟩
theorem uN {K:yS} {x qual:Str} {st:Stmt} {f:Addr} {fd:FuncData} {ps:List Str} (F:FunD K x qual st .none f fd)
  (h:∀ (kV doc pm:Value) (an:Option Addr) (cdv ct:Value) (us:List Value),us.length=ps.length->bindArgs (PySem.W.fnOf x qual (yP st) (zI st) (zX st) .none kV doc pm an cdv ct) ⟨us,[]⟩=pure (ps.zip us)):tJ K fd ps []:=by
 obtain ⟨oc,od,kV,doc,pm,an,cdv,ct,osl,rfl,lk,hcd⟩:=F.ex;exact .all (h kV doc pm an cdv ct)
theorem zdE {q:Pr} {j k:Nat} {nm:Str} {f:Addr} {fd:FuncData} {ps:List Str} {sp:nQ} (FO:FnOk q.prog q.w q.K q.mg q.base CX0 j f fd ps (tP q.K sp)) (hm:q.mg nm=some (.ref f)) (hk:PySem.W.keepIn q.K (.ref f)=true) (hb:tJ q.K fd ps [])
  (mono:zd3 ⟨nm,sp⟩) {A:Around} (hr:Room k A) (hjk:j<=k):qF (q.at A) ⟨nm,sp⟩ :=
 ⟨(zkq (dws:=[]) (dvs:=[]) (FO.mono hjk) hm hk hb (fun _=>rfl) .nil (fun ws G Q Q' z h=>mono ws G Q Q' XN z h) hr).imp fun ws G Q h=>by rw[Zw];exact h,mono⟩
def dA:nQ:=fun ws G Q _=>∃ a ns,ws=[a]/\bF G a ns/\ns.length<=63/\∀ G',Q (.bl true) G'
theorem uH {K:yS} {H:Hp}:∀ ns:List Int,zG K H (ns.map W.int) (ns.map V.int)
 | []=>rfl
 |n::ns=>⟨.int n,_,rfl,rfl,uH ns⟩
theorem zc9 {K:yS} {H:Hp} {a:Addr} {ns:List Int} (hl:ns.length<=63) (hS:rW K H a (ns.map V.int)):tP K dA [.ref a] H (fun v _=>v=.bl true) fun _ _ _=>False:=by
 rcases hS with hS|hS
 .refine ⟨[.ref a],fun b=>if b=a then some (.fix (ns.map W.int)) else none,⟨_,[],rfl,rfl,rfl⟩,?_,.ref a,ns,rfl,.inl ⟨a,rfl,by simp[yU]⟩,hl,fun G' v H' _ r _=>r⟩;intro b o e;dsimp only at e
  by_cases hb:b=a
  .subst hb;rw[if_pos rfl] at e;cases e;rcases hS with hS|⟨ob,hS⟩
   .exact ⟨_,hS,_,default,.inl rfl,uH ns⟩
   .exact ⟨_,hS,_,ob,.inr rfl,uH ns⟩
  .rw[if_neg hb] at e;cases e
 .exact ⟨[.lsf (ns.map W.int)],fun _=>none,⟨_,[],rfl,⟨a,_,rfl,hS,uH ns⟩,rfl⟩,(fun b o e=>nomatch e),.lsf (ns.map W.int),ns,rfl,.inr rfl,hl,fun G' v H' _ r _=>r⟩
theorem walk3 {l:PySem.W.OpenLaw} {k:Nat} {q:Program} {loose:List Str} {XP:(Str->Option Value)->Heap->Prop} {YP:World->Heap->Prop} {d:DefRec} {K:Params->PySem.W.Frag} (hn:l.most=some 63) (hdf:d.params.defaults=[]) (hr:Room k callerA)
  (hY:∀ (w:World) (h:Heap),YP w h->(K w.params).In h)
  (F:∀ (w:World) (mg:Str->Option Value) (fa:Addr) (h:Heap),(K w.params).In h->h.Ns mainGlobals mg->mg d.name=some (.ref fa) ->
   ∃ fd:FuncData,(∀ (s:Shared) (u:Value),BindsTo s fd ⟨[u],[]⟩ [("_law_script", u)])/\fd.scope.names.lookup ("_law_script" : Str)=some .local/\∀ base:Heap,(K w.params).In base->base.Ns mainGlobals mg->FnOk l.prog w (K w.params) mg base CX0 k fa fd ["_law_script"] (tP (K w.params) dA)) :
  PySem.W.WalkO q loose XP YP l.row.toRowW d [] (fun f vs=>PySem.call f vs) :=
 L2.walk_of (n:=63) (k:=k) (x := "_law_script") (CX:=fun _=>CX0) (sp:=fun w=>tP (K w.params) dA) hn (by decide) hdf hr hY F (fun _ _ a ns hl _ hS=>zc9 hl hS) fun _ _ _ _ _ z=>z
end L3
namespace L3
open PySem PySem.Spec PyProof.Rows L2 PySem.SeqAt
def cE:MS:=fun x ws G Q=>match x,ws with
 | .str sep,[.ref p]=>∃ ts:List Str,yU G p=some (ts.map .str)/\JoinOk sep ts=true/\Q (.str (Txt.join sep ts)) G
 |_,_=>False
theorem fX:∀ x ws G (Q Q':Q3),(∀ w G',Q w G'->Q' w G')->cE x ws G Q->cE x ws G Q':=by
 intro x ws G Q Q' k h;unfold cE at h ⊢
 split at h
 .obtain ⟨ts,e,o,h⟩:=h;exact ⟨ts,e,o,k _ _ h⟩
 .exact h.elim
theorem dD {K:yS} {H:Hp}:∀ {ts:List Str} {vs:List V} {us:List Value},zG K H (ts.map .str) vs->zF vs us->∃ l:List (Str×Tok),l.map (·.1)=ts/\us=strValues l
 | [],vs,us,r,v=>by cases (show vs=[] from r);cases v;exact ⟨[],rfl,rfl⟩
 |t::ts,vs,us,r,v=>by
  obtain ⟨x,tl,rfl,rx,rt⟩:=r;cases (show x=.str t from rx)
  cases v with
  |cons a c =>
   obtain ⟨tk,rfl⟩:=a;obtain ⟨l,e1,e2⟩:=dD rt c;exact ⟨(t,tk)::l,by rw[zzU,e1],by rw[e2];rfl⟩
theorem vP {X:Cx}:MtR X "str.join" (lowM X.K cE):=by
 intro pins s σ H x xs v us Q I rx rxs h;obtain ⟨w,ws,G,rw1,rs,ab,h⟩:=h;unfold cE at h
 split at h
 .rename_i sep p;cases (show x=.str sep from rw1);obtain ⟨y,rfl,ry⟩:=qX rs;cases (show y=.ref p from ry);obtain ⟨u,rfl,ru⟩:=jL rxs;cases (show u=Value.ref p from ru);obtain ⟨t,rfl⟩:=rx;obtain ⟨ts,e,ok,h⟩:=h;obtain ⟨vs,sq,rr⟩:=ab.seq e;obtain ⟨its,vv,pl,hz⟩:=I.list sq;obtain ⟨l,e1,e2⟩:=dD rr vv;subst e2;exact wE I.tk (SC.join pl.isList e1 ok fun t' k h0=>⟨.str (Txt.join sep ts),H,I.tok _ h0,⟨t',rfl⟩,h _ H .refl rfl ab⟩)
 .exact h.elim
abbrev tN:Mt3:=⟨"join", "str", cE⟩
theorem zft {q:Pr} {A:Around}:MtE (q.at A) tN/\sR tN:=⟨rC PySem.F.plainAttrs_str PySem.F.slot_str_join PySem.F.type_str_join (fun X f=>vP) fX,fX⟩
theorem zjW {X:Cx} {pins:List (Addr×Obj)} {σ:L2.St} {H:Hp} {s:Shared} {G:Hw} {w:W} {v:V} {u:Value} {T:String} (I:Inv X pins σ H s) (ab:xR X.K H G) (rv:wO X.K H w v) (ru:yY v u) (ty:tyO G w=some T) :
  ∃ HH:Heap->Prop,PySem.W.KitX X.K u (.type T) HH/\HH s.heap/\u≠.builtin "__main__.__loader__#opaque" := by
 cases w with
 |non=>cases ty;cases (show v=.non from rv);cases (show u=Value.none from ru);exact ⟨_,PySem.W.kitx_none,True.intro,fun z=>nomatch z⟩
 |bl x=>cases ty;cases (show v=.bl x from rv);cases (show u=Value.bool x from ru);exact ⟨_,PySem.W.kitx_bool,True.intro,fun z=>nomatch z⟩
 |int x=>cases ty;cases (show v=.int x from rv);obtain ⟨t,rfl⟩:=(show ∃ t,u=Value.int x t from ru);exact ⟨_,PySem.W.kitx_int,True.intro,fun z=>nomatch z⟩
 |str x=>cases ty;cases (show v=.str x from rv);obtain ⟨t,rfl⟩:=(show ∃ t,u=Value.str x t from ru);exact ⟨_,PySem.W.kitx_str,True.intro,fun z=>nomatch z⟩
 |tup ws' =>
  cases ty;obtain ⟨a,vs,rfl,sq,rr⟩:=rv;cases (show u=Value.ref a from ru);obtain ⟨its,_,p,_⟩:=I.tuple sq;obtain ⟨o,h1,h2,_⟩:=p;exact ⟨_,PySem.W.kitx_tuple,⟨o,h1,h2⟩,fun z=>nomatch z⟩
 |ref p =>
  cases (show v=.ref p from rv);cases (show u=Value.ref p from ru);simp only[tyO] at ty
  have lk:∀ ws',yU G p=some ws'->∃ HH:Heap->Prop,PySem.W.KitX X.K (.ref p) (.type "list") HH/\HH s.heap/\Value.ref p≠.builtin "__main__.__loader__#opaque" := fun ws' el=>by
   obtain ⟨vs,sq,rr⟩:=ab.seq el;obtain ⟨its,_,pl,_⟩:=I.list sq;obtain ⟨o,ho,hc,_⟩:=pl.isList;exact ⟨_,PySem.W.kitx_list,⟨o,ho,hc⟩,fun z=>nomatch z⟩
  split at ty
  .rename_i ws' eg;cases ty;exact lk ws' (by unfold yU;rw[eg])
  .rename_i ws' eg;cases ty;exact lk ws' (by unfold yU;rw[eg])
  .rename_i kvs eg;cases ty;obtain ⟨l,e',rl⟩:=ab.dic eg;obtain ⟨_,_,vs,_,o,_,_,e1,e2,_⟩:=(show xM X.prog X.w H s.heap p (.dK l) from I.hok p _ e');exact ⟨_,PySem.W.kitx_dict,⟨o,e1,e2.1⟩,fun z=>nomatch z⟩
  .cases ty
 |_=>cases ty
def zec:List W->Option (List String)
 | []=>some []
 | .ty T::r=>(zec r).map (T::·)
 |_=>none
theorem za0 {K:yS} {H:Hp}:∀ {ws:List W} {Ts:List String} {vs:List V} {us:List Value},zec ws=some Ts->zG K H ws vs->zF vs us->us=Ts.map .type
 | [],Ts,vs,us,e,r,v=>by cases e;cases (show vs=[] from r);cases v;rfl
 |w::ws,Ts,vs,us,e,r,v=>by
  cases w with
  |ty T =>
   simp only[zec] at e;obtain ⟨Ts',e',rfl⟩:=Zs.mp e;obtain ⟨x,tl,rfl,rx,rt⟩:=r;cases (show x=.ty T from rx)
   cases v with
   |cons a c =>
    cases (show _=Value.type T from a);rw[za0 e' rt c];rfl
  |_=>cases e
def isjS (K:yS):RS:=fun ws G Q=>match ws with
 | [x,.ty T]=>∃ T' b,tyO G x=some T'/\PySem.W.kitOne K (.type T') (.type T)=some b/\Q (.bl b) G
 | [x,.tup ts]=>∃ T' b Ts,tyO G x=some T'/\zec ts=some Ts/\PySem.W.kitAny K (.type T') (Ts.map .type)=some b/\Q (.bl b) G
 |_=>False
theorem zdg (K:yS):wP (isjS K):=by
 intro ws G Q Q' k h;unfold isjS at h ⊢
 split at h
 .obtain ⟨T',b,e,e',h⟩:=h;exact ⟨T',b,e,e',k _ _ h⟩
 .obtain ⟨T',b,Ts,e,e',e2,h⟩:=h;exact ⟨T',b,Ts,e,e',e2,k _ _ h⟩
 .exact h.elim
theorem zki {X:Cx}:xB X (.builtin "isinstance") (vS X.K (isjS X.K)):=by
 intro pins s σ H xs us Q I r h;obtain ⟨ws,G,rs,ab,h⟩:=h;unfold isjS at h
 split at h
 .rename_i w T;obtain ⟨v,y,rfl,rv,ry⟩:=gY rs;cases (show y=.ty T from ry);obtain ⟨u,c,rfl,ru,rc⟩:=mZ r;cases (show c=Value.type T from rc);obtain ⟨T',b,ty,e,h⟩:=h;obtain ⟨HH,kx,hp,hb⟩:=zjW I ab rv ru ty;exact wE I.tk (Zcs kx I.kIn hp e hb fun tk h0=>⟨.bl b,H,I.tok _ h0,rfl,h _ H .refl rfl ab⟩)
 .rename_i w ts;obtain ⟨v,y,rfl,rv,ry⟩:=gY rs;obtain ⟨u,c,rfl,ru,rc⟩:=mZ r;obtain ⟨T',b,Ts,ty,et,e,h⟩:=h;obtain ⟨a,vs,rfl,sq,rr⟩:=ry;cases (show c=Value.ref a from rc);obtain ⟨its,vv,p,_⟩:=I.tuple sq;obtain ⟨⟨oc,od,dt,sl⟩,h1,h2,n,h3⟩:=p;cases (show oc=_ from h2);cases (show dt=_ from h3);have ei:=za0 et rr vv;subst ei;obtain ⟨HH,kx,hp,hb⟩:=zjW I ab rv ru ty;exact wE I.tk (PySem.W.kia_tup kx I.kIn hp h1 e hb fun tk h0=>⟨.bl b,H,I.tok _ h0,rfl,h _ H .refl rfl ab⟩)
 .exact h.elim
end L3
namespace L2
open PySem PySem.Spec PyProof.Rows
section
variable {a b:Bool} {z TI TO i1 i2 l1 l2:Addr}
end
end L2
namespace L3
open PySem PySem.Spec PyProof.Rows L2 PySem.SeqAt
def bOf (w:W):Bool:=match w with|.tup _=>true|_=>false
theorem zcD {K:yS} {H1 H:Hp} {G1 G:Hw} {w:W} {a:Addr} {vs:List V} {b:Bool} {xs:List W} (g:yO K H1 H) (ab:xR K H G) (r1:wO K H1 w (.ref a)) (b1:wT G1 w=some xs) (sq1:SqB b K H1 a vs) (hb:b=bOf w) (st:wT G w=some xs) (rr1:zG K H1 xs vs) :
  ∃ vs',SqB b K H a vs'/\zG K H xs vs':=by
 cases w with
 |tup ws =>
  subst hb;exact ⟨vs,g.1 _ _ sq1,rr1.mono g⟩
 |ref p =>
  subst hb;cases (show V.ref a=.ref p from r1);obtain ⟨vs',sq,rr⟩:=ab.seq st;exact ⟨vs',sq,rr⟩
 |_=>cases b1
theorem mF {K:yS} {H:Hp} {G:Hw} {w:W} {v:V} {xs:List W} (ab:xR K H G) (r:wO K H w v) (e:wT G w=some xs):∃ a vs,v=.ref a/\SqB (bOf w) K H a vs/\zG K H xs vs:=by
 cases w with
 |tup ws =>
  obtain ⟨a,vs,rfl,sq,rr⟩:=r;cases e;exact ⟨a,vs,rfl,sq,rr⟩
 |ref p =>
  cases (show v=.ref p from r);obtain ⟨vs,sq,rr⟩:=ab.seq e;exact ⟨p,vs,rfl,sq,rr⟩
 |_=>cases e
def krun {α:Type} (lt:Nat->Nat->Bool):PySem.W.KasT α->α
 | .ret a=>a
 | .ask i j k=>krun lt (k (lt i j))
section
variable {n:Nat} {p:Array Nat}
end
def srtP (n:Nat) (lt:Nat->Nat->Bool):List Nat:=if n<2 then List.range n else (krun lt (PySem.W.kas_sort n)).toList
theorem gK {α:Type} (d:α) (l:List α):(List.range l.length).map (fun i=>l.getD i d)=l:=by
 apply List.ext_getElem
 .simp
 .intro i h1 h2;simp[h2]
mutual
def ltW:W->W->Option Bool
 | .str x,.str y=>some (decide (x.cps.toList<y.cps.toList))
 | .tup xs,.tup ys=>ltWs xs ys
 |_,_=>none
def ltWs:List W->List W->Option Bool
 | [],[]=>some false
 | [],_::_=>some true
 |_::_,[]=>some false
 |x::xs,y::ys=>if jB x y=true then ltWs xs ys else ltW x y
end
section
variable {X:Cx} {pins:List (Addr×Obj)} {σ:L2.St} {H:Hp} {s:Shared}
end
section
variable {prog:Program} {w:World} {A:Around} {E:Value->Shared->Prop} {s:Shared} {D:Addr} {vs:List Value} {κ:SortKind} {lt:Nat->Nat->Bool}
def But (D:Addr) (h h':Heap):Prop:=∀ b o,b≠D->h.get? b=some o->h'.get? b=some o
end
def ltB (x y:W):Bool:=(ltW x y).getD false
def srt (ws:List W):List W:=(srtP ws.length fun i j=>ltB (ws.getD i .non) (ws.getD j .non)).map fun i=>ws.getD i .non
section
variable {prog:Program} {w:World} {A:Around} {s:Shared} {b fin v:Bool} {C:Bool->Shared->Prop}
end
section
variable {X:Cx} {pins:List (Addr×Obj)} {σ:L2.St} {H:Hp} {s:Shared}
end
end L3
namespace L3
open PySem PySem.Spec PyProof.Rows L2
end L3
namespace PySem.W
open PySem.Spec PySem.Calls PyProof.Rows PySem
theorem zaY:builtinKind "BaseException.__getattribute__" = some .slot:=by
 decide +kernel
theorem zb5:splitId "BaseException.__getattribute__" = some ("BaseException", "__getattribute__"):=by
 decide +kernel
section
variable {prog:Program} {w:World} {A:Around} {E:Value->Shared->Prop} {s:Shared} {K:Frag} {x C:Addr} {ox:Obj} {od:Option Obj} {name:Str} {expr:Bool}
theorem zd8 {M:Model} {nameV:Value} {Q:Unit->Shared->Prop} (X:K.In s.heap) (I:InstAt s.heap x ox C od) (hs:subIn K (.ref C) (.type "BaseException")=some true) (q:Q () s):wpAny M A (checkBuiltinCall "BaseException.__getattribute__" ⟨[.ref x,nameV],[]⟩) Q E s:=by
 have hk:=zaY;have hsp:=zb5;have ha:=F.args_bexc_ga (.ref x) nameV;obtain ⟨hh,g,d,t,os⟩:=s;have ty:=I.type (M:=M);have ls:=looks_subIn X hs (M:=M);have LI:Looks M hh (isInstance (.ref x) (.type "BaseException")) true:=ty.andThen ls;simp only[checkBuiltinCall,hsp,hk];refine Za (LI.at ?_)
 wp_walk
 exact q
theorem zgv (self:Value):bindSpecial (.builtin "BaseException.__getattribute__") self=pure (.builtin "BaseException.__getattribute__", [self]):=by
 have hop:withoutEnding? "BaseException.__getattribute__" "#opaque" = none:=by decide +kernel
 have hdat:withoutEnding? "BaseException.__getattribute__" "#data" = none:=by decide +kernel
 have hk:=zaY;simp only[bindSpecial,typeOf,builtinType,hop,hdat,hk];rfl
theorem xg_by {nameV:Value} {fill:Bool} {Q:Value->Shared->Prop} (X:K.In s.heap) (I:InstAt s.heap x ox C od) (hga:findIn K (.ref C) "__getattribute__" = some (some (.builtin "BaseException.__getattribute__"))) (hgt:findIn K (.ref C) "__getattr__" = some none)
  (h:codeAny (model prog w) A (.call (.builtin "BaseException.__getattribute__") ⟨[.ref x,nameV],[]⟩) (fun r s'=>match r with|.ok (.ret v)=>wpAny (model prog w) A (handedOut v) Q E s'|_=>False) s) :
  wpAny (model prog w) A (getAttrBy (.ref x) nameV fill expr) Q E s:=by
 obtain ⟨hp,g,d,t,os⟩:=s;have ty:=I.type (M:=model prog w);have lg:=looks_findIn X hga (M:=model prog w);have lh:=looks_findIn X hgt (M:=model prog w);unfold getAttrBy;refine ZR (Za (ty.at ?_));refine Za (lg.at ?_);show wpAny _ _ (getAttrByItsOwn _ _ _ _ _ _) _ _ _;unfold getAttrByItsOwn;refine Za ?_;show wpAny _ _ (typeLookup (.ref C) "__getattr__") _ _ _;refine lh.at (Za (ZaU (ZR ?_)));have hx0:¬ ((expr&&onTheHeap (Value.builtin "BaseException.__getattribute__"))=true):=by cases expr<;>exact fun e=>nomatch e
 unfold callGetattribute;rw[if_neg hx0];unfold boundAndCalled;rw[zgv];refine Za (Zc (Zcu (Zbw h fun r s' z=>?_)));rcases r with _|(_|_|_|_)<;>first|exact z|exact z.elim
theorem zb3 {g a:Value} {tk:Tok} {Q:Fin->Shared->Prop} (X:K.In s.heap) (I:InstAt s.heap x ox C od) (hf:findObj K C od name=some (.bind g a))
  (q:codeAny (model prog w) A (.call g ⟨[a,.ref x,.ref C],[]⟩) (fun r s'=>match r with|.ok (.ret v)=>Q (.done (.ret v)) s'|_=>False) s) :
  wpAny (model prog w) A (Builtin.«object.__getattribute__» ⟨[.ref x,.str name tk],[]⟩) Q E s:=by
 obtain ⟨hp,gn,dr,tt,st⟩:=s;have ty:=I.type (M:=model prog w);have fd:=looks_find X I hf (M:=model prog w)
 delta Builtin.«object.__getattribute__»
 repeat (any_goals (first|with_reducible refine ty.at ?_|with_reducible refine fd.at ?_|wp_step))
 refine Zbw q fun r s' z=>?_;rcases r with _|(_|_|_|_)<;>first|exact z.elim|exact Zc z
theorem zd7 {Q:Option Value->Shared->Prop} (X:K.In s.heap) (I:InstAt s.heap x ox C od) (hga:findIn K (.ref C) "__getattribute__" = some (some (.builtin "BaseException.__getattribute__"))) (hgt:findIn K (.ref C) "__getattr__" = some none)
  (hs:subIn K (.ref C) (.type "BaseException")=some true) (hf:findObj K C od "__class__" = some (.bind (.builtin "getset_descriptor.__get__") (.builtin "object.__class__"))) (hm:mroIn K C (.type "object")=some true)
  (q:Q (some (.ref C)) { s with toks:=s.toks+1 }):wpAny (model prog w) A (getAttr? (.ref x) "__class__") Q E s:=by
 obtain ⟨hp,g,d,t,os⟩:=s;unfold getAttr? getAttrBy?
 refine Za (wpAny_mkText (Za (ZaU (xg_by (s:=⟨hp,g,d,t+1,os⟩) X I hga hgt
  (codeAny_call_builtin (by decide +kernel) F.entry_bexc_ga (zd8 (s:=⟨hp,g,d,t+1,os⟩) X I hs (zb3 (s:=⟨hp,g,d,t+1,os⟩) X I hf
   (class_get (s:=⟨hp,g,d,t+1,os⟩) X I hm ?_))))))))
 show wpAny _ _ (handedOut (.ref C)) _ _ _;rw[handedOut_of rfl];exact Zc (Zc q)
end
structure XC (K:Frag) (C:Addr):Prop where
 cls:(clsIn K C).isSome=true
 ga:findIn K (.ref C) "__getattribute__" = some (some (.builtin "BaseException.__getattribute__"))
 gt:findIn K (.ref C) "__getattr__" = some none
 sub:subIn K (.ref C) (.type "BaseException")=some true
 cl:findIn K (.ref C) "__class__" = some (some (.builtin "object.__class__"))
 mro:mroIn K C (.type "object")=some true
theorem zgw {K:Frag} {C:Addr} {od:Option Obj} (T:XC K C) (hn:specialIn K (.builtin "object.__class__") "__get__" = some (some (.builtin "getset_descriptor.__get__"))) (htk:takesIn K (.builtin "object.__class__")=some true) :
  findObj K C od "__class__" = some (.bind (.builtin "getset_descriptor.__get__") (.builtin "object.__class__")):=by
 obtain ⟨cd,hc⟩:=ZaL.mp T.cls;unfold findObj;rw[hc,T.cl];simp only[Option.bind_some,hn,htk]
theorem kitx_exc {K:Frag} {x C:Addr} (T:XC K C) (hn:specialIn K (.builtin "object.__class__") "__get__" = some (some (.builtin "getset_descriptor.__get__"))) (htk:takesIn K (.builtin "object.__class__")=some true) :
  KitX K (.ref x) (.ref C) (fun h=>∃ ox od,InstAt h x ox C od) where
 ty:=fun _ _ _ I=>by obtain ⟨_,_,I⟩:=I;exact I.type
 it:=fun _ _ X _=>by
  obtain ⟨cdD,hcD⟩:=ZaL.mp T.cls;unfold clsIn at hcD
  split at hcD
  .rename_i c' d' cd' sl' ho;intro A' Q' E' s' k q;unfold isType loadHead;refine Za (wpAny_loadPart (k _ _ (X _ _ ho)) ?_);exact Zc q
  .cases hcD
 ne:=fun hp tp _ _ _ _ X htp=>by
  obtain ⟨cdD,hcD⟩:=ZaL.mp T.cls;rw[Zb0];intro q;cases (Zb8 (beq_iff_eq.mp q):C=tp);unfold clsIn at hcD
  split at hcD
  .rename_i c' d' cd' sl' ho;cases (X _ _ ho).symm.trans htp
  .cases hcD
 ca:=fun X I k=>by
  obtain ⟨ox,od,I⟩:=I;exact zd7 X I T.ga T.gt T.sub (zgw T hn htk) T.mro k
end PySem.W
namespace PySem.W
open PySem PySem.Spec PySem.Calls PyProof.Rows Builtin Builtin.ObjectAttr
section
variable {prog:Program} {w:World} {A:Around} {Er:Value->Shared->Prop} {hp:Heap} {gn:Array GenState} {dr:Drawn} {tk:Nat} {st:OsState} {K:Frag} {x C:Addr} {fld:Str} {val:Value}
variable {fs:Array Value} {sl:Array (Option Value)} {cd:ClassData}
end
end PySem.W
namespace PySem
abbrev xnT (ps:List Value):Obj:={ cls:=.type "tuple", data:=.seq ps.toArray }
abbrev xnO (C n:Addr):Obj:={ cls:=.ref C,data:=.fields #[.ref n,.none,.none,.none,.bool false,.none] }
abbrev xnH (hp:Heap) (C:Addr) (ps:List Value):Heap:=(hp.push (xnT ps)).push (xnO C hp.objs.size)
theorem zfH {hp:Heap} {C:Addr} {ps:List Value} {b:Addr} {o:Obj} (e:hp.get? b=some o):(xnH hp C ps).get? b=some o:=Zb _ (Zb _ e)
theorem xn_it {hp:Heap} {C:Addr} {ps:List Value}:(xnH hp C ps).get? (hp.objs.size+1)=some (xnO C hp.objs.size):=by heap_get
section
variable {prog:Program} {w:World} {A:Around} {X:Value->Shared->Prop} {hp:Heap} {gn:Array GenState} {dr:Drawn} {tk:Nat} {st:OsState}
variable {nm qn:Str} {C N:Addr} {bs up upB:List Value} {hdct:Bool} {sn:List Str} {sub:List Value} {ab:Bool} {col:Option Bool} {dd:Option Addr} {k0 k1 k2 k3 k5:Option Value} {B B' new new' ini ini':String} {up':List Value}
variable {mN:Str->Option Value} {ps:List Value} {fI:Addr} {oI:Obj}
end
end PySem
namespace L3
open PySem PySem.Spec PyProof.Rows L2
structure XK (K:yS):Prop where
 get:PySem.W.specialIn K (.builtin "object.__class__") "__get__" = some (some (.builtin "getset_descriptor.__get__"))
 tak:PySem.W.takesIn K (.builtin "object.__class__")=some true
theorem zaM {X:Cx} {pins:List (Addr×Obj)} {σ:L2.St} {H:Hp} {s:Shared} {a C:Addr} {l:List (Str×V)} (I:Inv X pins σ H s) (e:ExAt H a C l):∃ ox od,PySem.W.InstAt s.heap a ox C od:=by
 rcases e with ⟨e,_⟩|⟨dx,e,e'⟩
 .obtain ⟨⟨fs,h1⟩,_⟩:=I.hok a _ e;exact ⟨_,none,h1,rfl,rfl,True.intro⟩
 .obtain ⟨⟨fs,h1⟩,_⟩:=I.hok a _ e;obtain ⟨mA,⟨od,es,ep,h2,_⟩,_⟩:=I.hok dx _ e';exact ⟨_,some od,h1,rfl,rfl,h2⟩
def za7:List W->Option (List Addr)
 | []=>some []
 | .ref C::r=>(za7 r).map (C::·)
 |_=>none
theorem cS {K:yS} {H:Hp}:∀ {ws:List W} {Cs:List Addr} {vs:List V} {us:List Value},za7 ws=some Cs->zG K H ws vs->zF vs us->us=Cs.map .ref
 | [],Cs,vs,us,e,r,v=>by cases e;cases (show vs=[] from r);cases v;rfl
 |w::ws,Cs,vs,us,e,r,v=>by
  cases w with
  |ref C =>
   simp only[za7] at e;obtain ⟨Cs',e',rfl⟩:=Zs.mp e;obtain ⟨x,tl,rfl,rx,rt⟩:=r;cases (show x=.ref C from rx)
   cases v with
   |cons a c =>
    cases (show _=Value.ref C from a);rw[cS e' rt c];rfl
  |_=>cases e
def isxS (K:yS):RS:=fun ws G Q=>match ws with
 | [.exc C _ _,.ref D]=>PySem.W.XC K C/\XK K/\∃ b,PySem.W.kitOne K (.ref C) (.ref D)=some b/\Q (.bl b) G
 | [.exc C _ _,.ty T]=>PySem.W.XC K C/\XK K/\∃ b,PySem.W.kitOne K (.ref C) (.type T)=some b/\Q (.bl b) G
 | [.exc C _ _,.tup ts]=>PySem.W.XC K C/\XK K/\∃ b Cs,za7 ts=some Cs/\PySem.W.kitAny K (.ref C) (Cs.map .ref)=some b/\Q (.bl b) G
 |ws=>isjS K ws G Q
theorem cB (K:yS):wP (isxS K):=by
 intro ws G Q Q' k h;unfold isxS at h ⊢
 split at h
 .obtain ⟨h1,h2,b,h3,h4⟩:=h;exact ⟨h1,h2,b,h3,k _ _ h4⟩
 .obtain ⟨h1,h2,b,h3,h4⟩:=h;exact ⟨h1,h2,b,h3,k _ _ h4⟩
 .obtain ⟨h1,h2,b,Cs,h3,h4,h5⟩:=h;exact ⟨h1,h2,b,Cs,h3,h4,k _ _ h5⟩
 .exact zdg K _ _ _ _ k h
theorem zkh {X:Cx}:xB X (.builtin "isinstance") (vS X.K (isxS X.K)):=by
 intro pins s σ H xs us Q I r h;obtain ⟨ws,G,rs,ab,h⟩:=h;unfold isxS at h
 split at h
 .rename_i C ns vs' D;obtain ⟨v,y,rfl,rv,ry⟩:=gY rs;cases (show y=.ref D from ry);obtain ⟨u,c,rfl,ru,rc⟩:=mZ r;cases (show c=Value.ref D from rc);obtain ⟨xc,xk,b,e,h⟩:=h;obtain ⟨a,vs,rfl,ex,_⟩:=rv;cases (show u=Value.ref a from ru);exact wE I.tk (Zcs (PySem.W.kitx_exc xc xk.get xk.tak) I.kIn (zaM I ex) e (fun z=>nomatch z) fun tk h0=>⟨.bl b,H,I.tok _ h0,rfl,h _ H .refl rfl ab⟩)
 .rename_i C ns vs' T;obtain ⟨v,y,rfl,rv,ry⟩:=gY rs;cases (show y=.ty T from ry);obtain ⟨u,c,rfl,ru,rc⟩:=mZ r;cases (show c=Value.type T from rc);obtain ⟨xc,xk,b,e,h⟩:=h;obtain ⟨a,vs,rfl,ex,_⟩:=rv;cases (show u=Value.ref a from ru);exact wE I.tk (Zcs (PySem.W.kitx_exc xc xk.get xk.tak) I.kIn (zaM I ex) e (fun z=>nomatch z) fun tk h0=>⟨.bl b,H,I.tok _ h0,rfl,h _ H .refl rfl ab⟩)
 .rename_i C ns vs' ts;obtain ⟨v,y,rfl,rv,ry⟩:=gY rs;obtain ⟨u,c,rfl,ru,rc⟩:=mZ r;obtain ⟨xc,xk,b,Cs,et,e,h⟩:=h;obtain ⟨a,vs,rfl,ex,_⟩:=rv;cases (show u=Value.ref a from ru);obtain ⟨p,ys,rfl,sq,rr⟩:=ry;cases (show c=Value.ref p from rc);obtain ⟨its,vv,pl,_⟩:=I.tuple sq;obtain ⟨⟨oc,od,dt,sl⟩,h1,h2,n,h3⟩:=pl;cases (show oc=_ from h2);cases (show dt=_ from h3);have ei:=cS et rr vv;subst ei;exact wE I.tk (PySem.W.kia_tup (PySem.W.kitx_exc xc xk.get xk.tak) I.kIn (zaM I ex) h1 e (fun z=>nomatch z) fun tk h0=>⟨.bl b,H,I.tok _ h0,rfl,h _ H .refl rfl ab⟩)
 .exact zki pins s σ H xs us Q I r ⟨_,G,rs,ab,h⟩
abbrev eIsx (K:yS):Fn3:=⟨"isinstance", fun ws G Q _=>isxS K ws G Q⟩
theorem zhX {q:Pr} {A:Around} (hm:q.mg "isinstance" = none):qF (q.at A) (eIsx q.K):=⟨fQ (id := "isinstance") hm (by decide +kernel) (fun X f=>by rw[← show X.K=q.K from f.K];exact zkh) (cB _) (fun _ _ h=>h),fun ws G Q Q' _ k h=>cB _ ws G Q Q' k h⟩
section
variable {X:Cx}
end
end L3
namespace PySem
open PySem.W
def Nw (fs:Array Value):Prop:=∃ v0 v2 v3 v4 v5,fs=#[v0,.none,v2,v3,v4,v5]
section
variable {prog:Program} {w:World} {A:Around} {Er:Value->Shared->Prop} {hp:Heap} {gn:Array GenState} {dr:Drawn} {tk:Nat} {st:OsState} {K:Frag}
variable {nm qn:Str} {C N:Addr} {bs up:List Value} {hdct:Bool} {sn:List Str} {sub:List Value} {ab:Bool} {col:Option Bool} {dd:Option Addr} {k0 k1 k2 k3 k5:Option Value} {B new ini:String} {upB:List Value} {ps:List Value}
theorem zin {M:Model} (F:ExcBaseFacts B new ini upB) (cC:hp.get? C=some (excClassObj nm qn C N bs up hdct sn sub ab col dd k0 k1 k2 k3 k5 new)) (isB:(Value.ref C::up).contains (.type B)=true) {Q:Unit->Shared->Prop} (go:Q () ⟨hp,gn,dr,tk,st⟩) :
  wpAny M A (checkBuiltinCall new ⟨.ref C::ps,[]⟩) Q Er ⟨hp,gn,dr,tk,st⟩:=by
 have z:=F.noStar;simp only[checkBuiltinCall,F.newKind,F.newRow,F.newSplit]
 repeat (first|(refine Zah cC ?_;rw[isB])|refine wpAny_madeBy_exc cC ?_|refine wpAny_staticBase_exc cC ?_|refine Z1 cC ?_|simp only[if_false,zzB,bne_self_eq_false]|wp_step)
 exact go
theorem zim (F:ExcBaseFacts B new ini upB) (cC:hp.get? C=some (excClassObj nm qn C N bs up hdct sn sub ab col dd k0 k1 k2 k3 k5 new)) (isB:(Value.ref C::up).contains (.type B)=true) (noA:(Value.ref C::up).contains (.type "AttributeError")=false) (sQ:(Value.ref C::up).contains (.type "NameError")=false)
  (few:ps.length<=sizeLine) {R:Result->Shared->Prop} (go:R (.ok (.ret (.ref (hp.objs.size+1)))) ⟨xnH hp C ps,gn,dr,tk,st⟩):codeAny (model prog w) A (.builtin new ⟨.ref C::ps,[]⟩) R ⟨hp,gn,dr,tk,st⟩:=by
 have z:=F.ends;refine codeAny_builtinAt F.entry ?_;unfold Builtin.«BaseException.__new__»;refine wpAt_bind (show wpAt _ _ _ (stack >>= _) _ _ _ from wpAt_bind (wpAt_stack fun p below=>wpAt_of_wpAny ?_))
 wp_walk
 refine wpAt_of_wpAny ?_;rw[F.owner]
 repeat (first|(with_reducible refine Zah cC ?_;first|rw[isB]|rw[noA]|rw[sQ])|(with_reducible refine wpAny_madeHere_exc F.canon cC ?_)|(with_reducible refine Z1 cC ?_)|wp_step)
 show R _ _;rw[Zaa];exact go
theorem zgu {M:Model} (F:ExcBaseFacts B new ini upB) {x:Addr} {ob:Obj} (cC:hp.get? C=some (excClassObj nm qn C N bs up hdct sn sub ab col dd k0 k1 k2 k3 k5 new)) (at_:hp.get? x=some ob) (cl:ob.cls=.ref C) (isB:(Value.ref C::up).contains (.type B)=true) {Q:Unit->Shared->Prop} (go:Q () ⟨hp,gn,dr,tk,st⟩) :
  wpAny M A (checkBuiltinCall ini ⟨[.ref x],[]⟩) Q Er ⟨hp,gn,dr,tk,st⟩:=by
 have z:=F.noStar;simp only[checkBuiltinCall,F.initKind,F.initRow,F.initSplit]
 repeat (first|(with_reducible refine Zah cC ?_;rw[isB])|(with_reducible refine Z1 at_ ?_;rw[cl])|(with_reducible refine Z1 cC ?_)|wp_step)
 exact go
theorem zd5 (X:K.In hp) (F:ExcBaseFacts B new ini upB) (lC:K.lookup C=some (excClassObj nm qn C N bs up hdct sn sub ab col dd k0 k1 k2 k3 k5 new)) (isB:(Value.ref C::up).contains (.type B)=true) (noA:(Value.ref C::up).contains (.type "AttributeError")=false) (sQ:(Value.ref C::up).contains (.type "NameError")=false)
  (ci:findIn K (.ref C) "__init__" = some (some (.builtin ini))) {Q:Fin->Shared->Prop}
  (go:∀ h',(∀ b o,hp.get? b=some o->h'.get? b=some o)->(∃ fs,h'.get? (hp.objs.size+1)=some { cls:=.ref C,data:=.fields fs }/\Nw fs)->Q (.done (.ret (.ref (hp.objs.size+1)))) ⟨h',gn,dr,tk,st⟩) :
  wpAny (model prog w) A (Builtin.«type.__call__» ⟨[.ref C],[]⟩) Q Er ⟨hp,gn,dr,tk,st⟩:=by
 have cC:=X _ _ lC;have X':K.In (xnH hp C []):=fun a o e=>zfH (X a o e);have mine:(Value.ref C::up).contains (.ref C)=true:=by simp
 have cC':=X' _ _ lC;have here:=xn_it (hp:=hp) (C:=C) (ps:=[])
 repeat (first|(with_reducible refine Z1 cC ?_)|(with_reducible refine wpAny_madeBy_exc cC ?_)|wp_step)
 refine codeAny_call_builtin_code (Code.quiet_builtin _ F.quiet) (zin (ps:=[]) F cC isB (zim (ps:=[]) F cC isB noA sQ (Zan _) ?_));show wpAny _ _ _ _ _ (Shared.mk (xnH hp C []) _ _ _ _);unfold isInstance
 repeat (first|(with_reducible refine Z1 here ?_)|(with_reducible refine Zah cC' ?_;rw[mine])|wp_step)
 refine (show wpAny (model prog w) A (typeLookup (.ref C) "__init__") _ _ _ from (looks_findIn X' ci (M:=model prog w)).at ?_);refine ZR ?_;refine Za (Zbe (F.init.bind _) ?_);refine Za (Zcu (codeAny_call_builtin F.init.plain F.initEntry (zgu F cC' here rfl isB ?_)))
 wp_walk
 refine go _ (fun b o e=>?_) ⟨_,ZD _ (Zb _ here) rfl,⟨_,_,_,_,_,rfl⟩⟩;have lt:=Zd e;rw[Heap.get?_update_ne _ _ _ _ (Zj (ZaK lt))];exact Zb _ (zfH e)
theorem zd6 (X:K.In hp) (F:ExcBaseFacts B new ini upB) (lC:K.lookup C=some (excClassObj nm qn C N bs up hdct sn sub ab col dd k0 k1 k2 k3 k5 new)) (isB:(Value.ref C::up).contains (.type B)=true) (noA:(Value.ref C::up).contains (.type "AttributeError")=false) (sQ:(Value.ref C::up).contains (.type "NameError")=false)
  (ci:findIn K (.ref C) "__init__" = some (some (.builtin ini))) {Q:Value->Shared->Prop}
  (go:∀ h',(∀ b o,hp.get? b=some o->h'.get? b=some o)->(∃ fs,h'.get? (hp.objs.size+1)=some { cls:=.ref C,data:=.fields fs }/\Nw fs)->Q (.ref (hp.objs.size+1)) ⟨h',gn,dr,tk,st⟩) :
  wpAny (model prog w) A (call (.ref C) []) Q Er ⟨hp,gn,dr,tk,st⟩:=by
 have cC:=X _ _ lC;have a1:=tc_lookup;have a2:=tc_bind (.ref C);have a3:(⟨hp,gn,dr,tk,st⟩:Shared).TypeIs (.ref C) "type" := ⟨_,cC,rfl⟩;refine Zcu (Zct (show wpAny _ _ (callAny (.ref C) _) _ _ _ from ?_))
 repeat (any_goals (first|assumption|(with_reducible refine Z1 cC ?_)|wp_step))
 exact ⟨rfl,codeAny_call_builtin_at (Code.quiet_builtin _ (by decide +kernel)) entry_typeCall (wpAny_check_type_call_sub cC (zd5 X F lC isB noA sQ ci go))⟩
end
end PySem
namespace L3
open PySem PySem.Spec PyProof.Rows L2
structure XM (K:yS) (C:Addr) (ini:Value):Prop where
 cls:∃ (nm qn:Str) (N:Addr) (bs up:List Value) (hd:Bool) (sn:List Str) (sub:List Value) (ab:Bool) (col:Option Bool) (dd:Option Addr) (k0 k1 k2 k3 k5:Option Value),
  K.lookup C=some (excClassObj nm qn C N bs up hd sn sub ab col dd k0 k1 k2 k3 k5 "ValueError.__new__")/\(Value.ref C::up).contains (.type "ValueError")=true/\(Value.ref C::up).contains (.type "AttributeError")=false/\(Value.ref C::up).contains (.type "NameError")=false/\(Value.ref C::up).contains (.type "BaseException")=true
 ini:PySem.W.findIn K (.ref C) "__init__" = some (some ini)
 kp:PySem.W.keepIn K (.ref C)=true
def ExN (a C:Addr) (dx:Option Addr):Heap->Prop:=fun h=>∃ fs,h.get? a=some { cls:=.ref C,dict:=dx,data:=.fields fs }/\Nw fs
theorem zks {P:Program} {w:World} {H:Hp} {h:Heap} {a C:Addr} {dx:Option Addr} {fs:Array Value} (e:h.get? a=some { cls:=.ref C,dict:=dx,data:=.fields fs }) (n:Nw fs):xM P w H h a (.ext (ExN a C dx)) :=
 ⟨⟨fs,e,n⟩,⟨_,e⟩,fun h1 h2 z k=>by obtain ⟨fs',e,n⟩:=z;exact ⟨fs',k _ e,n⟩⟩
theorem zdu {P:Program} {w:World} {H:Hp} {h:Heap} {a C:Addr} {dx:Option Addr} {fs:Array Value} (e:h.get? a=some { cls:=.ref C,dict:=dx,data:=.fields fs }):xM P w H h a (.ext (dL a C dx)) :=
 ⟨⟨fs,e⟩,⟨_,e⟩,fun h1 h2 z k=>by obtain ⟨fs',e⟩:=z;exact ⟨fs',k _ e⟩⟩
def mk0 (C:Addr):List V->Hp->VK->Prop:=fun vs H Q=>vs=[]/\∀ a,H a=none->Q (.ref a) (xP H a (.ext (ExN a C none)))
theorem zjN {X:Cx} {C:Addr} (T:XM X.K C (.builtin "ValueError.__init__")):xB X (.ref C) (mk0 C):=by
 intro pins s σ H xs us Q I r h;obtain ⟨rfl,h⟩:=h;cases r;obtain ⟨nm,qn,N,bs,up,hd,sn,sub,abb,col,dd,k0,k1,k2,k3,k5,lC,isB,noA,sQ,isX⟩:=T.cls;obtain ⟨hp,gn,dr,tk,st⟩:=s;refine zd6 I.kIn F.excBase_ValueError lC isB noA sQ T.ini fun h' keep new=>?_;obtain ⟨fs,at_,nw⟩:=new;have fr:H (hp.objs.size+1)=none:=I.hok.fresh (Zcx _);have I':=I.laid (a:=hp.objs.size+1) (h':=h') (t':=tk) (o:=.ext (ExN (hp.objs.size+1) C none)) keep (Zcx _) (zks at_ nw);exact ⟨.ref (hp.objs.size+1),_,I',rfl,h _ fr⟩
section
variable {X:Cx}
end
structure Lf (fs:List Addr) (a:Addr) (old:Option Addr) (T:Addr) (fl:Value) (h h':Heap):Prop where
 keep:∀ b o,h.get? b=some o->b≠a->old≠some b->b∉fs->h'.get? b=some o
 slot:∀ b o,h.get? b=some o->b≠a->old≠some b->∃ sl,h'.get? b=some { o with slots:=sl }
 it:∀ o vs,h.get? a=some o->o.data=.fields vs->∃ vs',h'.get? a=some { o with data:=.fields vs' }/\vs'[1]?=some (.ref T)
 tb:∃ oT ts,h'.get? T=some oT/\oT.data=.fields ts/\ts[3]?=some fl
 new:h.objs.size<=T
 old':∀ b o,old=some b->h.get? b=some o->∃ o',h'.get? b=some o'
section
variable {M:Model} {A:Around} {E:Value->Shared->Prop} {s:Shared} {base:Heap} {env:Env} {outer:List Env} {L a:Addr}
theorem mapF {o:Obj} {vs:Array Value} (hd:o.data=.fields vs) (f:Array Value->Array Value):Obj.mapFields f o={ o with data:=.fields (f vs) }:=by
 obtain ⟨c,d,dt,sl⟩:=o;subst hd;rfl
theorem vC {h:Heap} {b:Addr} {o:Obj} {vs:Array Value} (e:h.get? b=some o) (hd:o.data=.fields vs) (f:Array Value->Array Value):(h.update b (Obj.mapFields f)).get? b=some { o with data:=.fields (f vs) }:=by
 rw[← mapF hd];exact ZD _ e (by rw[mapF hd];rfl)
theorem zbu {oe:Obj} {vs:Array Value} {head:Value} {had:Bool} {Q:Unit->Shared->Prop} (hfr:A.frames=some (env::outer)) (hl:s.heap.FunFrames base (env::outer)) (hf:env.frame=some L) (he:s.heap.get? a=some oe) (hd:oe.data=.fields vs) (hz:1<vs.size)
  (q:∀ h' T,Lf (pW (env::outer)) a none T (rawInt L) s.heap h'->Q () { s with heap:=h' }) :
  wpAny M A (frameOf env >>= fun x=>entryPlaceOf L had >>= fun pl=>EntryCells.newEntry head x .none (rawInt L) .none pl >>= fun b=>setField (.ref a) 1 b) Q E s:=by
 have na:a∉pW (env::outer):=fun z=>by
  obtain ⟨_,o,ho,no⟩:=hl.mem z;rw[he] at ho;cases ho;exact no vs hd
 refine Za (wpAny_frameOf_fun hfr hl hf fun h1 s1=>Za (wpAny_entryPlaceOf fun pl hp=>?_));unfold EntryCells.newEntry newFields;refine Za (ZN ?_ (hp.sizeOk5 _ _ _ _ _));have e1:h1.get? a=some oe:=(s1.2.1 a na).trans he;have lt:a<h1.objs.size:=Zd e1;refine ZaD (Zb _ e1) hd hz (q _ h1.objs.size ⟨fun b o eb n1 _ n2=>?_,fun b o eb n1 _=>?_,fun o ws eo ew=>?_,?_,by rw[s1.1];exact zzR _,fun b o z=>by cases z⟩)
 .rw[Zq _ _ (Ne.symm n1)];exact Zb _ ((s1.2.1 b n2).trans eb)
 .obtain ⟨sl,es⟩:=s1.2.2 b o eb;exact ⟨sl,by rw[Zq _ _ (Ne.symm n1)];exact Zb _ es⟩
 .rw[he] at eo;cases eo;rw[hd] at ew;cases ew;exact ⟨_,vC (Zb _ e1) hd _,by simp[hz]⟩
 .refine ⟨_,_,(Zq _ _ (Zj lt)).trans (Zg h1 rfl),rfl,?_⟩
  first|(simp;done)|(rcases hp with rfl|⟨_,_,_,_,_,_,_,rfl⟩<;>simp)
theorem zcU {oe:Obj} {vs:Array Value} {Q:Unit->Shared->Prop} (hfr:A.frames=some (env::outer)) (hl:s.heap.FunFrames base (env::outer)) (hf:env.frame=some L) (he:s.heap.get? a=some oe) (hd:oe.data=.fields vs) (h1:vs[1]?=some .none)
  (q:∀ h' T,Lf (pW (env::outer)) a none T (rawInt L) s.heap h'->Q () { s with heap:=h' }):wpAny M A (noteFrame (.ref a) env) Q E s:=by
 unfold noteFrame;simp only[hf];refine Za (ZF he hd h1 ?_);rw[if_neg (by decide)];exact zbu hfr hl hf he hd (ZX.mp h1).1 q
structure Trc (h:Heap) (a T:Addr):Prop where
 it:∃ o vs,h.get? a=some o/\o.data=.fields vs/\vs[1]?=some (.ref T)
 ne:T≠a
 tb:∃ o ts,h.get? T=some o/\o.data=.fields ts/\ts[3]?=some .none
structure TrcA (h:Heap) (a T:Addr):Prop where
 it:∃ o vs,h.get? a=some o/\o.data=.fields vs/\vs[1]?=some (.ref T)
 ne:T≠a
 tb:∃ o ts,h.get? T=some o/\o.data=.fields ts/\3<ts.size
theorem Trc.any {h:Heap} {T:Addr} (t:Trc h a T):TrcA h a T:=by
 obtain ⟨o,ts,e,d,h3⟩:=t.tb;exact ⟨t.it,t.ne,o,ts,e,d,(ZX.mp h3).1⟩
theorem gW {T0:Addr} {Q:Unit->Shared->Prop} (hfr:A.frames=some (env::outer)) (hl:s.heap.FunFrames base (env::outer)) (hf:env.frame=some L) (t:TrcA s.heap a T0) (q0:¬ (∃ o ts,s.heap.get? T0=some o/\o.data=.fields ts/\ts[3]?=some .none)->Q () s)
  (q:∀ h' T,Lf (pW (env::outer)) a (some T0) T (rawInt L) s.heap h'->Q () { s with heap:=h' }):wpAny M A (noteFrame (.ref a) env) Q E s:=by
 obtain ⟨oe,vs,he,hd,h1⟩:=t.it;obtain ⟨oT,ts,hT,dT,z3⟩:=t.tb;have h3:ts[3]?=some ts[3]:=Za7 z3
 have nT:T0∉pW (env::outer):=fun z=>by
  obtain ⟨_,o,ho,no⟩:=hl.mem z;rw[hT] at ho;cases ho;exact no ts dT
 unfold noteFrame;simp only[hf];refine Za (ZF he hd h1 ?_);rw[if_pos (show (Value.ref T0 != Value.none)=true by simp)];refine Za (ZF hT dT h3 ?_)
 by_cases hz:(ts[3]==rawInt L)=true
 .rw[if_pos hz];refine Zc (q0 fun z=>?_);obtain ⟨o,us,e1,e2,e3⟩:=z;rw[hT] at e1;cases e1;rw[dT] at e2;cases e2;rw[h3] at e3;rw[Zx e3] at hz;simp[rawInt] at hz
 rw[if_neg hz];refine Za (ZaD hT dT z3 ?_);have off:∀ {b:Addr} {o:Obj},b≠T0->s.heap.get? b=some o->(s.heap.update T0 (Obj.mapFields (·.setIfInBounds 3 Value.none))).get? b=some o:=fun n e=>(Zq _ _ (Ne.symm n)).trans e
 have nf:∀ b o,s.heap.get? b=some o->(∀ vs,o.data≠.fields vs)->b≠T0:=fun b o e no z=>by
  rw[z,hT] at e;cases e;exact no ts dT
 refine zbu (base:=base) (a:=a) (oe:=oe) (s:={ s with heap:=s.heap.update T0 (Obj.mapFields (·.setIfInBounds 3 Value.none)) }) hfr (hl.of_keeps fun b o e no=>⟨o,off (nf b o e no) e,rfl⟩) hf (off t.ne.symm he) hd (ZX.mp h1).1 fun h' T x=>q h' T ?_;refine ⟨fun b o e n1 n2 n3=>x.keep b o (off (fun z=>n2 (by rw[z])) e) n1 (by simp) n3,fun b o e n1 n2=>x.slot b o (off (fun z=>n2 (by rw[z])) e) n1 (by simp),fun o ws e ew=>?_,x.tb,?_,fun b o eb e=>?_⟩
 .exact x.it o ws (off t.ne.symm e) ew
 .have:=x.new
  rwa[Heap.size_after_update] at this
 .cases eb;obtain ⟨sl,es⟩:=x.slot T0 _ (vC hT dT _) t.ne (by simp);exact ⟨_,es⟩
theorem zaA {T0:Addr} {Q:Unit->Shared->Prop} (hfr:A.frames=some (env::outer)) (hl:s.heap.FunFrames base (env::outer)) (hf:env.frame=some L) (t:Trc s.heap a T0)
  (q:∀ h' T,Lf (pW (env::outer)) a (some T0) T (rawInt L) s.heap h'->Q () { s with heap:=h' }):wpAny M A (noteFrame (.ref a) env) Q E s:=gW hfr hl hf t.any (fun z=>absurd t.tb z) q
theorem uE {fs:List Addr} {old:Option Addr} {T:Addr} {fl:Value} {h0:Heap} {Q:Unit->Shared->Prop} (x:Lf fs a old T fl h0 s.heap) (he:∃ o vs,h0.get? a=some o/\o.data=.fields vs) (q:∀ h',Lf fs a old T .none h0 h'->Q () { s with heap:=h' }):wpAny M A (setFlight (.ref a) none) Q E s:=by
 obtain ⟨o,vs,he,hd⟩:=he;obtain ⟨vs',e1,h1⟩:=x.it o vs he hd;obtain ⟨oT,ts,eT,dT,h3⟩:=x.tb;have z3:3<ts.size:=(ZX.mp h3).1;have off:∀ {b:Addr} {o:Obj},h0.get? b=some o->∀ {u:Obj},s.heap.get? b=some u->(s.heap.update T (Obj.mapFields (·.setIfInBounds 3 Value.none))).get? b=some u:=fun e u r=>(Zq _ _ (Ne.symm (Zj (Ze (Zd e) x.new)))).trans r;unfold setFlight;refine Za (ZF e1 rfl h1 ?_);rw[if_pos (show (Value.ref T != Value.none)=true by simp)];refine ZaD eT dT z3 (q _ ⟨fun b o e n1 n2 n3=>off e (x.keep b o e n1 n2 n3),fun b o e n1 n2=>?_,fun o ws e ew=>?_,⟨_,_,vC eT dT _,rfl,by simp[z3]⟩,x.new,fun b o eb e=>?_⟩)
 .obtain ⟨sl,r⟩:=x.slot b o e n1 n2;exact ⟨sl,off e r⟩
 .obtain ⟨ws',r,r1⟩:=x.it o ws e ew;exact ⟨ws',off e r,r1⟩
 .obtain ⟨o',r⟩:=x.old' b o eb e;exact ⟨o',off e r⟩
theorem zaL {T:Addr} {fr:Option Addr} {Q:Unit->Shared->Prop} (t:TrcA s.heap a T) (q:∀ h',TrcA h' a T->Heap.SameBut T s.heap h'->(fr=none->Trc h' a T)->Q () { s with heap:=h' }):wpAny M A (setFlight (.ref a) fr) Q E s:=by
 obtain ⟨o,vs,he,hd,h1⟩:=t.it;obtain ⟨oT,ts,eT,dT,z3⟩:=t.tb;unfold setFlight;refine Za (ZF he hd h1 ?_);rw[if_pos (show (Value.ref T != Value.none)=true by simp)];refine ZaD eT dT z3 (q _ ⟨⟨o,vs,(Zq _ _ t.ne).trans he,hd,h1⟩,t.ne,_,_,vC eT dT _,rfl,by simp[z3]⟩ (ZbH ..) fun e=>⟨⟨o,vs,(Zq _ _ t.ne).trans he,hd,h1⟩,t.ne,_,_,vC eT dT _,rfl,by subst e;simp[z3]⟩)
theorem Lf.trc {fs:List Addr} {old:Option Addr} {T:Addr} {h h':Heap} (x:Lf fs a old T .none h h') (he:∃ o vs,h.get? a=some o/\o.data=.fields vs):Trc h' a T:=by
 obtain ⟨o,vs,he,hd⟩:=he;obtain ⟨vs',e1,h1⟩:=x.it o vs he hd;exact ⟨⟨_,vs',e1,rfl,h1⟩,Z8 (Ze (Zd he) x.new),x.tb⟩
theorem zc6 {oe:Obj} {vs:Array Value} {Q:Unit->Shared->Prop} (hfr:A.frames=some (env::outer)) (hl:s.heap.FunFrames base (env::outer)) (hf:env.frame=some L) (he:s.heap.get? a=some oe) (hd:oe.data=.fields vs) (h1:vs[1]?=some .none)
  (q:∀ h' T,Lf (pW (env::outer)) a none T .none s.heap h'->Q () { s with heap:=h' }):wpAny M A (leaving env (.ref a)) Q E s:=by
 unfold leaving;exact Za (zcU hfr hl hf he hd h1 fun h' T x=>uE x ⟨oe,vs,he,hd⟩ fun h2 x2=>q h2 T x2)
theorem ze3 {T0:Addr} {Q:Unit->Shared->Prop} (hfr:A.frames=some (env::outer)) (hl:s.heap.FunFrames base (env::outer)) (hf:env.frame=some L) (t:Trc s.heap a T0)
  (q:∀ h' T,Lf (pW (env::outer)) a (some T0) T .none s.heap h'->Q () { s with heap:=h' }):wpAny M A (leaving env (.ref a)) Q E s:=by
 obtain ⟨oe,vs,he,hd,h1⟩:=t.it;unfold leaving;exact Za (zaA hfr hl hf t fun h' T x=>uE x ⟨oe,vs,he,hd⟩ fun h2 x2=>q h2 T x2)
end
def CXr (P:Program) (w:World):CXT:=fun outer H s E e s'=>∃ (a C:Addr) (dx:Option Addr) (T:Addr) (H':Hp),e=.ref a/\s'.os=s.os/\0<s'.toks/\AllBare s'.gens/\Un (pW outer) [] H H' s.heap s'.heap/\uK P w H' s'.heap /\
 H' a=some (.ext (dL a C dx))/\Trc s'.heap a T/\s.heap.objs.size<=T/\H' T=none/\E (.ref a) none H'
section
variable {P:Program} {w:World} {fs:List Addr} {a T:Addr} {old:Option Addr} {fl:Value} {h h':Heap} {H:Hp} {φ ψ:Heap->Prop}
theorem zc5 (ok:uK P w H h) (x:Lf fs a old T fl h h') (hf:∀ b∈fs,H b=none) (ho:∀ b,old=some b->H b=none) (ha:H a=some (.ext φ)) (new:xM P w (xP H a (.ext ψ)) h' a (.ext ψ)):uK P w (xP H a (.ext ψ)) h':=fun b o e=>by
 by_cases hb:b=a
 .subst hb;rw[yD] at e;cases e;exact new
 .rw[zE hb] at e
  have kp:∀ c u,(∃ v,H c=some v)->c≠a->h.get? c=some u->h'.get? c=some u:=fun c u hc ne q=>by
   obtain ⟨v,hv⟩:=hc;refine x.keep c u q ne (fun z=>?_) fun z=>?_
   .rw[ho c z] at hv;cases hv
   .rw[hf c z] at hv;cases hv
  refine (ok b o e).stay (fun c u hc q=>?_) (fun c q=>?_) fun c xs q=>?_
  .rcases hc with rfl|hc
   .exact kp c u ⟨_,e⟩ hb q
   .exact kp c u ⟨_,hc⟩ (fun z=>by rw[z,ha] at hc;cases hc) q
  .rw[zE fun z=>by rw[z,ha] at q;cases q];exact q
  .rw[zE fun z=>by rw[z,ha] at q;cases q];exact q
end
section
variable {X:Cx} {pins:List (Addr×Obj)} {σ:L2.St} {H:Hp} {s:Shared} {a T:Addr} {old:Option Addr} {fl:Value} {h':Heap} {φ ψ:Heap->Prop}
theorem zcb (I:Inv X pins σ H s) (x:Lf (pW X.stack) a old T fl s.heap h') (ha:H a=some (.ext φ)) (hat:∃ o vs,s.heap.get? a=some o/\o.data=.fields vs) (hold:∀ b,old=some b->X.s₀.heap.objs.size<=b):Un X.fs X.ex X.H₀ (xP H a (.ext ψ)) X.s₀.heap h':=by
 have no:∀ b o,X.s₀.heap.get? b=some o->old≠some b:=fun b o e z=>absurd (Ze (Zd e) (hold b z)) (Zai _);have nL:∀ b o,X.s₀.heap.get? b=some o->b≠X.env.locals:=fun b o e=>Zj (Ze (Zd e) I.ok.above);have na:∀ b,H b=none->b≠a:=fun b n z=>by rw[z,ha] at n;cases n
 refine ⟨fun b o e n hb hx=>?_,fun b o e n hb hx=>?_,fun b o e n hx=>?_,fun b o e hx=>?_,fun b xs e=>?_,fun b o u e=>?_,fun b ps e=>?_⟩
 .refine x.keep b o (I.base.keep b o e n hb hx) (na b (I.base.free b o e n hx)) (no b o e) fun z=>?_;rcases Zp.mp (I.stkSub b z) with z|z
  .exact nL b o e z
  .exact hb z
 .obtain ⟨sl,e1⟩:=I.base.slot b o e n hb hx;obtain ⟨sl',e2⟩:=x.slot b _ e1 (na b (I.base.free b o e n hx)) (no b o e);exact ⟨sl',e2⟩
 .rw[zE (na b (I.base.free b o e n hx))];exact I.base.free b o e n hx
 .obtain ⟨o',e1⟩:=I.base.there b o e hx
  by_cases hb:b=a
  .subst hb;obtain ⟨oa,vs,e3,d3⟩:=hat;obtain ⟨vs',r,_⟩:=x.it oa vs e3 d3;exact ⟨_,r⟩
  .obtain ⟨sl,r⟩:=x.slot b o' e1 hb (no b o e);exact ⟨_,r⟩
 .have e1:=I.base.tups b xs e;rw[zE fun z=>by rw[z,ha] at e1;cases e1];exact e1
 .have e1:=I.base.frzs b o u e;rw[zE fun z=>by rw[z,ha] at e1;cases e1];exact e1
 .obtain ⟨m,e1⟩:=I.base.tbls b ps e;exact ⟨m,by rw[zE fun z=>by rw[z,ha] at e1;cases e1];exact e1⟩
theorem zaF {C:Addr} {dx:Option Addr} {E:L2.XK} (I:Inv X pins σ H s) (x:Lf (pW X.stack) a old T .none s.heap h') (ha:H a=some (.ext φ)) (hat:∃ fs,s.heap.get? a=some { cls:=.ref C,dict:=dx,data:=.fields fs }) (hold:∀ b,old=some b->X.s₀.heap.objs.size<=b/\H b=none) (hex:X.ex=[]) (hE:E (.ref a) none (xP H a (.ext (dL a C dx)))) :
  CXr X.prog X.w X.outer X.H₀ X.s₀ E (.ref a) { s with heap:=h' }:=by
 obtain ⟨fs,at_⟩:=hat;obtain ⟨vs',e1,_⟩:=x.it _ fs at_ rfl;have hT:H T=none:=I.hok.fresh x.new;have nT:T≠a:=fun z=>by rw[z,ha] at hT;cases hT
 refine ⟨a,C,dx,T,_,rfl,I.os,I.tk,I.bare,by have:=zcb (ψ:=dL a C dx) I x ha ⟨_,fs,at_,rfl⟩ (fun b z=>(hold b z).1);rw[hex] at this;exact this,zc5 I.hok x I.stkFree (fun b z=>(hold b z).2) ha (zdu e1),yD,x.trc ⟨_,fs,at_,rfl⟩,Zn I.sz x.new,by rw[zE nT];exact hT,hE⟩
theorem zaV {E:L2.XK} {e:Value} {s':Shared} (I:Inv X pins σ H s) (h:CXr X.prog X.w X.stack H s E e s'):∃ (a C:Addr) (dx:Option Addr) (T:Addr) (H':Hp),e=.ref a/\Inv X pins σ H' s'/\H' a=some (.ext (dL a C dx))/\Trc s'.heap a T/\s.heap.objs.size<=T/\H' T=none/\E (.ref a) none H':=by
 obtain ⟨a,C,dx,T,H',rfl,os,tk,bare,un,hok,ha,tr,hT,nT,hE⟩:=h;obtain ⟨hh,g,d,t,os'⟩:=s';obtain rfl:os'=s.os:=os;exact ⟨a,C,dx,T,H',rfl,I.call (h':=hh) (g':=g) (d':=d) (t':=t) (ch:=[]) un hok bare (fun b z=>absurd z (by simp)) tk,ha,tr,hT,nT,hE⟩
end
section
variable {X:Cx} {pins:List (Addr×Obj)} {σ:L2.St} {H:Hp} {s:Shared}
structure Nwr (X:Cx) (pins:List (Addr×Obj)) (T:Addr):Prop where
 loc:T≠X.env.locals
 s0:X.s₀.heap.objs.size<=T
 cell:∀ x c,X.env.cells.lookup x=some c->c≠T
 pin:∀ p∈X.pn++pins,p.1≠T
theorem Inv.newer {T:Addr} (I:Inv X pins σ H s) (h:s.heap.objs.size<=T):Nwr X pins T:=by
 have lt:∀ {b:Addr} {o:Obj},s.heap.get? b=some o->b≠T:=fun e=>Zj (Ze (Zd e) h);obtain ⟨m,⟨o,_,_,ho,_⟩,_⟩:=I.loc;refine ⟨(lt ho).symm,Zn I.sz h,fun x c e=>?_,fun p hp=>lt (I.pin p hp).1⟩;obtain ⟨v,oc,hoc,_⟩:=I.cell x c e;exact lt hoc
theorem cx_of {a C T:Addr} {dx:Option Addr} {E:L2.XK} (I:Inv X pins σ H s) (hex:X.ex=[]) (ha:H a=some (.ext (dL a C dx))) (t:Trc s.heap a T) (h0:X.s₀.heap.objs.size<=T) (nT:H T=none) (hE:E (.ref a) none H):CXr X.prog X.w X.outer X.H₀ X.s₀ E (.ref a) s :=
 ⟨a,C,dx,T,H,rfl,I.os,I.tk,I.bare,by have:=I.base;rw[hex] at this;exact this,I.hok,ha,t,h0,nT,hE⟩
end
structure XpOk (X:Cx) (Ew:L2.St->L2.XK):Prop where
 pass:∀ pins σ H s e s',Inv X pins σ H s->CXr X.prog X.w X.stack H s (Ew σ) e s'->X.xe e s'
structure XeOk (X:Cx) (Ew:L2.St->L2.XK):Prop extends XpOk X Ew where
 raise:∀ pins σ H s a C dx,Inv X pins σ H s->H a=some (.ext (ExN a C dx))->Ew σ (.ref a) none (xP H a (.ext (dL a C dx)))->X.xe (.ref a) s
 note:∀ pins σ H s a C dx T,Inv X pins σ H s->H a=some (.ext (dL a C dx))->TrcA s.heap a T->H T=none->Nwr X pins T->Ew σ (.ref a) none H->X.xe (.ref a) s
 own:PassesOwn 'a' X.A X.env X.xe
theorem mV {H:Hp} {a:Addr} {o:HO} (h:H a=some o):xP H a o=H:=by
 funext b
 by_cases hb:b=a
 .rw[hb,yD,h]
 .rw[zE hb]
theorem ziq {P:Program} {w:World} {K:yS} {mg:Str->Option Value} {base:Heap} {N:List Str} {qual:Str} {scope:Scope} {f:Addr} {cd:Value} {A:Around} {outer:List Env} {s:Shared} {H:Hp} {E:L2.XK}:XeOk (fP (CXr P w) P w K mg base N qual scope f cd A outer s H E) (fun _=>E) where
 raise:=fun pins σ H1 s1 a C dx I ha hE=>by
  obtain ⟨⟨fs,at_,v0,v2,v3,v4,v5,rfl⟩,_⟩:=I.hok a _ ha;refine zc6 (base:=base) (outer:=outer) I.ok.frames I.stack rfl at_ rfl rfl fun h' T x=>?_;exact zaF (X:=fP (CXr P w) P w K mg base N qual scope f cd A outer s H E) I x ha ⟨_,at_⟩ (fun b z=>by cases z) rfl hE
 pass:=fun pins σ H1 s1 e s2 I h=>by
  obtain ⟨a,C,dx,T,H2,rfl,I2,ha,tr,hT,nT,hE⟩:=zaV (X:=fP (CXr P w) P w K mg base N qual scope f cd A outer s H E) I h;obtain ⟨⟨fs,at_⟩,_⟩:=I2.hok a _ ha;refine ze3 (base:=base) (outer:=outer) I2.ok.frames I2.stack rfl tr fun h' T' x=>?_;refine zaF (X:=fP (CXr P w) P w K mg base N qual scope f cd A outer s H E) I2 x ha ⟨_,at_⟩ (fun b z=>?_) rfl ?_
  .cases z;exact ⟨Zn I.sz hT,nT⟩
  .rw[mV ha];exact hE
 note:=fun pins σ H1 s1 a C dx T I ha tr nT nw hE=>by
  refine Za (gW (base:=base) (outer:=outer) I.ok.frames I.stack rfl tr (fun _=>?_) fun h' T' x=>?_)
  .refine zaL (fr:=none) tr fun h' _ sb t2=>?_;have I2:=I.turned (it:=T) (h':=h') (t':=s1.toks) (fun b o n e=>(sb.2 b n).trans e) nT nw.loc (.inr nw.s0) nw.cell nw.pin;exact cx_of (X:=fP (CXr P w) P w K mg base N qual scope f cd A outer s H E) I2 rfl ha (t2 rfl) nw.s0 nT hE
  .obtain ⟨⟨fs,at_⟩,_⟩:=I.hok a _ ha;refine uE (s:={ s1 with heap:=h' }) x ⟨_,fs,at_,rfl⟩ fun h2 x2=>?_;refine zaF (X:=fP (CXr P w) P w K mg base N qual scope f cd A outer s H E) (s:=s1) (h':=h2) I x2 ha ⟨_,at_⟩ (fun b z=>?_) rfl ?_
   .cases z;exact ⟨nw.s0,nT⟩
   .rw[mV ha];exact hE
 own:=PassesOwn.leaving
section
variable {M:Model} {A:Around} {E:Value->Shared->Prop} {env:Env} {s:Shared}
structure Rsd (s:Shared) (a:Addr):Prop where
 ex:∃ (C:Addr) (dx:Option Addr) (fs:Array Value) (nm qn:Str) (N:Addr) (bs up:List Value) (hd:Bool) (sn:List Str) (sub:List Value) (ab:Bool) (col:Option Bool) (dd:Option Addr) (k0 k1 k2 k3 k5:Option Value),
  s.heap.get? C=some (excClassObj nm qn C N bs up hd sn sub ab col dd k0 k1 k2 k3 k5 "ValueError.__new__")/\(Value.ref C::up).contains (.type "BaseException")=true/\s.heap.get? a=some { cls:=.ref C,dict:=dx,data:=.fields fs }/\Nw fs
theorem zcK {x:Sem Value} {Q:Flow->Shared->Prop} (hh:A.handled=none) (h:wpAny M A x (fun v s1=>∃ a,v=.ref a/\Rsd s1 a/\E (.ref a) s1) E s):wpAny M A (raiseStmt env (some x) none) Q E s:=by
 unfold raiseStmt;refine Za (Z2 h (fun v s1 h1=>?_) fun _ _ z=>z);obtain ⟨a,rfl,⟨C,dx,fs,nm,qn,N,bs,up,hd,sn,sub,ab,col,dd,k0,k1,k2,k3,k5,hC,isX,he,v0,v2,v3,v4,v5,rfl⟩,hE⟩:=h1;obtain ⟨hp,g,d,tk,os⟩:=s1
 repeat (first|with_reducible refine Z1 he ?_|with_reducible refine Z1 hC ?_|(with_reducible refine Zah hC ?_;rw[isX])|wp_step)
 exact wpAny_raiseNew_none hh hE
end
theorem zeH {X:Cx} {Ew:L2.St->L2.XK} {e:Expr} {pos:Pos} {te:TE} (xo:XeOk X Ew) (hc:X.calm=true) (he:PE X e te) :
  PS X (.Raise (some e) none pos) (fun _ σ H=>te σ H fun v H2=>∃ (a C:Addr) (dx:Option Addr) (ini:Value),v=.ref a/\H2 a=some (.ext (ExN a C dx))/\XM X.K C ini/\Ew σ (.ref a) none (xP H2 a (.ext (dL a C dx)))):=by
 intro pins s σ H D I h
 have key:wpAny 'a' X.A (eval e X.env) (fun v s1=>∃ a,v=.ref a/\Rsd s1 a/\X.xe (.ref a) s1) X.xe s:=xQ (he pins s σ H _ I h) fun u s1 z=>by
  obtain ⟨v,H1,I1,rv,a,C,dx,ini,rfl,ha,T,hE⟩:=z;obtain ⟨nm,qn,N,bs,up,hd,sn,sub,abb,col,dd,k0,k1,k2,k3,k5,lC,isB,noA,sQ,isX⟩:=T.cls;obtain ⟨⟨fs,at_,nw⟩,_⟩:=I1.hok a _ ha;exact ⟨a,rv,⟨C,dx,fs,nm,qn,N,bs,up,hd,sn,sub,abb,col,dd,k0,k1,k2,k3,k5,I1.kIn _ _ lC,isX,at_,nw⟩,xo.raise pins σ H1 s1 a C dx I1 ha hE⟩
 have hh:=I.ok.hd hc;rw[arm_exec_Raise];refine Za (ZbE (zcK hh ?_));exact Za (Z2 key (fun v s1 h1=>Za (ZbE (Zc h1))) fun _ _ z=>z)
def bG (K:yS) (C Ct:Addr):Prop:=∃ (nm qn:Str) (N:Addr) (bs up:List Value) (hd:Bool) (sn:List Str) (sub:List Value) (ab:Bool) (col:Option Bool) (dd:Option Addr) (k0 k1 k2 k3 k5:Option Value),
 K.lookup C=some (excClassObj nm qn C N bs up hd sn sub ab col dd k0 k1 k2 k3 k5 "ValueError.__new__")/\(Value.ref C::up).contains (.ref Ct)=true
section
variable {X:Cx} {pins:List (Addr×Obj)} {σ:L2.St} {H:Hp} {s:Shared}
theorem zhJ {M:Model} {A:Around} {E:Value->Shared->Prop} {i:Nat} {n:Str} {pos:Pos} {Q:Unit->Shared->Prop} (I:Inv X pins σ H s) (hN:X.N.Nodup) (hi:X.N[i]?=some n) (hk:X.env.scope.names.lookup n=some .local) (q:∀ s',Inv X pins (σ.set i none) H s'->Q () s') :
  wpAny M A (do bindName X.env n .none;unbindBehindTheSuite X.env n pos) Q E s:=by
 obtain ⟨m,hn,hl⟩:=id I.loc;have hc:(X.env.scope.kind==.class || (X.env.scope.kind==.module&&X.env.locals != X.env.globals))=false:=by rw[I.ok.kind];rfl
 refine wpAny_nameGoes_keeps hk hn hc fun h' v hn' hs=>q _ ?_;have low:∀ {b:Addr} {o:Obj},X.s₀.heap.get? b=some o->h'.get? b=s.heap.get? b:=fun e=>hs.2 _ (Zj (Ze (Zd e) I.ok.above));have li:i<σ.length:=by rw[I.len];exact (Zi.mp hi).1
 have cl:∀ y c,X.env.cells.lookup y=some c->∀ w,s.heap.IsCell c w->h'.IsCell c w:=fun y c e w z=>z.sameBut hs (I.cne y c e);refine ⟨I.ok,I.os,I.bare,?_,⟨_,hn',?_⟩,?_,I.free,I.freeC,?_,?_,by simpa using I.len,ZI _⟩
 .refine ⟨?_,?_,I.base.free,?_,I.base.tups,I.base.frzs,I.base.tbls⟩
  .intro b o e f n1 n2;rw[low e];exact I.base.keep b o e f n1 n2
  .intro b o e f n1 n2;rw[low e];exact I.base.slot b o e f n1 n2
  .intro b o e n2;rw[low e];exact I.base.there b o e n2
 .intro j y w e1 e2 e3
  have ne:j≠i:=fun z=>by
   rw[z,Zat li] at e2;cases e2
  rw[Zao (Ne.symm ne)] at e2;obtain ⟨u,r,k⟩:=hl j y w e1 e2 e3;refine ⟨u,r,?_⟩;rcases k with ⟨k1,k2⟩|⟨k1,c,k2,k3⟩
  .have yn:y≠n:=fun z=>ne (gR hN e1 (z▸hi));exact .inl ⟨k1,by simp[yn,k2]⟩
  .exact .inr ⟨k1,c,k2,cl y c k2 _ k3⟩
 .intro y c e;obtain ⟨w,z⟩:=I.cell y c e;exact ⟨w,cl y c e w z⟩
 .intro p hp;obtain ⟨p1,p2,p3,p4,p5⟩:=I.pin p hp;exact ⟨by rw[hs.2 p.1 p3];exact p1,p2,p3,p4,p5⟩
 .intro b ob e;refine (I.hok b ob e).stay (fun c u hc r=>?_) (fun _ z=>z) fun _ _ z=>z;rw[hs.2 c fun z=>?_]
  .exact r
  .rcases hc with hc|hc
   .rw[← hc,z,I.free] at e;cases e
   .rw[z,I.free] at hc;cases hc
theorem zhN {M:Model} {A:Around} {E:Value->Shared->Prop} {a T:Addr} {Q:Unit->Shared->Prop} (I:Inv X pins σ H s) (t:Trc s.heap a T) (nT:H T=none) (nw:Nwr X pins T) (q:∀ s',Inv X pins σ H s'->Q () s'):wpAny M A (setFlight (.ref a) none) Q E s:=by
 obtain ⟨o,vs,he,hd,h1⟩:=t.it;obtain ⟨oT,ts,eT,dT,h3⟩:=t.tb;unfold setFlight;refine Za (ZF he hd h1 ?_);rw[if_pos (show (Value.ref T != Value.none)=true by simp)];refine ZaD eT dT (ZX.mp h3).1 (q _ ?_);exact I.turned (it:=T) (t':=s.toks) (fun b o n e=>(Zq _ _ (Ne.symm n)).trans e) nT nw.loc (.inr nw.s0) nw.cell nw.pin
end
section
variable {M:Model} {A:Around} {E:Value->Shared->Prop} {s:Shared}
theorem zc1 {K:yS} {a C Ct:Addr} {ini:Value} {oe:Obj} {Q:Bool->Shared->Prop} (hK:K.In s.heap) (sb:bG K C Ct) (T:XM K Ct ini) (he:s.heap.get? a=some oe) (hc:oe.cls=.ref C) (q:Q true s):wpAny M A (excMatches (.ref a) (.ref Ct)) Q E s:=by
 obtain ⟨nm,qn,N,bs,up,hd,sn,sub,ab,col,dd,k0,k1,k2,k3,k5,lC,hin⟩:=sb;obtain ⟨nm',qn',N',bs',up',hd',sn',sub',ab',col',dd',k0',k1',k2',k3',k5',lT,_,_,_,isX⟩:=T.cls;have hC:=hK _ _ lC;have hT:=hK _ _ lT;have f:=tc_notTuple;obtain ⟨hp,g,d,tk,os⟩:=s;unfold excMatches
 repeat (first|(with_reducible refine Z1 he ?_;rw[hc])|with_reducible refine Z1 hT ?_|(with_reducible refine Zah hT ?_;rw[isX])|(with_reducible refine Zah hC ?_;rw[hin])|wp_step)
 exact q
end
def wTry (K:yS) (Ct:Addr) (i j:Nat) (D:Ends):L2.St->L2.XK:=fun σ e _ H=>∃ (a C:Addr) (dx:Option Addr),e=.ref a/\H a=some (.ext (dL a C dx))/\bG K C Ct/\D.nx (((σ.set i (some (.ref a))).set j (some (.ref a))).set i none) H
section
variable {X:Cx} {Ct:Addr} {ini:Value} {n y tn:Str} {i j:Nat} {tp np yp ap hp pos:Pos}
theorem Inv.held {X':Cx} {pins pins':List (Addr×Obj)} {σ:L2.St} {H:Hp} {s:Shared} (I:Inv X pins σ H s) (ok:X'.Ok) (e:X'={ X with A:=X'.A,calm:=X'.calm,pn:=X'.pn,xe:=X'.xe }) (hp:∀ p∈X'.pn++pins',p∈X.pn++pins):Inv X' pins' σ H s:=by
 obtain ⟨a1,a2,a3,a4,a5,a6,a7,a8,a9,a10,a11,a12,a13,a14,a15,a16,a17⟩:=X'
 injection e
 subst_vars
 exact ⟨ok,I.os,I.bare,I.base,I.loc,I.cell,I.free,I.freeC,fun p h=>I.pin p (hp p h),I.hok,I.len,I.tk⟩
theorem bW {pins:List (Addr×Obj)} {σ:L2.St} {H:Hp} {s:Shared} {D:Ends} {a C T:Addr} {dx:Option Addr} (hN:X.N.Nodup) (hi:X.N[i]?=some n) (hj:X.N[j]?=some y) (ln:X.env.scope.names.lookup n=some .local) (ly:X.env.scope.names.lookup y=some .local) (nd:(n==("__debug__" : Str))=false) (nc:(n==("__classdict__" : Str))=false)
  (gT:Gl X tn) (mT:X.mg tn=some (.ref Ct)) (dT:(tn==("__debug__" : Str))=false) (TT:XM X.K Ct ini) (I:Inv X pins σ H s) (ha:H a=some (.ext (dL a C dx))) (sb:bG X.K C Ct) (t:Trc s.heap a T) (nT:H T=none) (nw:Nwr X pins T)
  (q:D.nx (((σ.set i (some (.ref a))).set j (some (.ref a))).set i none) H) :
  wpAny 'a' X.A (handleBy (.ref a) X.env [.ExceptHandler (some (.Name tn tp)) (some n) [.Assign [.Name y yp] (.Name n np) ap] hp]) (SP X pins D) X.xe s:=by
 refine wpAny_handleBy_cons (codeAny_handlers_test ?_) (by intro z;cases z)
 let XM':Cx:={ X with A:=X.A.mark (some (.ref a)),calm:=false,xe:=fun _ _=>False }
 have okM:XM'.Ok:={ I.ok with hd:=fun z=>by cases z };have IM:Inv XM' pins σ H s:=Inv.held I okM rfl fun p h=>h;refine kZ (X:=XM') IM gT mT ?_ dT;obtain ⟨⟨fs,at_⟩,_⟩:=I.hok a _ ha;refine zc1 I.kIn sb TT at_ rfl ?_;refine codeAny_handlers_suite_as ?_;refine zhN (X:=XM') IM t nT ⟨nw.loc,nw.s0,nw.cell,nw.pin⟩ fun s1 I1=>?_;refine mP (X:=XM') I1 hN hi (.inl ln) (v:=.ref a) rfl (fun s2 I2=>?_) (.inr ln);have hiσ:i<σ.length:=by rw[I.len];exact (Zi.mp hi).1
 have ps:dM XM' [.Assign [.Name y yp] (.Name n np) ap] _:=zg1 (zbb (X:=XM') (i:=j) hN hj (.inl ly) (zf1 (i:=i) hi (.inl ln) nd nc) (kJ rfl) (.inr ly));refine Z2 (ps pins s2 _ H { nx:=fun σ' H'=>σ'=((σ.set i (some (.ref a))).set j (some (.ref a)))/\H'=H,rt:=fun _ _=>False } I2 ?_) (fun f s3 h3=>?_) fun _ _ z=>z.elim
 .exact ⟨.ref a,by rw[Zat hiσ],rfl,rfl⟩
 .cases f with
  |next =>
   obtain ⟨σ',H',I3,rfl,rfl⟩:=h3;have I4:Inv X pins _ _ s3:=Inv.held (X:=XM') I3 I.ok rfl fun p h=>h;exact zhJ I4 hN hi ln fun s4 I5=>⟨_,_,I5,q⟩
  |ret u=>obtain ⟨_,_,_,_,_,z⟩:=h3;exact z.elim
  |brk=>obtain ⟨_,_,_,z⟩:=h3;exact z.elim
  |cont=>obtain ⟨_,_,_,z⟩:=h3;exact z.elim
abbrev tryX (X:Cx) (pins:List (Addr×Obj)) (D:Ends) (hs:List ExceptHandler):Value->Shared->Prop:=fun e s1=>wpAny 'a' X.A (noteFrame e X.env) (fun _ s2=>wpAny 'a' X.A (setFlight e none) (fun _ s3=>wpAny 'a' X.A (handleBy e X.env hs) (SP X pins D) X.xe s3) X.xe s2) X.xe s1
abbrev tryC (X:Cx) (pins:List (Addr×Obj)) (D:Ends) (hs:List ExceptHandler):Cx:={ X with pn:=X.pn++pins,xe:=tryX X pins D hs }
theorem zio {pins:List (Addr×Obj)} {D:Ends} (hk:X.stack=X.env::X.outer/\X.env.frame=some X.env.locals) (hN:X.N.Nodup) (hi:X.N[i]?=some n) (hj:X.N[j]?=some y) (ln:X.env.scope.names.lookup n=some .local) (ly:X.env.scope.names.lookup y=some .local) (nd:(n==("__debug__" : Str))=false) (nc:(n==("__classdict__" : Str))=false)
  (gT:Gl X tn) (mT:X.mg tn=some (.ref Ct)) (dT:(tn==("__debug__" : Str))=false) (TT:XM X.K Ct ini) :
  XeOk (tryC X pins D [.ExceptHandler (some (.Name tn tp)) (some n) [.Assign [.Name y yp] (.Name n np) ap] hp]) (wTry X.K Ct i j D):=by
 have go:∀ {pins':List (Addr×Obj)} {σ:L2.St} {H:Hp} {s:Shared} {a C T:Addr} {dx:Option Addr} {old:Option Addr} {h':Heap} {φ:Heap->Prop},Inv X pins σ H s->H a=some (.ext φ)->(∃ fs,s.heap.get? a=some { cls:=.ref C,dict:=dx,data:=.fields fs })->(∀ b,old=some b->Nwr X pins b/\H b=none)->Lf (pW X.stack) a old T (rawInt X.env.locals) s.heap h'->wTry X.K Ct i j D σ (.ref a) none (xP H a (.ext (dL a C dx))) ->
   wpAny 'a' X.A (setFlight (.ref a) none) (fun _ s3=>wpAny 'a' X.A (handleBy (.ref a) X.env [.ExceptHandler (some (.Name tn tp)) (some n) [.Assign [.Name y yp] (.Name n np) ap] hp]) (SP X pins D) X.xe s3) X.xe { s with heap:=h' }:=by
  intro pins' σ H s a C T dx old h' φ I ha hat hold x hE;obtain ⟨fs,at_⟩:=hat;refine uE (s:={ s with heap:=h' }) x ⟨_,fs,at_,rfl⟩ fun h2 x2=>?_;obtain ⟨vs',e1,_⟩:=x2.it _ fs at_ rfl;have hT:H T=none:=I.hok.fresh x2.new;have nT:T≠a:=fun z=>by rw[z,ha] at hT;cases hT
  have un:Un (pW X.stack) old.toList H (xP H a (.ext (dL a C dx))) s.heap h2:=by
   have na:∀ b,H b=none->b≠a:=fun b n z=>by rw[z,ha] at n;cases n
   have no:∀ b,b∉old.toList->old≠some b:=fun b z e=>z (by rw[e];simp);refine ⟨fun b o e n hb hx=>x2.keep b o e (na b n) (no b hx) hb,fun b o e n hb hx=>x2.slot b o e (na b n) (no b hx),fun b o e n _=>by rw[zE (na b n)];exact n,fun b o e hx=>?_,fun b xs e=>?_,fun b o u e=>?_,fun b ps e=>⟨#[],?_⟩⟩
   .by_cases hb:b=a
    .subst hb;exact ⟨_,e1⟩
    .obtain ⟨sl,r⟩:=x2.slot b o e hb (no b hx);exact ⟨_,r⟩
   .rw[zE fun z=>by rw[z,ha] at e;cases e];exact e
   .rw[zE fun z=>by rw[z,ha] at e;cases e];exact e
   .have nb:b≠a:=fun z=>by rw[z,ha] at e;cases e
    rw[zE nb,e];simp
  have I2:=I.call (h':=h2) (g':=s.gens) (d':=s.drawn) (t':=s.toks) (ch:=old.toList) un (zc5 I.hok x2 I.stkFree (fun b z=>(hold b z).2) ha (zdu e1)) I.bare (fun b z=>by
   have z:old=some b:=by simpa using z
   have w:=(hold b z).1;exact ⟨.inr w.s0,w.loc,w.cell,w.pin⟩)
  obtain ⟨a',C',dx',ea,ha',sb,q⟩:=hE;cases ea;rw[yD] at ha'
  have cc:C'=C/\dx'=dx:=by
   have z:dL a C dx=dL a C' dx':=by injection ha' with ha';injection ha'
   have w:dL a C' dx' h2:=by rw[← z];exact ⟨vs',e1⟩
   obtain ⟨fs',w⟩:=w;rw[e1] at w
   injection w with w
   injection w with w1 w2
   injection w1 with w1
   exact ⟨w1.symm,w2.symm⟩
  obtain ⟨rfl,rfl⟩:=cc;exact bW hN hi hj ln ly nd nc gT mT dT TT I2 yD sb (x2.trc ⟨_,fs,at_,rfl⟩) (by rw[zE nT];exact hT) (Inv.newer I x2.new) q
 refine ⟨⟨fun pins' σ H s e s' I h=>?_⟩,fun pins' σ H s a C dx I ha hE=>?_,fun pins' σ H s a C dx T I ha tr nT nw hE=>?_,PassesOwn.looking⟩
 .obtain ⟨a,C,dx,T,H2,rfl,I2,ha,tr,hT,nT,hE⟩:=zaV (X:=tryC X pins D _) I h;have I0:Inv X pins σ H s:=Inv.held (X:=tryC X pins D _) I { I.ok with } rfl fun p hp=>ZT _ hp;have I3:Inv X pins σ H2 s':=Inv.held (X:=tryC X pins D _) I2 { I.ok with } rfl fun p hp=>ZT _ hp;obtain ⟨⟨fs,at_⟩,_⟩:=I2.hok a _ ha;have fr:=I3.ok.frames;have st:=I3.stack;rw[hk.1] at fr st;refine zaA (base:=X.base) (outer:=X.outer) fr st hk.2 tr fun h' T' x=>?_;rw[← hk.1] at x;refine go (pins':=pins') I3 ha ⟨_,at_⟩ (fun b z=>?_) x (by rw[mV ha];exact hE);cases z;exact ⟨Inv.newer I0 hT,nT⟩
 .have I0:Inv X pins σ H s:=Inv.held (X:=tryC X pins D _) I { I.ok with } rfl fun p hp=>ZT _ hp;obtain ⟨⟨fs,at_,v0,v2,v3,v4,v5,rfl⟩,_⟩:=I.hok a _ ha;have fr:=I0.ok.frames;have st:=I0.stack;rw[hk.1] at fr st;refine zcU (base:=X.base) (outer:=X.outer) fr st hk.2 at_ rfl rfl fun h' T x=>?_;rw[← hk.1] at x;exact go (pins':=pins') I0 ha ⟨_,at_⟩ (fun b z=>by cases z) x hE
 .have I0:Inv X pins σ H s:=Inv.held (X:=tryC X pins D _) I { I.ok with } rfl fun p hp=>ZT _ hp;have nw0:Nwr X pins T:=⟨nw.loc,nw.s0,nw.cell,fun p hp=>nw.pin p (ZT _ hp)⟩;obtain ⟨⟨fs,at_⟩,_⟩:=I0.hok a _ ha;have fr:=I0.ok.frames;have st:=I0.stack;rw[hk.1] at fr st;refine gW (base:=X.base) (outer:=X.outer) fr st hk.2 tr (fun _=>?_) fun h' T' x=>?_
  .refine zaL (fr:=none) tr fun h' _ sb t2=>?_;have I2:=I0.turned (it:=T) (h':=h') (t':=s.toks) (fun b o n e=>(sb.2 b n).trans e) nT nw0.loc (.inr nw0.s0) nw0.cell nw0.pin;obtain ⟨a',C',dx',ea,ha',sb',q⟩:=hE;cases ea;exact bW hN hi hj ln ly nd nc gT mT dT TT I2 ha' sb' (t2 rfl) nT nw0 q
  .rw[← hk.1] at x;refine go (pins':=pins') I0 ha ⟨_,at_⟩ (fun b z=>?_) x (by rw[mV ha];exact hE);cases z;exact ⟨nw0,nT⟩
theorem zje {bs:List Stmt} {tb:(L2.St->L2.XK)->TS} (hk:X.stack=X.env::X.outer/\X.env.frame=some X.env.locals) (hN:X.N.Nodup) (hi:X.N[i]?=some n) (hj:X.N[j]?=some y) (ln:X.env.scope.names.lookup n=some .local) (ly:X.env.scope.names.lookup y=some .local) (nd:(n==("__debug__" : Str))=false) (nc:(n==("__classdict__" : Str))=false)
  (gT:Gl X tn) (mT:X.mg tn=some (.ref Ct)) (dT:(tn==("__debug__" : Str))=false) (TT:XM X.K Ct ini) (hb:∀ (pn:List (Addr×Obj)) (E':Value->Shared->Prop) (Ew:L2.St->L2.XK),XeOk { X with pn:=pn,xe:=E' } Ew->dM { X with pn:=pn,xe:=E' } bs (tb Ew)) :
  PS X (.Try bs [.ExceptHandler (some (.Name tn tp)) (some n) [.Assign [.Name y yp] (.Name n np) ap] hp] [] [] pos) (fun D σ H=>tb (wTry X.K Ct i j D) D σ H):=by
 intro pins s σ H D I h;have xo:=zio (tp:=tp) (np:=np) (yp:=yp) (ap:=ap) (hp:=hp) (pins:=pins) (D:=D) hk hN hi hj ln ly nd nc gT mT dT TT;have I0:Inv (tryC X pins D [.ExceptHandler (some (.Name tn tp)) (some n) [.Assign [.Name y yp] (.Name n np) ap] hp]) [] σ H s:=Inv.held I { I.ok with } rfl fun p hp=>by simpa using hp
 refine wpAny_Try_except (Z2 (hb _ _ _ xo [] s σ H D I0 h) (fun f s1 h1=>?_) fun e s1 h1=>h1);have back:∀ {σ':L2.St} {H':Hp},Inv (tryC X pins D [.ExceptHandler (some (.Name tn tp)) (some n) [.Assign [.Name y yp] (.Name n np) ap] hp]) [] σ' H' s1->Inv X pins σ' H' s1:=fun J=>Inv.held J { J.ok with } rfl fun p hp=>by simpa using hp
 cases f with
 |next =>
  obtain ⟨σ',H',J,z⟩:=h1;exact Zc ⟨σ',H',back J,z⟩
 |ret u =>
  obtain ⟨v,σ',H',J,z⟩:=h1;exact ⟨v,σ',H',back J,z⟩
 |brk =>
  obtain ⟨σ',H',J,z⟩:=h1;exact ⟨σ',H',back J,z⟩
 |cont =>
  obtain ⟨σ',H',J,z⟩:=h1;exact ⟨σ',H',back J,z⟩
end
section
variable {X:Cx} {pins:List (Addr×Obj)} {σ:L2.St} {H2:Hp} {s2:Shared} {sc:Scope} {N:List Str} {C:Addr} {fp:List Addr} {Ew:L2.St->L2.XK}
theorem zd4 {Q:Value->Shared->Prop} {acc:Value} (hk:X.stack=X.env::X.outer/\X.env.frame=some X.env.locals) (xo:XeOk X Ew) (I2:Inv X pins σ H2 s2) (f2:∀ b∈fp,uJ X pins H2 b) (hC:s2.heap.objs.size<=C) :
  XpOk (qQ X N sc C s2 H2 fp pins (notedBy 'a' X.A (compEnvC sc (ocl X sc C) C X.env) fun e s'=>compPost 'a' X.A X.xe none Q acc C (.error e) s')) (fun _=>Ew σ):=by
 refine ⟨fun pins' σ' H s e s' I h=>?_⟩;obtain ⟨a,Ca,dx,T0,H9,rfl,I9,ha,tr,hT,nT0,hE⟩:=zaV I h;have fr:=I2.ok.frames;have st:s'.heap.FunFrames X.base X.stack:=I9.stack
 have hsub:∀ b∈pW X.stack,b<s2.heap.objs.size:=fun b hb=>by
  obtain ⟨_,o,e,_⟩:=I2.stack.mem hb;exact Zd e
 have ltC:C<s.heap.objs.size:=I.lt;have ltC9:C<s'.heap.objs.size:=I9.lt;have nC:H9 C=none:=I9.free;have sz2:s2.heap.objs.size<=s.heap.objs.size:=I.sz;have aC:a≠C:=fun z=>by rw[z,nC] at ha;cases ha
 have T0C:T0≠C:=Z8 (Ze ltC hT);obtain ⟨⟨fs,at_⟩,_⟩:=I9.hok a _ ha;rw[hk.1] at fr st;show wpAny 'a' X.A (noteFrame (.ref a) X.env) _ _ s';refine zaA (base:=X.base) (outer:=X.outer) fr st hk.2 tr fun h' T x=>?_;rw[← hk.1] at x;obtain ⟨vs',e1,e2⟩:=x.it _ fs at_ rfl;have un:=zcb (ψ:=dL a Ca dx) I9 x ha ⟨_,fs,at_,rfl⟩ (fun b z=>by cases z;exact Zn sz2 hT);have hok:=zc5 I9.hok x I9.stkFree (fun b z=>by cases z;exact nT0) ha (zdu e1);rw[mV ha] at un hok;have nT:H9 T=none:=I9.hok.fresh x.new;have TC:T≠C:=Z8 (Ze ltC9 x.new);have sT:s2.heap.objs.size<=T:=Zn (Zn hC (ZaO ltC9)) x.new
 have tA:TrcA h' a T:=by
  obtain ⟨oT,ts,eT,dT,h3⟩:=x.tb;exact ⟨⟨_,vs',e1,rfl,e2⟩,Z8 (Ze (Zd at_) x.new),oT,ts,eT,dT,(ZX.mp h3).1⟩
 obtain ⟨m,⟨oL,es,ep,hL,rL⟩,_⟩:=I9.loc;refine ⟨m,⟨oL,es,ep,x.keep C oL hL (Ne.symm aC) (fun z=>T0C (Zx z)) (fun z=>absurd (hsub C z) (Nat.not_lt.mpr hC)),rL⟩,fun h2 sb cenv ec=>?_⟩
 have tA2:TrcA h2 a T:=by
  obtain ⟨oT,ts,eT,dT,z3⟩:=tA.tb;exact ⟨⟨_,vs',(sb.2 a aC).trans e1,rfl,e2⟩,tA.ne,oT,ts,(sb.2 T TC).trans eT,dT,z3⟩
 unfold PySem.passOn;refine Za (ZF (s:={ s' with heap:=h2 }) ((sb.2 a aC).trans e1) rfl e2 ?_);rw[if_neg (by simp)];refine Za (zaL (s:={ s' with heap:=h2 }) tA2 fun h3 tA3 sb3 _=>wpAny_throw ?_);have k3:∀ b o,b≠C->b≠T->h'.get? b=some o->h3.get? b=some o:=fun b o n1 n2 e=>(sb3.2 b n2).trans ((sb.2 b n1).trans e);have low:∀ b o,s2.heap.get? b=some o->b≠C/\b≠T:=fun b o e=>⟨Zj (Ze (Zd e) hC),Zj (Ze (Zd e) sT)⟩
 have I3:Inv X pins σ H9 { s' with heap:=h3 }:=by
  refine I2.call' (ch:=fp) I9.os ⟨fun b o e n hb hx=>?_,fun b o e n hb hx=>?_,un.free,fun b o e hx=>?_,un.tups,un.frzs,un.tbls⟩ (fun b u e=>?_) I9.bare (fun b hb=>?_) I9.tk
  .exact k3 b _ (low b o e).1 (low b o e).2 (un.keep b o e n hb hx)
  .obtain ⟨sl,r⟩:=un.slot b o e n hb hx;exact ⟨sl,k3 b _ (low b o e).1 (low b o e).2 r⟩
  .obtain ⟨o',r⟩:=un.there b o e hx;exact ⟨o',k3 b _ (low b o e).1 (low b o e).2 r⟩
  .have nn:∀ c v,H9 c=some v->c≠C/\c≠T:=fun c v q=>⟨fun z=>(by rw[z,nC] at q;cases q),fun z=>(by rw[z,nT] at q;cases q)⟩;refine (hok b u e).stay (fun c v hc q=>?_) (fun _ q=>q) fun _ _ q=>q
   have:c≠C/\c≠T:=by
    rcases hc with rfl|hc
    .exact nn _ _ e
    .exact nn _ _ hc
   exact k3 c v this.1 this.2 q
  .obtain ⟨q1,q2,q3,q4,q5,q6⟩:=f2 b hb;exact ⟨q4,q2,q5,q6⟩
 exact xo.note pins σ H9 _ a Ca dx T I3 ha tA3 nT (Inv.newer I2 sT) hE
theorem zjU {H:Hp} {s:Shared} {tg iter elt:Expr} {ifs:List Expr} {pos:Pos} {wi:TI} {g:TG} {tc:TT} {te:TE} {cap:L2.St->L2.St} {Q:VK} (hk:X.stack=X.env::X.outer/\X.env.frame=some X.env.locals) (xo:XeOk X Ew) (hc:X.calm=true) (hi:PI X tg iter wi) (B:BlkSc X sc) (hcap:Caps X sc N cap)
  (hg:∀ X',IsBlock X N sc X'->PG X' tg g) (ht:∀ X',IsBlock X N sc X'->PTs X' ifs tc) (he:∀ X',IsBlock X N sc X'.nox->XpOk X' (fun _=>Ew σ)->PE X' elt te) (hs:∀ x,foldedSetIterable iter X.env x=pure x) (I:Inv X pins σ H s)
  (h:wi σ H fun J H1=>tLCb J (cap σ) g tc te (fun acc H'=>∀ p,H' p=none->Q (.ref p) (xP H' p (.lst acc))) H1) :
  wpAny 'a' X.A (eval (.ListComp elt [⟨tg,iter,ifs,0⟩] sc pos) X.env) (EP X pins σ Q) X.xe s:=by
 rw[eval_ListComp];refine Zbg (use:=none) rfl hs (sU fun x hx=>I.ok.has x (B.free x hx)) B.kind B.names (xQ (hi pins s σ H _ I h) fun v s1 h1=>xQ h1 fun itv s2 h2=>?_);obtain ⟨it,fp,tn,J,H2,e,I2,T,st2,f2,q⟩:=h2;subst e;obtain ⟨cl,cc⟩:=hcap σ I.len;refine zaG (RR:=fun acc C=>compPost 'a' X.A X.xe none (EP X pins σ Q) acc C) hc I2 T st2 f2 B cl cc hg ht (PX:=fun X'=>XpOk X' (fun _=>Ew σ)) (fun D C hC=>zd4 hk xo I2 f2 hC) he q fun D C acc H' s' m hDC hD hC off I' hn qf=>?_;refine ⟨m,hn,fun h' hk=>⟨.ref D,_,off.turned I' (by rw[zE hDC.symm];exact hC) hk,rfl,qf D hD⟩⟩
end
abbrev X3:=W->Hw->Prop
abbrev SpX:=List W->Hw->Q3->X3->Prop
structure Fx3 where
 nm:Str
 sp:SpX
structure Cl3 where
 nm:Str
 C:Addr
 f:Option Str
structure Tr3 where
 nm:Str
 C:Addr
 sub:List Addr
structure CtxX where
 fx:List Fx3
 cl:List Cl3
 tr:List Tr3
set_option genInjectivity false
mutual
inductive RT where
 |pl (s:IS)|rse (c:Nat) (es:IEs)|ite (c:IE) (a b:RTs)|whl (c:IE) (b:RTs)|for (tg:ITg) (it:II) (b:RTs)
 |asx (i f:Nat) (es:IEs)|exx (f:Nat) (es:IEs)|rtx (f:Nat) (es:IEs)|try (i j t:Nat) (b:RTs)|rtl (f:Nat) (tg:ITg) (names:List Str) (caps:List Nat) (it:II) (k:Nat) (es:IEs)
 |rt2 (a:IE) (f:Nat) (tg:ITg) (names:List Str) (caps:List Nat) (it:II) (k:Nat) (es:IEs)
inductive RTs where
 |nil|cons (s:RT) (ss:RTs)
end
def clR (k:Cl3) (ws:List W) (Q:W->Prop):Prop:=match k.f with
 |none=>ws=[]/\Q (.exc k.C [] [])
 |some f=>∃ w,ws=[w]/\Q (.exc k.C [f] [w])
def trR (k:Tr3) (i j:Nat) (D:End3) (σ:xE) (w:W) (G:Hw):Prop:=∃ (C:Addr) (ns:List Str) (ws:List W),w=.exc C ns ws/\C∈k.sub/\D.nx (((σ.set i (some w)).set j (some w)).set i none) G
section
variable (Γ:Ctx3) (Δ:CtxX)
def sK (f:Nat) (tg:ITg) (names:List Str) (caps:List Nat) (it:II) (k:Nat) (es:IEs) (E:X3) (σ:xE) (G:Hw) (Q:Q3):Prop :=
 zR Γ XN it σ G fun items stab G1=>lcR items stab G1 (fun w G' K=>zT tg w (qT names.length caps σ) G' fun σ2 G2=>zU Γ XN es σ2 G2 fun ws G3=>match Δ.fx[k]? with|some h=>h.sp ws G3 (fun x G4=>K (some x) G4) E|none=>False)
   fun r G2=>match Δ.fx[f]? with|some h=>h.sp [r] G2 Q E|none=>False
mutual
def jS:RT->(xE->X3)->S3
 | .pl s=>fun _=>zQ Γ XN s
 | .rse c es=>fun E _ σ G=>zU Γ XN es σ G fun ws G1=>match Δ.cl[c]? with|some k=>clR k ws fun w=>E σ w G1|none=>False
 | .ite c a b=>fun E D σ G=>zP Γ XN c σ G fun k G1=>if k=true then xZ a E D σ G1 else xZ b E D σ G1
 | .whl c b=>fun E D σ G=>∃ Pv:Nat->xE->Hw->Prop,(∃ m,Pv m σ G)/\∀ m σ G,Pv m σ G->zP Γ XN c σ G fun k G1 =>
   if k=true then xZ b E { D with nx:=fun σ' G'=>∃ m',m' < m/\Pv m' σ' G',ct:=fun σ' G'=>∃ m',m' < m/\Pv m' σ' G',bk:=D.nx } σ G1 else D.nx σ G1
 | .for tg it b=>fun E D σ G=>zR Γ XN it σ G fun items stab G1=>forR items stab D σ G1 fun w D' σ' G'=>zT tg w σ' G' fun σ2 G2=>xZ b E D' σ2 G2
 | .asx i f es=>fun E D σ G=>zU Γ XN es σ G fun ws G1=>match Δ.fx[f]? with|some h=>h.sp ws G1 (fun w G2=>D.nx (σ.set i (some w)) G2) (E σ)|none=>False
 | .exx f es=>fun E D σ G=>zU Γ XN es σ G fun ws G1=>match Δ.fx[f]? with|some h=>h.sp ws G1 (fun _ G2=>D.nx σ G2) (E σ)|none=>False
 | .rtx f es=>fun E D σ G=>zU Γ XN es σ G fun ws G1=>match Δ.fx[f]? with|some h=>h.sp ws G1 D.rt (E σ)|none=>False
 | .try i j t b=>fun _ D σ G=>match Δ.tr[t]? with|some k=>xZ b (trR k i j D) D σ G|none=>False
 | .rtl f tg names caps it k es=>fun E D σ G=>sK Γ Δ f tg names caps it k es (E σ) σ G D.rt
 | .rt2 a f tg names caps it k es=>fun E D σ G=>zS Γ XN a σ G fun x G1=>sK Γ Δ f tg names caps it k es (E σ) σ G1 fun y G2=>D.rt (.tup [x,y]) G2
def xZ:RTs->(xE->X3)->S3
 | .nil=>fun _ D σ G=>D.nx σ G
 | .cons s ss=>fun E D σ G=>jS s E { D with nx:=xZ ss E D } σ G
end
end
structure MX where
 fx:List Str
 cl:List Str
 tr:List Str
def bO (M:MC) (ns:List Str) (i:Nat) (es:IEs):Expr->Bool
 | .Call (.Name x _) xs [] _=>ns[i]?==some x&&qB M.sc x&&mA es M xs
 |_=>false
def zie (M:MC) (ns:List Str) (i j t:Nat):List ExceptHandler->Bool
 | [.ExceptHandler (some (.Name tn _)) (some n) [.Assign [.Name y _] (.Name n' _) _] _] =>
  n==n'&&M.N[i]?==some n&&M.N[j]?==some y&&M.sc.names.lookup n==some .local&&M.sc.names.lookup y==some .local&&!(n==("__debug__" : Str))&&!(n==("__classdict__" : Str))&&ns[t]?==some tn&&qB M.sc tn
 |_=>false
def lcM (M:MC) (names:List Str) (caps:List Nat) (sc:Scope):MC:={ M with sc:=relS sc M.sc,N:=names++caps.map (fun j=>M.N.getD j Str.empty),own:=fun x=>sc.names.lookup x==some .cell }
def lcB (M:MC) (tg:ITg) (names:List Str) (caps:List Nat) (it:II) (t ix:Expr) (sc:Scope):Bool:=blkB M.sc sc&&sH ix&&rF (names++caps.map (fun j=>M.N.getD j Str.empty))&&(caps.all fun j=>decide (j<M.N.length)&&(sc.names.lookup (M.N.getD j Str.empty)==some .free)) &&
 mI it M ix&&((tgIx tg).all fun i=>decide (i<names.length))&&mG (lcM M names caps sc) tg t
def flB (M:MC) (Z:MX) (f:Nat) (tg:ITg) (names:List Str) (caps:List Nat) (it:II) (k:Nat) (es:IEs):Expr->Bool
 | .Call (.Name y _) [.ListComp e [⟨t,ix,[],0⟩] sc _] [] _=>Z.fx[f]?==some y&&qB M.sc y&&lcB M tg names caps it t ix sc&&bO (lcM M names caps sc) Z.fx k es e
 |_=>false
mutual
def mX (M:MC) (Z:MX):RT->Stmt->Bool
 | .pl s=>fun x=>mS s M x
 | .rse c es=>fun x=>match x with
  | .Raise (some e) none _=>bO M Z.cl c es e
  |_=>false
 | .ite c a b=>fun x=>match x with
  | .If t y z _=>mE c M t&&mXs M Z a y&&mXs M Z b z
  |_=>false
 | .whl c b=>fun x=>false
 | .for tg it b=>fun x=>false
 | .asx i f es=>fun x=>match x with
  | .Assign [.Name y _] e _=>M.N[i]?==some y&&locB M y&&bO M Z.fx f es e
  |_=>false
 | .exx f es=>fun x=>false
 | .rtx f es=>fun x=>false
 | .try i j t b=>fun x=>match x with
  | .Try bs hs [] [] _=>zie M Z.tr i j t hs&&mXs M Z b bs
  |_=>false
 | .rtl f tg names caps it k es=>fun x=>match x with
  | .Return (some e) _=>flB M Z f tg names caps it k es e
  |_=>false
 | .rt2 a f tg names caps it k es=>fun x=>match x with
  | .Return (some (.Tuple [e1,e2] _ _)) _=>noStar e1&&mE a M e1&&flB M Z f tg names caps it k es e2
  |_=>false
def mXs (M:MC) (Z:MX):RTs->List Stmt->Bool
 | .nil=>fun x=>match x with | []=>true|_=>false
 | .cons s ss=>fun x=>match x with|y::ys=>mX M Z s y&&mXs M Z ss ys|_=>false
end
theorem pS {M:MC} {ns:List Str} {i:Nat} {es:IEs} {e:Expr} (h:bO M ns i es e=true):∃ x q xs pos,e=.Call (.Name x q) xs [] pos/\ns[i]?=some x/\qB M.sc x=true/\mA es M xs=true:=by
 unfold bO at h
 split at h
 .rename_i x q xs pos;obtain ⟨⟨h1,h2⟩,h3⟩:=bd3 h;exact ⟨x,q,xs,pos,rfl,xS h1,h2,h3⟩
 .cases h
theorem zdO {M:MC} {ns:List Str} {i j t:Nat} {hs:List ExceptHandler} (h:zie M ns i j t hs=true):∃ tn tp n y yp np ap hp,hs=[.ExceptHandler (some (.Name tn tp)) (some n) [.Assign [.Name y yp] (.Name n np) ap] hp]/\M.N[i]?=some n/\M.N[j]?=some y/\M.sc.names.lookup n=some .local/\M.sc.names.lookup y=some .local/\(n==("__debug__" : Str))=false/\(n==("__classdict__" : Str))=false/\ns[t]?=some tn/\qB M.sc tn=true:=by
 unfold zie at h
 split at h
 .rename_i tn tp n y yp n' np ap hp;obtain ⟨⟨⟨⟨⟨⟨⟨⟨h1,h2⟩,h3⟩,h4⟩,h5⟩,h6⟩,h7⟩,h8⟩,h9⟩:=bd9 h;cases eq_of_beq h1;exact ⟨tn,tp,n,y,yp,np,ap,hp,rfl,xS h2,xS h3,xS h4,xS h5,by simpa using h6,by simpa using h7,xS h8,h9⟩
 .cases h
def Fex (K:yS) (H:Hp) (E3:xE->X3) (Ew:L2.St->L2.XK):Prop:=∀ σ w G τ a H',yO K H H'->yT K H' σ τ->wO K H' w (.ref a)->xR K H' G->E3 σ w G->Ew τ (.ref a) none H'
theorem Fex.grow {K:yS} {H H':Hp} {E3:xE->X3} {Ew:L2.St->L2.XK} (f:Fex K H E3 Ew) (g:yO K H H'):Fex K H' E3 Ew:=fun σ w G τ a H2 g2=>f σ w G τ a H2 (g.trans g2)
def lowX (K:yS) (Ew:L2.St->L2.XK) (t:(xE->X3)->S3):TS:=fun D τ H=>∃ σ G D3 E3,yT K H σ τ/\xR K H G/\Fine K H D3 D/\Fex K H E3 Ew/\t E3 D3 σ G
section
variable {X:Cx}
theorem zjG {es:List Expr} {t:TA} (h:PA X.nox es t):PA X es t:=fun pos pins s σ H Q I hw =>
 Z2 (h pos pins s σ H Q (I.wish _) hw) (fun _ _ z=>by obtain ⟨vs,H',I',z⟩:=z;exact ⟨vs,H',I'.unwish,z⟩) fun _ _ z=>False.elim z
theorem nox_S {st:Stmt} {t:TS} (h:PS X.nox st t):PS X st t:=fun pins s σ H D I hw =>
 Z2 (h pins s σ H D (I.wish _) hw) (fun _ _ q=>q.unwish) fun _ _ z=>False.elim z
theorem nox_I {tg x:Expr} {t:TI} (h:PI X.nox tg x t):PI X tg x t:=fun pins s σ H R I hw =>
 Z2 (h pins s σ H R (I.wish _) hw) (fun _ _ z=>Z2 z (fun _ _ z=>by obtain ⟨it,fp,tn,J,H',e,I',z⟩:=z;exact ⟨it,fp,tn,J,H',e,I'.unwish,z⟩) fun _ _ z=>False.elim z) fun _ _ z=>False.elim z
end
def zhn (K:yS) (Ew:L2.St->L2.XK) (t:(xE->X3)->E3):TE:=fun τ H Q=>∃ σ G E3,yT K H σ τ/\xR K H G/\Fex K H E3 Ew/\t E3 σ G (jE K H Q)
def zc2 (K:yS) (sp:SpX):Sp:=fun vs H Q E=>∃ ws G,zG K H ws vs/\xR K H G/\sp ws G (jE K H Q) (fun w G'=>∀ a H',yO K H H'->wO K H' w (.ref a)->xR K H' G'->E (.ref a) none H')
def FxE (p:Par) (f:Fx3):Prop:=∀ X Ew,Fits p X.nox->XpOk X Ew->Gl X f.nm->∀ (args:List Expr) (ta:TA) (q pos:Pos),args.all noStar=true->PA X args ta->(args=[]->∀ τ H Q,ta τ H Q->Q [] H)->(f.nm==("__debug__" : Str))=false ->
 PE X (.Call (.Name f.nm q) args [] pos) (fun τ H Q=>ta τ H fun vs H1=>zc2 X.K f.sp vs H1 Q (Ew τ))
def kO (f:Fx3):Prop:=∀ ws G (Q Q':Q3) (E E':X3),(∀ w G',Q w G'->Q' w G')->(∀ w G',E w G'->E' w G')->f.sp ws G Q E->f.sp ws G Q' E'
theorem zdn {p:Par} {f:Fx3} (h:FxE p f) (m:kO f) {X:Cx} {Ew:L2.St->L2.XK} (fits:Fits p X.nox) (xp:XpOk X Ew) (gl:Gl X f.nm) {args:List Expr} {t:A3} {q pos:Pos} (mt:kT t) (hn:args.all noStar=true) (pa:PA X args (uV X.K t)) (hnil:args=[]->∀ σ G Q,t σ G Q->Q [] G) (hdb:(f.nm==("__debug__" : Str))=false) :
  PE X (.Call (.Name f.nm q) args [] pos) (zhn X.K Ew fun E σ G Q=>t σ G fun ws G1=>f.sp ws G1 Q (E σ)):=by
 refine (h X Ew fits xp gl args _ q pos hn pa (fun e τ H Q z=>?_) hdb).imp fun τ H Q z=>?_
 .obtain ⟨σ,G,hs,ab,z⟩:=z;exact hnil e _ _ _ z [] H .refl rfl ab
 .obtain ⟨σ,G,E3,hs,ab,fe,z⟩:=z;exact tK mt hs ab z fun ws G1 vs H1 g1 hs1 rs a1 z=>⟨ws,G1,rs,a1,m _ _ _ _ _ _ (fun w G' z=>jE.mono g1 z) (fun w G' z a H' g' rp ab'=>fe σ w G' τ a H' (g1.trans g') (hs1.mono g') rp ab' z) z⟩
def ClE (p:Par) (k:Cl3):Prop:=∀ X Ew,Fits p X.nox->XeOk X Ew->Gl X k.nm->∀ (args:List Expr) (t:A3) (q pos cpos:Pos),kT t->args.all noStar=true->PA X args (uV X.K t)->(args=[]->∀ σ G Q,t σ G Q->Q [] G)->(k.nm==("__debug__" : Str))=false ->
 PS X (.Raise (some (.Call (.Name k.nm q) args [] cpos)) none pos) (lowX X.K Ew fun E _ σ G=>t σ G fun ws G1=>clR k ws fun w=>E σ w G1)
structure TrE (p:Par) (k:Tr3):Prop where
 mg:p.mg k.nm=some (.ref k.C)
 cls:∃ ini,XM p.K k.C ini
 sub:∀ C∈k.sub,bG p.K C k.C
structure GoodX (Δ:CtxX) (p:Par):Prop where
 fx:∀ f∈Δ.fx,FxE p f/\kO f
 cl:∀ k∈Δ.cl,ClE p k
 tr:∀ k∈Δ.tr,TrE p k
structure Lxx (Γ:Ctx3) (Δ:CtxX) (M:MC) (Z:MX) (p:Par) (X:Cx):Prop where
 lk:Lk Γ M p X.nox
 fx:Δ.fx.map (·.nm)=Z.fx
 cl:Δ.cl.map (·.nm)=Z.cl
 tr:Δ.tr.map (·.nm)=Z.tr
 hk:X.stack=X.env::X.outer/\X.env.frame=some X.env.locals
theorem Lxx.held {Γ:Ctx3} {Δ:CtxX} {M:MC} {Z:MX} {p:Par} {X:Cx} (L:Lxx Γ Δ M Z p X) (pn:List (Addr×Obj)) (E:Value->Shared->Prop):Lxx Γ Δ M Z p { X with pn:=pn,xe:=E } :=
 ⟨⟨⟨L.lk.fits.prog,L.lk.fits.w,L.lk.fits.K,L.lk.fits.mg,L.lk.fits.base,L.lk.fits.A,L.lk.fits.calm,rfl⟩,L.lk.N,L.lk.sc,L.lk.nd,L.lk.own,L.lk.kind,L.lk.fns,L.lk.gls,L.lk.mts,L.lk.its,L.lk.sxs,L.lk.ixs⟩,L.fx,L.cl,L.tr,L.hk⟩
theorem yT.unset {K:yS} {H:Hp} {σ:xE} {τ:L2.St} (h:yT K H σ τ) (i:Nat):yT K H (σ.set i none) (τ.set i none):=by
 refine ⟨by simp only[ZbI];exact h.1,fun j w e=>?_⟩
 by_cases hj:i=j
 .subst hj
  by_cases hi:i<σ.length
  .rw[Zat hi] at e;cases e
  .rw[Za0 (by rw[ZbI];omega)] at e;cases e
 .rw[Zao hj] at e;rw[Zao hj];exact h.2 j w e
theorem ex_at {K:yS} {H:Hp} {C a:Addr} {ns:List Str} {ws:List W} (h:wO K H (.exc C ns ws) (.ref a)):∃ dx,H a=some (.ext (dL a C dx)):=by
 obtain ⟨b,vs,e,x,_⟩:=h;cases e;rcases x with ⟨x,_⟩|⟨dx,x,_⟩
 .exact ⟨none,x⟩
 .exact ⟨some dx,x⟩
section
variable {Γ:Ctx3} {Δ:CtxX} {p:Par} (g:Good Γ p) (gx:GoodX Δ p)
include g
theorem sndS (s:IS):OkS Γ p s:=match s with
 | .asg i e=>ziz g i e
 | .asgT ts e=>zfO g ts e
 | .asgI o i e=>zfQ g o i e
 | .asgA o f e=>zfR g o f e
 | .ex e=>t_ex g e
 | .ret e=>ziw g e
 | .retN=>(wD g).1
 | .pass=>(wD g).2.1
 | .brk=>(wD g).2.2.1
 | .cnt=>(wD g).2.2.2.1
 | .ite c a b=>zix g c a b (zcy g a) (zcy g b)
 | .whl c b=>ziv g c b (zcy g b)
 | .for tg it b=>ziy g tg it b (zcy g b)
 | .dead=>(wD g).2.2.2.2
 | .asgS i j e=>zfP g i j e
theorem zjJ {M:MC} {es:IEs} {xs:List Expr} (h:mA es M xs=true):xs=[]->∀ σ G Q,zU Γ XN es σ G Q->Q [] G:=fun e=>by
 subst e
 cases es with
 |nil=>exact fun σ G Q h=>h
 |cons a r=>cases h
def OkX (Γ:Ctx3) (Δ:CtxX) (p:Par) (s:RT):Prop:=∀ M Z X Ew x,Lxx Γ Δ M Z p X->XeOk X Ew->mX M Z s x=true->PS X x (lowX X.K Ew (jS Γ Δ s))
def OkXs (Γ:Ctx3) (Δ:CtxX) (p:Par) (s:RTs):Prop:=∀ M Z X Ew x,Lxx Γ Δ M Z p X->XeOk X Ew->mXs M Z s x=true->dM X x (lowX X.K Ew (xZ Γ Δ s))
theorem x_pl (s:IS):OkX Γ Δ p (.pl s):=fun M Z X Ew x L xo h =>
 (nox_S (sndS g s M X.nox x L.lk h)).imp fun D τ H hq=>by
  obtain ⟨σ,G,D3,E3,hs,ab,f,_,hq⟩:=hq;exact ⟨σ,G,D3,hs,ab,f,hq⟩
theorem x_ite (c:IE) (a b:RTs) (ha:OkXs Γ Δ p a) (hb:OkXs Γ Δ p b):OkX Γ Δ p (.ite c a b):=fun M Z X Ew x L xo h=>by
 cases x with
 |If t y z pos =>
  obtain ⟨⟨h1,h2⟩,h3⟩:=bd3 h;refine (zjf (PT.nox (tY g c M X.nox t L.lk h1).2.1) (ha M Z X Ew y L xo h2) (hb M Z X Ew z L xo h3)).imp fun D τ H hq=>?_;obtain ⟨σ,G,D3,E3,hs,ab,f,fe,hq⟩:=hq;refine fJ (sF g.mono XN c) hs ab hq fun k G1 H1 g1 hs1 a1 hq=>?_
  split
  .rename_i hk;rw[if_pos hk] at hq;exact ⟨σ,G1,D3,E3,hs1,a1,f.grow g1,fe.grow g1,hq⟩
  .rename_i hk;rw[if_neg hk] at hq;exact ⟨σ,G1,D3,E3,hs1,a1,f.grow g1,fe.grow g1,hq⟩
 |_=>exact absurd h zzN
theorem x_whl (c:IE) (b:RTs) (hb:OkXs Γ Δ p b):OkX Γ Δ p (.whl c b):=fun M Z X Ew x L xo h=>absurd h zzN
theorem x_for (tg:ITg) (it:II) (b:RTs) (hb:OkXs Γ Δ p b):OkX Γ Δ p (.for tg it b):=fun M Z X Ew x L xo h=>absurd h zzN
include gx
theorem zjq {M:MC} {Z:List Str} {X:Cx} {Ew:L2.St->L2.XK} {e:Expr} {f:Nat} {es:IEs} (lk:Lk Γ M p X.nox) (hZ:Δ.fx.map (·.nm)=Z) (xo:XpOk X Ew) (h:bO M Z f es e=true):fB e=true/\∃ k∈Δ.fx,Δ.fx[f]?=some k/\PE X e (zhn X.K Ew fun E σ G Q=>zU Γ XN es σ G fun ws G1=>k.sp ws G1 Q (E σ)):=by
 obtain ⟨x,q,xs,pos,rfl,h1,h2,h3⟩:=pS h;rw[← hZ] at h1;obtain ⟨k,hk,rfl⟩:=jC h1;have hm:=Zr hk;obtain ⟨gl,d1,_⟩:=uR (X:=X) lk.sc h2;obtain ⟨a1,a2,_⟩:=sndA g es M X.nox xs lk h3;exact ⟨rfl,k,hm,hk,zdn (gx.fx k hm).1 (gx.fx k hm).2 lk.fits xo gl (jM g.mono XN es) a2 (zjG a1) (zjJ g h3) d1⟩
theorem x_asx (i f:Nat) (es:IEs):OkX Γ Δ p (.asx i f es):=fun M Z X Ew x L xo h=>by
 cases x with
 |Assign ts v pos =>
  cases ts with
  |nil=>exact absurd h zzN
  |cons a r =>
   cases a with
   |Name y py =>
    cases r with
    |cons _ _=>exact absurd h zzN
    |nil =>
     obtain ⟨⟨h1,h2⟩,h3⟩:=bd3 h;obtain ⟨nl,k,hm,hk,pe⟩:=zjq g gx L.lk L.fx xo.toXpOk h3;have lo:=zc3 L.lk h2;have hN:=xS h1;rw[← L.lk.N] at hN;refine (zbb (X:=X) (i:=i) (show X.N.Nodup from L.lk.N▸L.lk.nd) hN lo.1 pe (kJ nl) lo.2).imp fun D τ H hq=>?_;obtain ⟨σ,G,D3,E3,hs,ab,f3,fe,hq⟩:=hq;refine ⟨σ,G,E3,hs,ab,fe,jM g.mono XN es σ G _ _ (fun ws G1 hq=>?_) hq⟩;simp only[hk] at hq;exact (gx.fx k hm).2 _ _ _ _ _ _ (fun w G2 z v H' g' rp ab'=>f3.nx _ G2 _ H' g' ((hs.mono g').set rp i) ab' z) (fun _ _ z=>z) hq
   |_=>exact absurd h zzN
 |_=>exact absurd h zzN
theorem x_exx (f:Nat) (es:IEs):OkX Γ Δ p (.exx f es):=fun M Z X Ew x L xo h=>absurd h zzN
theorem x_rtx (f:Nat) (es:IEs):OkX Γ Δ p (.rtx f es):=fun M Z X Ew x L xo h=>absurd h zzN
theorem x_rse (c:Nat) (es:IEs):OkX Γ Δ p (.rse c es):=fun M Z X Ew x L xo h=>by
 cases x with
 |Raise e from_ pos =>
  match e,from_,h with
  |some e,none,h =>
   obtain ⟨x,q,xs,cpos,rfl,h1,h2,h3⟩:=pS h;rw[← L.cl] at h1;obtain ⟨k,hk,rfl⟩:=jC h1;have hm:=Zr hk;obtain ⟨gl,d1,_⟩:=uR (X:=X) L.lk.sc h2;obtain ⟨a1,a2,_⟩:=sndA g es M X.nox xs L.lk h3;refine (gx.cl k hm X Ew L.lk.fits xo gl xs _ q pos cpos (jM g.mono XN es) a2 (zjG a1) (zjJ g h3) d1).imp fun D τ H hq=>?_;obtain ⟨σ,G,D3,E3,hs,ab,f3,fe,hq⟩:=hq;refine ⟨σ,G,D3,E3,hs,ab,f3,fe,jM g.mono XN es σ G _ _ (fun ws G1 hq=>?_) hq⟩;simp only[hk] at hq;exact hq
  |some _,some _,h=>exact absurd h zzN
  |none,_,h=>exact absurd h zzN
 |_=>exact absurd h zzN
theorem zjr {f:Nat} {tg:ITg} {names:List Str} {caps:List Nat} {it:II} {k:Nat} {es:IEs} {M:MC} {Z:MX} {X:Cx} {Ew:L2.St->L2.XK} {x:Expr} (L:Lxx Γ Δ M Z p X) (xo:XeOk X Ew) (h:flB M Z f tg names caps it k es x=true) :
  PE X x (zhn X.K Ew fun E σ G Q=>sK Γ Δ f tg names caps it k es (E σ) σ G Q)/\noStar x=true:=by
 unfold flB at h
 split at h
 .rename_i y yq e t ix sc lp cp;refine ⟨?_,rfl⟩;obtain ⟨⟨⟨h1,h2⟩,h3⟩,h4⟩:=bd4 h;have h1:=xS h1;rw[← L.fx] at h1;obtain ⟨kf,hkf,rfl⟩:=jC h1;have hmf:=Zr hkf;obtain ⟨gl,d1,_⟩:=uR (X:=X) L.lk.sc h2;simp only[lcB,Zh] at h3;obtain ⟨⟨⟨⟨⟨⟨c1,c2⟩,c3⟩,c4⟩,c5⟩,c6⟩,c7⟩:=h3
  have lk:∀ X',IsBlock X (names++caps.map (fun j=>M.N.getD j Str.empty)) sc X'->Lk Γ (lcM M names caps sc) p X':=fun X' b =>
   ⟨⟨b.prog.trans L.lk.fits.prog,b.w.trans L.lk.fits.w,b.K.trans L.lk.fits.K,b.mg.trans L.lk.fits.mg,b.base.trans L.lk.fits.base,b.A.trans L.lk.fits.A,b.calm.trans L.lk.fits.calm,b.xe⟩,b.N,b.scope.trans (zcI L.lk.sc),gU c3,(fun x z=>b.fn x (eq_of_beq z)),(zbz (X:=X) L.lk.sc c1).kind,L.lk.fns,L.lk.gls,L.lk.mts,L.lk.its,L.lk.sxs,L.lk.ixs⟩
  have pl:PE X (.ListComp e [⟨t,ix,[],0⟩] sc lp) (fun τ H Q=>∃ σ G E3,yT X.K H σ τ/\xR X.K H G/\Fex X.K H E3 Ew/\zR Γ XN it σ G fun items stab G1=>lcR items stab G1 (fun w G' K=>zT tg w (qT names.length caps σ) G' fun σ2 G2=>zU Γ XN es σ2 G2 fun ws G3=>match Δ.fx[k]? with|some h=>h.sp ws G3 (fun x G4=>K (some x) G4) (E3 σ)|none=>False) (jE X.K H Q)):=by
   intro pins s τ H Q I hq;obtain ⟨σ,G,E3,hs,ab,fe,hq⟩:=hq;obtain ⟨x',q',xs',pos',_,k1,_,_⟩:=pS h4;rw[← L.fx] at k1;obtain ⟨kk,hkk,rfl⟩:=jC k1;have hmk:=Zr hkk;simp only[hkk] at hq;have me:wI fun σ2 G2 Q=>zU Γ XN es σ2 G2 fun ws G3=>kk.sp ws G3 Q (E3 σ):=fun σ2 G2 Q Q' kq z=>jM g.mono XN es σ2 G2 _ _ (fun ws G3 z=>(gx.fx kk hmk).2 _ _ _ _ _ _ kq (fun _ _ z=>z) z) z;refine zjU (Ew:=Ew) (wi:=lowI X.K (zR Γ XN it)) (g:=lowG X.K (zT tg)) (tc:=qK X.K fun σ G Q=>Q true G) (te:=fun τ' H' Q'=>yO X.K H H'/\xO X.K (fun σ2 G2 Q=>zU Γ XN es σ2 G2 fun ws G3=>kk.sp ws G3 Q (E3 σ)) τ' H' Q') (cap:=capV names.length caps) L.hk xo L.lk.fits.calm (nox_I (sndI g it M X.nox ix L.lk c5 t)) (zbz L.lk.sc c1) (bP (X:=X) L.lk.N L.lk.sc c4) (fun X' b=>?_) (fun X' b=>?_) (fun X' b xp=>?_) (pV c2) I ?_
   .rw[← b.K];exact sndG (lk X' b) tg t c7
   .refine zcL.imp fun τ' H' Q' z=>?_;obtain ⟨σ',G',hs',ab',z⟩:=z;exact z H' .refl ab'
   .obtain ⟨_,k2,hm2,hk2,pe⟩:=zjq g gx (lk X'.nox b) L.fx xp h4;rw[hkk] at hk2;cases hk2;refine pe.imp fun τ' H' Q' z=>?_;obtain ⟨gr,σ2,G2,hs2,ab2,z⟩:=z;have eK:X'.K=X.K:=b.K;rw[eK];exact ⟨σ2,G2,fun _=>E3 σ,hs2,ab2,fun σ3 w G3 τ3 a H3 g3 _ rp ab3 z3=>fe σ w G3 τ a H3 (gr.trans g3) (hs.mono (gr.trans g3)) rp ab3 z3,z⟩
   .refine ⟨σ,G,hs,ab,zcZ g.mono XN it σ G _ _ (fun items stab G1 q J H1 g1 a1 ii=>?_) hq⟩;refine zgb (c:=fun σ G Q=>Q true G) (fun σ G Q Q' kq z=>kq _ _ z) me ii a1 (zdS (hs.mono g1) names.length caps) g1 (fun w G' Q' z=>?_) ?_
    .refine sE tg w _ G' _ _ (fun σ2 G2 z=>⟨⟨z.2.1,fun i v e=>?_⟩,z.2.2⟩) (mB tg w _ G' _ (cX tg w _ G' _ z));have hk:=(nF e).1;rw[z.1 i (zc0 c6 hk)];exact e
    .simp only[if_true];exact q
  refine ((gx.fx kf hmf).1 X Ew L.lk.fits xo.toXpOk gl [.ListComp e [⟨t,ix,[],0⟩] sc lp] _ yq cp rfl (nM pl zcP) (fun z=>nomatch z) d1).imp fun τ H Q hq=>?_;obtain ⟨σ,G,E3,hs,ab,fe,hq⟩:=hq;simp only[sK,hkf] at hq;refine ⟨σ,G,E3,hs,ab,fe,zcZ g.mono XN it σ G _ _ (fun items stab G1 q=>?_) hq⟩;obtain ⟨Pv,p0,pst,hlen,step,fin⟩:=q;refine ⟨Pv,p0,pst,hlen,step,fun acc G2 pv r hr v H1 g1 rp a1=>?_⟩;exact ⟨[.ref r],_,⟨v,[],rfl,rp,rfl⟩,a1,(gx.fx kf hmf).2 _ _ _ _ _ _ (fun w G3 z v' H' g' rp' ab'=>z v' H' (g1.trans g') rp' ab') (fun w G3 z a H' g' rp' ab'=>fe σ w G3 τ a H' (g1.trans g') (hs.mono (g1.trans g')) rp' ab' z) (fin acc G2 pv r hr)⟩
 .cases h
theorem cW {f:Nat} {tg:ITg} {names:List Str} {caps:List Nat} {it:II} {k:Nat} {es:IEs} {E:X3} {σ:xE} {G:Hw} {Q Q':Q3} (hk:∀ w G',Q w G'->Q' w G') (h:sK Γ Δ f tg names caps it k es E σ G Q):sK Γ Δ f tg names caps it k es E σ G Q':=by
 unfold sK at h ⊢;refine zcZ g.mono XN it σ G _ _ (fun items stab G1 q=>?_) h;obtain ⟨Pv,p0,pst,hlen,step,fin⟩:=q;refine ⟨Pv,p0,pst,hlen,step,fun acc G2 pv r hr=>?_⟩;have z:=fin acc G2 pv r hr
 cases e:Δ.fx[f]? with
 |none=>rw[e] at z;exact z
 |some kf=>rw[e] at z;exact (gx.fx kf (Zr e)).2 _ _ _ _ _ _ hk (fun _ _ z=>z) z
theorem x_rtl (f:Nat) (tg:ITg) (names:List Str) (caps:List Nat) (it:II) (k:Nat) (es:IEs):OkX Γ Δ p (.rtl f tg names caps it k es):=fun M Z X Ew x L xo h=>by
 cases x with
 |Return v pos =>
  cases v with
  |none=>exact absurd h zzN
  |some e =>
   refine (zcN (zjr g gx L xo h).1).imp fun D τ H hq=>?_;obtain ⟨σ,G,D3,E3,hs,ab,f3,fe,hq⟩:=hq;exact ⟨σ,G,E3,hs,ab,fe,cW g gx (fun w G2 z v H' g' rp ab'=>f3.rt w G2 v H' g' rp ab' z) hq⟩
 |_=>exact absurd h zzN
theorem x_rt2 (a:IE) (f:Nat) (tg:ITg) (names:List Str) (caps:List Nat) (it:II) (k:Nat) (es:IEs):OkX Γ Δ p (.rt2 a f tg names caps it k es):=fun M Z X Ew x L xo h=>by
 unfold mX at h
 split at h
 .rename_i e1 e2 q1 q2 q3;obtain ⟨⟨h0,h1⟩,h2⟩:=bd3 h;obtain ⟨p2,s2⟩:=zjr g gx L xo h2;have p1:=PE.nox (tY g a M X.nox e1 L.lk h1).1;refine (zcN (zf2 (nM p1 (nM p2 zcP (jT s2)) (jT h0)))).imp fun D τ H hq=>?_;obtain ⟨σ,G,D3,E3,hs,ab,f3,fe,hq⟩:=hq;refine xH (yW g.mono XN a) hs ab hq fun w G1 v H1 g1 hs1 rw1 a1 hq=>?_;refine ⟨σ,G1,E3,hs1,a1,fe.grow g1,cW g gx (fun y G2 z u H2 g2 ru a2=>?_) hq⟩;exact ⟨by rw[Zt];show 2<=_;decide,vU (ws:=[w,y]) a2 ⟨v,[u],rfl,rw1.mono g2,u,[],rfl,ru,rfl⟩ fun x H3 g3 rx a3=>f3.rt (.tup [w,y]) G2 _ _ ((g1.trans g2).trans g3) rx a3 z⟩
 .cases h
theorem x_try (i j t:Nat) (b:RTs) (hb:OkXs Γ Δ p b):OkX Γ Δ p (.try i j t b):=fun M Z X Ew x L xo h=>by
 cases x with
 |Try bs hs o fin pos =>
  match o,fin,h with
  | [],[],h =>
   obtain ⟨h1,h2⟩:=rY h;obtain ⟨tn,tp,n,y,yp,np,ap,hp,rfl,e1,e2,e3,e4,e5,e6,e7,e8⟩:=zdO h1;rw[← L.tr] at e7;obtain ⟨k,hk,rfl⟩:=jC e7;have hm:=Zr hk;have T:=gx.tr k hm;obtain ⟨ini,TT⟩:=T.cls;obtain ⟨gl,d1,_⟩:=uR (X:=X) L.lk.sc e8;have hN:X.N.Nodup:=L.lk.N▸L.lk.nd;have sc:X.env.scope=M.sc:=L.lk.sc;have eK:X.K=p.K:=L.lk.fits.K;have eN:X.N=M.N:=L.lk.N;refine (zje (tb:=fun Ew=>lowX X.K Ew (xZ Γ Δ b)) L.hk hN (by rw[eN];exact e1) (by rw[eN];exact e2) (by rw[sc];exact e3) (by rw[sc];exact e4) e5 e6 gl (by rw[show X.mg=p.mg from L.lk.fits.mg];exact T.mg) d1 (by rw[eK];exact TT) (fun pn E' Ew' xo'=>hb M Z _ Ew' bs (L.held pn E') xo' h2)).imp fun D τ H hq=>?_;obtain ⟨σ,G,D3,E3,hs,ab,f,fe,hq⟩:=hq;simp only[jS,hk] at hq;refine ⟨σ,G,D3,trR k i j D3,hs,ab,f,fun σ' w G' τ' a H' g' hs' rp ab' z=>?_,hq⟩;obtain ⟨C,ns,ws,rfl,hc,z⟩:=z;obtain ⟨dx,ha⟩:=ex_at rp;exact ⟨a,C,dx,rfl,ha,by rw[eK];exact T.sub C hc,f.nx _ G' _ H' g' (yT.unset ((hs'.set rp i).set rp j) i) ab' z⟩
  |_::_,_,h=>exact absurd h zzN
  | [],_::_,h=>exact absurd h zzN
 |_=>exact absurd h zzN
theorem ziK (s:RTs):OkXs Γ Δ p s :=
 RTs.rec (motive_1:=OkX Γ Δ p) (motive_2:=OkXs Γ Δ p) (x_pl g) (x_rse g gx) (fun c a b ha hb=>x_ite g c a b ha hb) (fun c b hb=>x_whl g c b hb) (fun tg it b hb=>x_for g tg it b hb) (x_asx g gx) (x_exx g gx) (x_rtx g gx) (fun i j t b hb=>x_try g gx i j t b hb) (x_rtl g gx) (x_rt2 g gx)
  (fun M Z X Ew x L xo h=>by
   cases x with
   |nil=>exact zcM.imp fun D τ H hq=>by obtain ⟨σ,G,D3,E3,hs,ab,f,_,hq⟩:=hq;exact f.nx σ G τ H .refl hs ab hq
   |cons _ _=>exact absurd h zzN)
  (fun s ss h1 h2 M Z X Ew x L xo h=>by
   cases x with
   |nil=>exact absurd h zzN
   |cons y ys =>
    obtain ⟨m1,m2⟩:=rY h;refine (zba (h1 M Z X Ew y L xo m1) (h2 M Z X Ew ys L xo m2)).imp fun D τ H hq=>?_;obtain ⟨σ,G,D3,E3,hs,ab,f,fe,hq⟩:=hq;refine ⟨σ,G,{ D3 with nx:=xZ Γ Δ ss E3 D3 },E3,hs,ab,⟨?_,f.bk,f.ct,f.rt⟩,fe,hq⟩;exact fun σ2 G2 τ2 H2 g2 hs2 a2 z=>⟨σ2,G2,D3,E3,hs2,a2,f.grow g2,fe.grow g2,z⟩) s
end
section
variable {X:Cx} {Ew:L2.St->L2.XK}
theorem zfU {pins:List (Addr×Obj)} {τ:L2.St} {H:Hp} {s:Shared} {Q:VK} {us:List Value} {vs:List V} {k:Nat} {f:Addr} {fd:FuncData} {ps:List Str} {sp:Sp} (F:FnOk X.prog X.w X.K X.mg X.base (CXr X.prog X.w) k f fd ps sp) (hr:Room k X.A) (hb:tJ X.K fd ps []) (xo:XpOk X Ew) (I:Inv X pins τ H s) (r:zF vs us) (h:sp vs H Q (Ew τ)) :
  wpAny 'a' X.A (call (.ref f) us) (EP X pins τ Q) X.xe s:=by
 have hl:(us++[]).length=ps.length:=by rw[Zw,← r.length];exact F.len _ _ _ _ h
 have bs:=hb s us I.kIn hl;rw[Zw] at bs;refine Zcu (Zbw (F.run X.A X.stack s H ⟨us,[]⟩ us vs Q (Ew τ) hr I.env0 bs r h) fun rr s' z=>?_)
 cases rr with
 |error e=>exact xo.pass pins τ H s e s' I z
 |ok fl =>
  cases fl with
  |ret u=>exact I.after z
  |next=>exact False.elim z
  |brk=>exact False.elim z
  |cont=>exact False.elim z
theorem zb4 (hx:X.xe=fun _ _=>False):XeOk X (fun _=>E0) :=
 ⟨⟨fun _ _ _ _ _ _ _ h=>by obtain ⟨_,_,_,_,_,_,_,_,_,_,_,_,_,_,_,z⟩:=h;exact z.elim⟩,fun _ _ _ _ _ _ _ _ _ z=>z.elim,fun _ _ _ _ _ _ _ _ _ _ _ _ _ z=>z.elim,by rw[hx];exact Zcr⟩
theorem zjs {nm:Str} {C:Addr} {args:List Expr} {t:A3} {q pos:Pos} {r:List V->Hp->VK->Prop} (hc:xB X (.ref C) r) (gl:Gl X nm) (hm:X.mg nm=some (.ref C)) (kp:PySem.W.keepIn X.K (.ref C)=true) (hn:args.all noStar=true) (pa:PA X args (uV X.K t)) (hnil:args=[]->∀ σ G Q,t σ G Q->Q [] G) (hdb:(nm==("__debug__" : Str))=false) :
  PE X (.Call (.Name nm q) args [] pos) (fun τ H Q=>uV X.K t τ H fun vs H1=>r vs H1 Q):=by
 cases args with
 |nil =>
  intro pins s σ H Q I h;obtain ⟨σ3,G,hs,ab,h⟩:=h;refine ZP (kZ I gl hm ?_ hdb);exact ZbJ I.kIn kp (hc pins s σ H [] [] Q I .nil (hnil rfl _ _ _ h [] H .refl rfl ab))
 |cons a l =>
  intro pins s σ H Q I h;obtain ⟨s1,s2⟩:=xW (env:=X.env) (pos:=pos) hn;refine ZP (kZ I gl hm ?_ hdb);refine ZbV (h₀:=X.base) I.ok.mod.kin kp (xQ (pa pos pins s σ H _ I h) fun us s1 z=>?_) s1 s2;obtain ⟨vs,H1,I1,r1,q1⟩:=z;exact ⟨I1.kIn,hc pins s1 σ H1 vs us Q I1 r1 q1⟩
end
section
variable {q:Pr} {A:Around} {nm:Str} {C:Addr}
theorem zdo {k:Nat} {f:Addr} {fd:FuncData} {ps:List Str} {sp:SpX} (FO:FnOk q.prog q.w q.K q.mg q.base (CXr q.prog q.w) k f fd ps (zc2 q.K sp)) (hm:q.mg nm=some (.ref f)) (hk:PySem.W.keepIn q.K (.ref f)=true) (hb:tJ q.K fd ps []) (_:kO ⟨nm,sp⟩) (hr:Room k A):FxE (q.at A) ⟨nm,sp⟩:=by
 intro X Ew fits xo gl args ta qp pos hn pa hnil hdb;have e:=fits.eq
 injection e with e1 e2 e3 e4 e5 e6
 have e1:q.prog=X.prog:=e1;have e2:q.w=X.w:=e2;have e3:q.K=X.K:=e3;have e4:q.mg=X.mg:=e4;have e5:q.base=X.base:=e5;have e6:A=X.A:=e6;subst e6;rw[e1,e2,e3,e4,e5] at FO;rw[e4] at hm;rw[e3] at hk hb
 cases args with
 |nil =>
  intro pins s τ H Q I h;exact ZP (kZ I gl hm (ZbJ I.kIn hk (zfU (us:=[]) (vs:=[]) FO hr hb xo I .nil (hnil rfl _ _ _ h))) hdb)
 |cons a l =>
  intro pins s τ H Q I h;obtain ⟨s1,s2⟩:=xW (env:=X.env) (pos:=pos) hn;refine ZP (kZ I gl hm ?_ hdb);refine ZbV (h₀:=X.base) I.ok.mod.kin hk (xQ (pa pos pins s τ H _ I h) fun us s1 z=>?_) s1 s2;obtain ⟨vs,H1,I1,r1,q1⟩:=z;exact ⟨I1.kIn,zfU FO hr hb xo I1 r1 q1⟩
theorem fn_fx {p:Par} {sp:SpX} (h:FxE p ⟨nm,sp⟩) (m:kO ⟨nm,sp⟩):FnE p ⟨nm,fun ws G Q _=>sp ws G Q fun _ _=>False⟩:=by
 intro X fits gl args t qp pos mt hn pa hnil hdb hnm;refine (zdn h m (Ew:=fun _=>E0) ⟨fits.prog,fits.w,fits.K,fits.mg,fits.base,fits.A,fits.calm,rfl⟩ (zb4 fits.xe).toXpOk gl mt hn pa hnil hdb).imp fun τ H Q z=>?_;obtain ⟨σ,G,hs,ab,z⟩:=z;exact ⟨σ,G,fun _ _ _=>False,hs,ab,fun _ _ _ _ _ _ _ _ _ _ z=>z.elim,z⟩
theorem zdD {p:Par} {sp:SpX} (h:FxE p ⟨nm,sp⟩) (m:kO ⟨nm,sp⟩):qF p ⟨nm,fun ws G Q _=>sp ws G Q fun _ _=>False⟩:=⟨fn_fx h m,fun ws G Q Q' E k z=>m ws G Q Q' _ _ k (fun _ _ z=>z) z⟩
theorem cl_0 (T:XM q.K C (.builtin "ValueError.__init__")) (hm:q.mg nm=some (.ref C)):ClE (q.at A) ⟨nm,C,none⟩:=by
 intro X Ew fits xo gl args t qp pos cpos mt hn pa hnil hdb;have eK:X.K=q.K:=fits.K;have em:X.mg=q.mg:=fits.mg;rw[← eK] at T;rw[← em] at hm;refine (zeH xo fits.calm (zjs (q:=qp) (pos:=cpos) (zjN T) gl hm T.kp hn pa hnil hdb)).imp fun D τ H hq=>?_;obtain ⟨σ,G,D3,E3,hs,ab,f3,fe,hq⟩:=hq;refine tK mt hs ab hq fun ws G1 vs H1 g1 hs1 rs a1 h=>?_;obtain ⟨rfl,h⟩:=h;refine ⟨rs,fun a fr=>⟨a,C,none,_,rfl,yD,T,?_⟩⟩;rw[zgB];have gr:yO X.K H1 (xP H1 a (.ext (dL a C none))):=xI fr;exact fe σ (.exc C [] []) G1 τ a _ (g1.trans gr) (hs1.mono gr) ⟨a,[],rfl,.inl ⟨yD,rfl⟩,rfl⟩ (a1.tup fr) h
end
structure ZOk (Δ:CtxX) (Z:MX):Prop where
 fx:Δ.fx.map (·.nm)=Z.fx
 cl:Δ.cl.map (·.nm)=Z.cl
 tr:Δ.tr.map (·.nm)=Z.tr
theorem zaN {Γ:Ctx3} {Δ:CtxX} {q:Pr} {k:Nat} {M:MC} {Z:MX} {x qual:Str} {st:Stmt} {dV:Value} {f:Addr} {fd:FuncData} {ps:List Str} {sp:SpX} {body:RTs} (F:FunD q.K x qual st dV f fd) (S:FnScope M.N ps (zX st)) (g:∀ A,Room k A->Good Γ (q.at A)) (gx:∀ A,Room k A->GoodX Δ (q.at A))
  (eM:MOk Γ M (zX st)) (eZ:ZOk Δ Z) (hm:mXs M Z body (zI st)=true) (len:∀ ws G Q E,sp ws G Q E->ws.length=ps.length)
  (hb:∀ ws G Q E,sp ws G Q E->xZ Γ Δ body (fun _=>E) { nx:=fun _ G'=>Q .non G',rt:=Q } (yG M.N ws) G):FnOk q.prog q.w q.K q.mg q.base (CXr q.prog q.w) (k+1) f fd ps (zc2 q.K sp):=by
 obtain ⟨oc,od,kV,doc,pm,an,cdv,ct,osl,rfl,lk,hcd⟩:=F.ex;refine zhM lk hcd S (fun vs H Q E h=>?_) fun A outer s H vs Q E hr h=>?_
 .obtain ⟨ws,G,rs,ab,h⟩:=h;rw[rs.length];exact len ws G _ _ h
 .obtain ⟨ws,G,rs,ab,h⟩:=h;refine ⟨lowX q.K (fun _=>E) (xZ Γ Δ body),ziK (g _ hr) (gx _ hr) body M Z _ _ (zI st) ⟨⟨⟨rfl,rfl,rfl,rfl,rfl,rfl,rfl,rfl⟩,rfl,eM.sc.symm,S.nd,fun _ _=>rfl,by rw[eM.sc];exact S.kind,eM.fns,eM.gls,eM.mts,eM.its,eM.sxs,eM.ixs⟩,eZ.fx,eZ.cl,eZ.tr,rfl,rfl⟩ ziq hm,?_⟩;refine ⟨yG M.N ws,G,_,_,rQ rs,ab,⟨?_,?_,?_,?_⟩,fun σ w G' τ a H' g' _ rp ab' z=>z a H' g' rp ab',hb ws G _ _ h⟩
  .exact fun σ G' τ H' g' _ a' z=>z .non H' g' (show wO q.K H' .non .non from rfl) a'
  .exact fun σ G' τ H' g' _ a' z=>z.elim
  .exact fun σ G' τ H' g' _ a' z=>z.elim
  .exact fun w G' v H' g' r' a' z=>z v H' g' r' a'
theorem zh8 {Γ:Ctx3} {Δ:CtxX} {q:Pr} {k:Nat} {M:MC} {Z:MX} {x qual:Str} {st:Stmt} {dV:Value} {f:Addr} {fd:FuncData} {ps:List Str} {sp:nQ} {body:RTs} (F:FunD q.K x qual st dV f fd) (S:FnScope M.N ps (zX st)) (g:∀ A,Room k A->Good Γ (q.at A)) (gx:∀ A,Room k A->GoodX Δ (q.at A))
  (eM:MOk Γ M (zX st)) (eZ:ZOk Δ Z) (hm:mXs M Z body (zI st)=true) (len:∀ ws G Q,sp ws G Q XN->ws.length=ps.length)
  (hb:∀ ws G Q,sp ws G Q XN->xZ Γ Δ body (fun _ _ _=>False) { nx:=fun _ G'=>Q .non G',rt:=Q } (yG M.N ws) G):FnOk q.prog q.w q.K q.mg q.base CX0 (k+1) f fd ps (tP q.K sp):=by
 obtain ⟨oc,od,kV,doc,pm,an,cdv,ct,osl,rfl,lk,hcd⟩:=F.ex;refine zhM lk hcd S (fun vs H Q E h=>?_) fun A outer s H vs Q E hr h=>?_
 .obtain ⟨ws,G,rs,ab,h⟩:=h;rw[rs.length];exact len ws G _ h
 .obtain ⟨ws,G,rs,ab,h⟩:=h;refine ⟨lowX q.K (fun _=>E0) (xZ Γ Δ body),dM.nox (ziK (g _ hr) (gx _ hr) body M Z _ _ (zI st) ⟨⟨⟨rfl,rfl,rfl,rfl,rfl,rfl,rfl,rfl⟩,rfl,eM.sc.symm,S.nd,fun _ _=>rfl,by rw[eM.sc];exact S.kind,eM.fns,eM.gls,eM.mts,eM.its,eM.sxs,eM.ixs⟩,eZ.fx,eZ.cl,eZ.tr,rfl,rfl⟩ (zb4 rfl) hm),?_⟩;refine ⟨yG M.N ws,G,_,_,rQ rs,ab,⟨?_,?_,?_,?_⟩,fun σ w G' τ a H' g' _ rp ab' z=>z.elim,hb ws G _ h⟩
  .exact fun σ G' τ H' g' _ a' z=>z .non H' g' (show wO q.K H' .non .non from rfl) a'
  .exact fun σ G' τ H' g' _ a' z=>z.elim
  .exact fun σ G' τ H' g' _ a' z=>z.elim
  .exact fun w G' v H' g' r' a' z=>z v H' g' r' a'
abbrev eApp:Mt3:=⟨"append", "list", nS⟩
theorem zh0 {q:Pr} {A:Around}:MtE (q.at A) eApp/\sR eApp:=⟨rC ZaQ PySem.F.slot_list_append PySem.F.type_list_append (fun X f=>zkK) bI,bI⟩
def rS:RS:=fun ws G Q=>match ws with
 | [x]=>(match wT G x with|some xs=>Q (.tup xs) G|none=>False)
 |_=>False
theorem rT:wP rS:=by
 intro ws G Q Q' k h;unfold rS at h ⊢
 split at h
 .split at h
  .exact k _ _ h
  .exact h.elim
 .exact h.elim
theorem zfM {X:Cx}:xB X (.type "tuple") (vS X.K rS):=by
 intro pins s σ H xs us Q I r h;obtain ⟨ws,G,rs,ab,h⟩:=h;unfold rS at h
 split at h
 .rename_i w;obtain ⟨v,rfl,rv⟩:=qX rs
  split at h
  .rename_i ys hy;obtain ⟨a,vs,b,rfl,sq,rr⟩:=zcC ab rv hy;refine dQ pins s σ H _ us Q I r ⟨a,vs,rfl,?_⟩;cases b
   .exact .inl ⟨sq,vU ab rr h⟩
   .exact .inr ⟨sq,h _ _ .refl ⟨a,vs,rfl,sq,rr⟩ ab⟩
  .exact h.elim
 .exact h.elim
abbrev eTup:Fn3:=⟨"tuple", fun ws G Q _=>rS ws G Q⟩
theorem zhP {q:Pr} {A:Around} (hm:q.mg "tuple" = none):qF (q.at A) eTup:=⟨zfl hm (by decide +kernel) (fun X f=>zfM) rT (fun _ _ h=>h),fun ws G Q Q' _ k h=>rT ws G Q Q' k h⟩
theorem fx_ty {q:Pr} {A:Around} {nm:Str} {T:String} {sp:RS} (hm:q.mg nm=none) (hv:bootBuiltins nm=some (.type T)) (hnm:nm ≠ "__name__") (hc:∀ X:Cx,xB X (.type T) (vS X.K sp)) (h0:∀ G Q,¬ sp [] G Q):FxE (q.at A) ⟨nm,fun ws G Q _=>sp ws G Q⟩:=by
 intro X Ew fits xo gl args ta qp pos hn pa hnil hdb;have hm':X.mg nm=none:=by rw[show X.mg=q.mg from fits.mg];exact hm
 cases args with
 |nil =>
  intro pins s σ H Q I h;obtain ⟨ws,G,rs,_,h⟩:=hnil rfl _ _ _ h
  cases ws with
  |nil=>exact absurd h (h0 _ _)
  |cons _ _=>obtain ⟨_,_,e,_⟩:=rs;cases e
 |cons a r =>
  obtain ⟨s1,s2⟩:=xW (env:=X.env) (pos:=pos) hn;exact (cQ (p:=qp) (pos:=pos) (hc X) gl hm' hv pa hnm hdb s1 s2).imp fun τ H Q h=>h
abbrev rV:Fx3:=⟨"tuple", fun ws G Q _=>rS ws G Q⟩
theorem zbr {q:Pr} {A:Around} (hm:q.mg "tuple" = none):FxE (q.at A) rV/\kO rV:=⟨fx_ty hm (by decide +kernel) (by decide) (fun X=>zfM) fun _ _ h=>h,fun ws G Q Q' _ _ k _ h=>rT ws G Q Q' k h⟩
end L3
namespace L3
open PySem PySem.Spec PyProof.Rows L2 PySem.SeqAt
def strN:RS:=fun ws G Q=>match ws with
 | [.int i]=>i.natAbs.log2<1920/\Q (.str (Str.ofString (toString i))) G
 |_=>False
theorem dC:wP strN:=by
 intro ws G Q Q' k h;unfold strN at h ⊢
 split at h
 .exact ⟨h.1,k _ _ h.2⟩
 .exact h.elim
theorem zgJ {X:Cx}:xB X (.type "str") (vS X.K strN):=by
 intro pins s σ H xs us Q I r h;obtain ⟨ws,G,rs,ab,h⟩:=h;unfold strN at h
 split at h
 .obtain ⟨v,rfl,rv⟩:=qX rs;cases (show v=_ from rv);obtain ⟨u,rfl,t,rfl⟩:=jL r;exact PySem.P.str_of_int h.1 ⟨.str _,H,I.tok _,⟨_,rfl⟩,h.2 _ H .refl rfl ab⟩
 .exact h.elim
abbrev eStr:Fn3:=⟨"str", fun ws G Q _=>strN ws G Q⟩
theorem zhQ {q:Pr} {A:Around} (hm:q.mg "str" = none):qF (q.at A) eStr:=⟨zfl hm (by decide +kernel) (fun X f=>zgJ) dC (fun _ _ h=>h),fun ws G Q Q' _ k h=>dC ws G Q Q' k h⟩
def intT:RS:=fun ws G Q=>match ws with
 | [.str x]=>∃ n,intText? x=some n/\x.length<=640/\Q (.int n) G
 |_=>False
theorem bZ:wP intT:=by
 intro ws G Q Q' k h;unfold intT at h ⊢
 split at h
 .obtain ⟨n,h1,h2,h⟩:=h;exact ⟨n,h1,h2,k _ _ h⟩
 .exact h.elim
theorem zhG {X:Cx}:xB X (.type "int") (vS X.K intT):=by
 intro pins s σ H xs us Q I r h;obtain ⟨ws,G,rs,ab,h⟩:=h;unfold intT at h
 split at h
 .obtain ⟨v,rfl,rv⟩:=qX rs;cases (show v=_ from rv);obtain ⟨u,rfl,t,rfl⟩:=jL r;obtain ⟨n,h1,h2,h⟩:=h;exact PySem.W.KIN.call_text h1 h2 ⟨.int n,H,I.tok _,⟨_,rfl⟩,h _ H .refl rfl ab⟩
 .exact h.elim
abbrev zfx:Fn3:=⟨"int", fun ws G Q _=>intT ws G Q⟩
theorem zfu {q:Pr} {A:Around} (hm:q.mg "int" = none):qF (q.at A) zfx:=⟨zfl hm (by decide +kernel) (fun X f=>zhG) bZ (fun _ _ h=>h),fun ws G Q Q' _ k h=>bZ ws G Q Q' k h⟩
def cntS:MS:=fun x ws G Q=>match x,ws with
 | .ref p,[y]=>∃ xs,yU G p=some xs/\(kR y=true/\xF xs=true/\min (jQ xs) (uD y)<=150)/\Q (.int ((xs.countP fun w=>jB w y:Nat):Int)) G
 |_,_=>False
theorem bQ:∀ x ws G (Q Q':Q3),(∀ w G',Q w G'->Q' w G')->cntS x ws G Q->cntS x ws G Q':=by
 intro x ws G Q Q' k h;unfold cntS at h ⊢
 split at h
 .obtain ⟨xs,e,e1,h⟩:=h;exact ⟨xs,e,e1,k _ _ h⟩
 .exact h.elim
theorem zkF {X:Cx} (hu:X.A.units+200<cLine):MtR X "list.count" (lowM X.K cntS):=by
 intro pins s σ H x xs v us Q I rx rxs h;obtain ⟨w,ws,G,rw1,rs,ab,h⟩:=h;unfold cntS at h
 split at h
 .rename_i p y;cases (show x=.ref p from rw1);cases (show v=Value.ref p from rx);obtain ⟨vy,rfl,ry⟩:=qX rs;obtain ⟨uy,rfl,ruy⟩:=jL rxs;obtain ⟨ys,e,⟨p1,p2,p3⟩,h⟩:=h;obtain ⟨vs,its,sq,rr,vv,_,pl,hz⟩:=gE I ab e;obtain ⟨o,n,ho,hc,hd,hdat⟩:=pl
  have fe:its.countP (eqI X.K H y)=ys.countP (fun w=>jB w y):=by
   have:=congrArg (List.countP id) (zbs I (x:=y) rr vv p2);simpa[List.countP_map] using this
  obtain ⟨cls,dd,data,sl⟩:=o;simp only at hc hdat;subst hc;subst hdat;refine Zav PySem.F.slot_list_count ⟨_,ho,rfl⟩ PySem.F.entry_list_count (PySem.F.args_list_count_2 _ _) (list_countAt p its.toArray n dd sl uy (eqI X.K H y)) ⟨ho,fun z hz'=>?_,?_⟩
  .refine zdz I ry ruy p1 rr vv p2 ?_ z (by simpa using hz');show X.A.units+1+min (jQ ys) (uD y)<cLine;omega
  .show wants _ _ (.ok (.ret (.int ((its.countP (eqI X.K H y):Nat):Int) s.toks))) _;rw[fe];exact ⟨.int ((ys.countP fun w=>jB w y:Nat):Int),H,I.tok _,⟨_,rfl⟩,h _ H .refl rfl ab⟩
 .exact h.elim
abbrev eCnt:Mt3:=⟨"count", "list", cntS⟩
theorem zhZ {q:Pr} {A:Around} (hu:A.units+200<cLine):MtE (q.at A) eCnt/\sR eCnt:=⟨rC ZaQ PySem.F.slot_list_count PySem.F.type_list_count (fun X f=>zkF (by rw[f.A];exact hu)) bQ,bQ⟩
end L3
namespace L3
open PySem PySem.Spec PyProof.Rows L2 PySem.SeqAt AutoSeq1
end L3
namespace L3
open PySem PySem.Spec PyProof.Rows L2 PySem.SeqAt
structure KdS (prog:Program) (w:World) (α:Type) [DecidableEq α] where
 k:_root_.PySem.KeyKind prog w α
 vl:α->Tok->Value
 of:Value->α
 d:α
 is:∀ x t,k.is x (vl x t)=true
 sh:∀ {x v},k.is x v=true->∃ t,v=vl x t
 ofm:∀ x t,of (vl x t)=x
 sc:∀ x t,(vl x t).scannable=true
section
variable {α:Type} [DecidableEq α] {prog:Program} {w:World}
def tx (K:KdS prog w α) (e:Int×Value):α:=K.of e.2
end
section
variable {α:Type} [DecidableEq α] {prog:Program} {w:World} {K:KdS prog w α} {A:Around} {E:Value->Shared->Prop} {s:Shared} {S:Addr} {led:Bool}
end
section
variable {α:Type} [DecidableEq α] {prog:Program} {w:World} {K:KdS prog w α} {A:Around} {R:Result->Shared->Prop} {I:Addr} {fp wr:List Addr} {G:Array GenState->Array GenState->Prop} {n:Nat} {P:Nat->Value->Prop} {St:Nat->Shared->Prop} {S:Addr} {led:Bool}
end
section
variable {prog:Program} {w:World} {s:Shared} {A:Around} {E:Value->Shared->Prop}
theorem za2 {vs:List Value} {ss:List Str} (h:StrsAre vs ss):vs.length=ss.length:=by
 induction h with
 |nil=>rfl
 |cons _ _ _ ih=>exact congrArg (·+1) ih
theorem zbo {vs:List Value} {ss:List Int} (h:IntsAre vs ss):vs.length=ss.length:=by
 induction h with
 |nil=>rfl
 |cons _ _ _ ih=>exact congrArg (·+1) ih
end
namespace SI
end SI
section
variable {α:Type} [DecidableEq α] {prog:Program} {w:World} {K:KdS prog w α} {A:Around} {E:Value->Shared->Prop} {s:Shared} {I S:Addr} {first:Value} {i n ep:Nat} {led:Bool} {o:Obj} {es:Array (Int×Value)} {t:SetTable}
theorem zgK {β:Type} {B:Around} {Q:β->Shared->Prop} {Er:Value->Shared->Prop} (hh:B.handled=none) (h:∀ (h':Heap) (e:Addr),(∀ b o,s.heap.get? b=some o->h'.get? b=some o)->Shared.TypeIs { s with heap:=h' } (.ref e) "StopIteration" -> Er (.ref e) { s with heap:=h' }) :
  wpAny (model prog w) B (do raiseNew (← newExc (.type "StopIteration") []):Sem β) Q Er s:=by
 refine Za ?_;simp only[newExc,newTuple];refine Za (ZN ?_ (by size_fits));refine Za (m:=firstArgMember _ _) (Zbe (a:=Value.none) (by first|rfl|(simp only[firstArgMember];rfl)) ?_);refine ZN ?_ (by size_fits);simp only[raiseNew];refine Za (wpAny_handled ?_);rw[hh];refine Za (Zc (wpAny_throw ?_));exact h _ _ (fun b o e=>Zb _ (Zb _ e)) ⟨_,Zg _ rfl,rfl⟩
end
section
variable {α:Type} [DecidableEq α] {prog:Program} {w:World} {K:KdS prog w α} {A:Around} {I S T:Addr} {ep:Nat} {led:Bool} {o:Obj} {es:Array (Int×Value)} {t:SetTable}
abbrev Gs:Array GenState->Array GenState->Prop:=fun a b=>b=a
theorem rB {s:Shared} {f:Obj->Obj}:Moved [I] Gs s { s with heap:=s.heap.update I f } :=
 ⟨fun b o hb e=>(Zq _ _ fun z:I=b=>hb (by simp[z])).trans e,rfl,rfl,rfl,zzR _⟩
theorem Moved.more {s s':Shared} {h':Heap} (m:Moved [I] Gs s s') (k:∀ b o,s'.heap.get? b=some o->h'.get? b=some o):Moved [I] Gs s { s' with heap:=h' }:=m.then_heap (zzR _) fun b o _ e=>k b o e
end
section
variable {α:Type} [DecidableEq α] {prog:Program} {w:World} {K:KdS prog w α} {A:Around} {E:Value->Shared->Prop} {s:Shared} {S:Addr} {ep:Nat} {o:Obj} {es:Array (Int×Value)} {t:SetTable}
end
section
variable {α:Type} [DecidableEq α] {prog:Program} {w:World} {K:KdS prog w α} {A:Around} {E:Value->Shared->Prop} {s:Shared} {S:Addr} {ep:Nat} {o:Obj} {es:Array (Int×Value)} {t:SetTable}
structure Went (s s':Shared):Prop where
 kp:∀ b o,s.heap.get? b=some o->s'.heap.get? b=some o
 gens:s'.gens=s.gens
 os:s'.os=s.os
theorem ite_c {β:Type} {M:Model} {B:Around} {c:Bool} {x y:Sem β} {Q:β->Shared->Prop} (hc:c=true) (h:wpAny M B x Q E s):wpAny M B (if c=true then x else y) Q E s:=by rw[if_pos hc];exact h
end
section
variable {prog:Program} {w:World} {A:Around} {E:Value->Shared->Prop} {s:Shared}
theorem Went.trans {s1 s2:Shared} (a:Went s s1) (b:Went s1 s2):Went s s2:=⟨fun x o e=>b.kp x o (a.kp x o e),b.gens.trans a.gens,b.os.trans a.os⟩
theorem zcu {D:Addr} {vs:List Value} {ss:List Str} {n:Nat} {P:PySem.Fin->Shared->Prop} (ho:s.heap.get? D=some (seqObj "list" vs.toArray n)) (hS:StrsAre vs ss) (h64:vs.length<64)
  (h:∀ h' vs' ss' m,But D s.heap h'->h'.get? D=some (seqObj "list" vs'.toArray m)->StrsAre vs' ss'->ss'.Perm ss->sortedS ss'=true->P (.done (.ret .none)) { s with heap:=h' }):wpAny (model prog w) A (Builtin.«list.sort» ⟨[.ref D],[]⟩) P E s:=by
 refine list_sort_treeK strKind_oneLt ho hS.keysOf (fun v₁ v₂ rest e=>keyKind_strs (by rw[← e];exact hS)) h64 fun st' hp hs=>?_;obtain ⟨ss',h1,h2,h3⟩:=sorted_out_str hS hp hs;obtain ⟨m,hm⟩:=sortedHeap_at (out:=(arrOf st').map (·.2)) ho;exact h _ _ ss' m (fun b o hb e=>(sortedHeap_old hb (Zd e)).trans e) hm h1 h2 h3
theorem zbF {v:Value} {ss:List Str} {Q:Value->Shared->Prop} (h64:ss.length<64)
  (hc:∀ (Q':List Value->Shared->Prop) (E':Value->Shared->Prop),(∀ s' vs ys,StrsAre vs ys->ys.Perm ss->Went s s'->Q' vs s')->wpAny (model prog w) A.in1 (collect v) Q' E' s)
  (h:∀ s1 s' vs' ss' m,Went s s1->Went s1 s'->s'.heap.get? s1.heap.objs.size=some (seqObj "list" vs'.toArray m)->StrsAre vs' ss'->ss'.Perm ss->sortedS ss'=true->Q (.ref s1.heap.objs.size) s'):wpAny (model prog w) A (call (.builtin "sorted") [v]) Q E s:=by
 refine Calls.call_function_entry kind_sorted plain_sorted entry_sorted (args_sorted1 _) ?_;unfold Builtin.«sorted»;refine Za (m:=checkCount "sorted" 1 1 _) (Zc (Za (hc _ _ fun s1 vs ys hv hp wt=>?_)));have hl:vs.length<64:=by rw[za2 hv,hp.length_eq];exact h64
 refine Za (wpAny_newList ?_ (by rw[Zt];omega));have hL:(s1.heap.push (seqObj "list" vs.toArray 0)).get? s1.heap.objs.size=some (seqObj "list" vs.toArray 0):=Zg _ rfl;show wpAny (model prog w) _ _ _ _ { s1 with heap:=s1.heap.push (seqObj "list" vs.toArray 0) };refine Za (ZR (ZM slot_list_sort ⟨_,hL,rfl⟩ entry_list_sort (zcu hL hv hl fun h' vs' ss' m kb hm hv' hp' hs'=>⟨_,rfl,?_⟩) (args_list_sort _)));refine Zc ⟨_,rfl,h s1 { s1 with heap:=h' } vs' ss' m wt ⟨fun b o e=>kb b o (Zj (Zd e)) (Zb _ e),rfl,rfl⟩ hm hv' (hp'.trans hp) hs'⟩
end
section
variable {X:Cx}
theorem Went.inv {pins:List (Addr×Obj)} {σ:L2.St} {H:Hp} {s s':Shared} (I:Inv X pins σ H s) (wt:Went s s') {t:Nat} (ht:0<t):Inv X pins σ H { s' with toks:=t }:=by
 have J:=I.call (g':=s.gens) (d':=s'.drawn) (t':=t) (ch:=[]) (Un.kept wt.kp) (I.hok.kept wt.kp) I.bare (fun _ z=>nomatch z) ht;obtain ⟨h',g',d',t',o'⟩:=s';obtain rfl:g'=s.gens:=wt.gens;obtain rfl:o'=s.os:=wt.os;exact J
theorem rR {K:yS} {H:Hp}:∀ (ss:List Str),zG K H (ss.map .str) (ss.map .str)
 | []=>rfl
 |x::ss=>⟨.str x,_,rfl,rfl,rR ss⟩
theorem mQ:∀ {vs:List Value} {ss:List Str},StrsAre vs ss->zF (ss.map V.str) vs
 |_,_,.nil=>.nil
 |_,_,.cons x t h=>.cons ⟨t,rfl⟩ (mQ h)
theorem dH {K:yS} {H:Hp}:∀ {ss:List Str} {vs:List V} {us:List Value},zG K H (ss.map .str) vs->zF vs us->StrsAre us ss
 | [],vs,us,r,v=>by cases (show vs=[] from r);cases v;exact .nil
 |x::ss,vs,us,r,v=>by
  obtain ⟨y,tl,rfl,ry,rt⟩:=r;cases (show y=.str x from ry)
  cases v with
  |cons a c =>
   obtain ⟨tk,rfl⟩:=a;exact .cons x tk (dH rt c)
theorem zeW {pins:List (Addr×Obj)} {σ:L2.St} {H:Hp} {s s1 s':Shared} {G:Hw} {vs:List Value} {ss:List Str} {m:Nat} {Q:VK} (I:Inv X pins σ H s) (ab:xR X.K H G) (w1:Went s s1) (w2:Went s1 s') (hg:s'.heap.get? s1.heap.objs.size=some (seqObj "list" vs.toArray m)) (hv:StrsAre vs ss) (hl:ss.length<64)
  (h:∀ r,G r=none->jE X.K H Q (.ref r) (put G r (.lst (ss.map .str)))) (h0:0<s'.toks):EP X pins σ Q (.ref s1.heap.objs.size) s':=by
 have I1:=w1.inv I Nat.one_pos;have I2:Inv X pins σ H s':=(w1.trans w2).inv I h0;have hn:H s1.heap.objs.size=none:=I1.hok.fresh (zzR _);refine ⟨.ref s1.heap.objs.size,_,I2.adopt (o:=.lst (ss.map .str)) (I1.off (zzR _)) hn ⟨?_,vs,m,mQ hv,hg⟩,rfl,jO ab (rR ss) h _ hn⟩;rw[zzM,Zt];omega
def zcw:RS:=fun ws G Q=>match ws with
 | [x]=>∃ ts:List Str,wT G x=some (ts.map .str)/\ts.length<64/\∀ ts':List Str,ts'.Perm ts->sortedS ts'=true->∀ r,G r=none->Q (.ref r) (put G r (.lst (ts'.map .str)))
 |_=>False
theorem zbG:wP zcw:=by
 intro ws G Q Q' k h;unfold zcw at h ⊢
 split at h
 .obtain ⟨ts,e,l,h⟩:=h;exact ⟨ts,e,l,fun ts' a b r hr=>k _ _ (h ts' a b r hr)⟩
 .exact h.elim
theorem zen:xB X (.builtin "sorted") (vS X.K zcw):=by
 intro pins s σ H xs us Q I r h;obtain ⟨ws,G,rs,ab,h⟩:=h;unfold zcw at h
 split at h
 .rename_i x;obtain ⟨v,rfl,rv⟩:=qX rs;obtain ⟨ts,ex,hl,h⟩:=h;obtain ⟨a,vs,rfl,sq,rr⟩:=mF ab rv ex;obtain ⟨u,rfl,ru⟩:=jL r;cases (show u=Value.ref a from ru);obtain ⟨its,vv,ss,hz⟩:=I.sqB sq
  obtain ⟨T',o,n,hT,ho,hc,hd⟩:∃ (T':String) (o:Obj) (n:Nat),(T' = "list" \/ T' = "tuple")/\s.heap.get? a=some o/\o.cls=.type T'/\o.data=.seq its.toArray n:=by
   cases hb:bOf x<;>rw[hb] at ss
   .obtain ⟨o,ho,hc,n,hd⟩:=ss;exact ⟨"list", o,n,.inl rfl,ho,hc,hd⟩
   .obtain ⟨o,ho,hc,n,hd⟩:=ss;exact ⟨"tuple", o,n,.inr rfl,ho,hc,hd⟩
  have hS:=dH rr vv;have hl2:its.length=ts.length:=za2 hS;refine wE I.tk (zbF hl (fun Q' E' q=>wpAny_collect_seq a hT ho hc hd (fun h' k=>q { s with heap:=h' } its ts hS (.refl _) ⟨k,rfl,rfl⟩) (by rw[zzS,Zt];omega)) fun s1 s' vs' ss' m w1 w2 hg hv hp hs h0=>?_);exact zeW I ab w1 w2 hg hv (by rw[hp.length_eq];exact hl) (h ss' hp hs) h0
 .exact h.elim
end
end L3
namespace L3
open PySem PySem.Spec PyProof.Rows L2 PySem.SeqAt PySem.Builtin PySem.Builtin.Str
theorem zcp {prog:Program} {w:World} {A:Around} {E:Value->Shared->Prop} {s:Shared} {x y:Str} {t u:Tok} {Q:Value->Shared->Prop} (hy:(y.length==0)=false) (hsz:x.length<=sizeLine)
  (hsz2:(partsBetween x (occurrences x y 0 x.length (x.length+1)) y.length).length<=sizeLine)
  (hq:∀ l k,l.map (·.1)=Txt.split x y->Q (.ref s.heap.objs.size) { s with heap:=s.heap.push { cls:=.type "list", data:=.seq (strValues l).toArray },toks:=k }) :
  wpAny (model prog w) A (call (.builtin "str.split") [.str x t,.str y u]) Q E s:=by
 cases h1:(decide (x.length<y.length) || decide (strKind x<strKind y))
 .cases hf:(occurrences x y 0 x.length (x.length+1)).isEmpty
  .refine Zav Zcb (Zb6 _ _ _) Zb3 (ZbQ _ _) (meets_str_split_sep x y t u h1 hy hf hsz hsz2) ?_;show wants Q E _ { s with toks:=_,heap:=s.heap.push { cls:=.type "list", data:=.seq (strsFrom s.toks (partsBetween x (occurrences x y 0 x.length (x.length+1)) y.length)).toArray } };rw[strsFrom_eq];exact hq (numbered s.toks _) _ ((numbered_texts _ _).trans ((if_neg (ne_true_of_eq_false h1)).trans (if_neg (ne_true_of_eq_false hf))).symm)
  .exact Zav Zcb (Zb6 _ _ _) Zb3 (ZbQ _ _) (meets_str_split_not_found x y t u h1 hy hf) (hq [(x,t)] s.toks ((if_neg (ne_true_of_eq_false h1)).trans (if_pos hf)).symm)
 .exact Zav Zcb (Zb6 _ _ _) Zb3 (ZbQ _ _) (meets_str_split_cannot_occur x y t u h1) (hq [(x,t)] s.toks (if_pos h1).symm)
theorem uI (x y:Str):(Txt.split x y).length<=x.length+2:=by
 unfold Txt.split
 split
 .simp
 .split
  .simp
  .rw[ZbL];have:=StrLaws.occ_length_le x y 0 x.length (x.length+1);omega
def rP:MS:=fun x ws G Q=>match x,ws with
 | .str x,[.str y]=>(y.length==0)=false/\x.length<=1000000/\∀ r,G r=none->Q (.ref r) (put G r (.lst ((Txt.split x y).map .str)))
 |_,_=>False
theorem pO:∀ x ws G (Q Q':Q3),(∀ w G',Q w G'->Q' w G')->rP x ws G Q->rP x ws G Q':=by
 intro x ws G Q Q' k h;unfold rP at h ⊢
 split at h
 .exact ⟨h.1,h.2.1,fun r hr=>k _ _ (h.2.2 r hr)⟩
 .exact h.elim
theorem mR:∀ (l:List (Str×Tok)),zF ((l.map (·.1)).map V.str) (strValues l)
 | []=>.nil
 | (x,t)::l=>.cons ⟨t,rfl⟩ (mR l)
theorem zei {X:Cx}:MtR X "str.split" (lowM X.K rP):=by
 intro pins s σ H x xs v us Q I rx rxs h;obtain ⟨w,ws,G,rw1,rs,ab,h⟩:=h;unfold rP at h
 split at h
 .rename_i x' y;cases (show x=.str x' from rw1);obtain ⟨z,rfl,rz⟩:=qX rs;cases (show z=.str y from rz);obtain ⟨u,rfl,ru⟩:=jL rxs;obtain ⟨t',rfl⟩:=ru;obtain ⟨t,rfl⟩:=rx;obtain ⟨hy,hx,h⟩:=h;have hl:=uI x' y;refine wE I.tk (zcp hy (by rw[Zt];omega) (by rw[ZbL,Zt];have:=StrLaws.occ_length_le x' y 0 x'.length (x'.length+1);omega) fun l k e h0=>?_);have hn:H s.heap.objs.size=none:=I.hok.fresh (zzR _);refine ⟨.ref s.heap.objs.size,_,I.laid (o:=.lst ((Txt.split x' y).map .str)) (fun b ob q=>Zb _ q) (zzR _) ⟨by rw[zzM,Zt];omega,strValues l,0,by rw[← e];exact mR l,Zg _ rfl⟩ h0,rfl,jO ab (rR _) h _ hn⟩
 .exact h.elim
abbrev sV:Mt3:=⟨"split", "str", rP⟩
theorem zdC {q:Pr} {A:Around}:MtE (q.at A) sV/\sR sV:=⟨rC PySem.F.plainAttrs_str PySem.F.slot_str_split PySem.F.type_str_split (fun X f=>zei) pO,pO⟩
end L3
namespace L2
open PySem
theorem zgx {α:Type} {M:Model} {Γ:Ctx}:∀ (t:Sem α) (p:Pos) (s:Shared),¬ Sem.wp M Γ t (fun _ _ _=>False) (fun _ _ _=>False) p s:=by
 intro t
 induction t with
 |pure a=>intro p s z;rw[Sem.wp] at z;exact z
 |raise e=>intro p s z;rw[Sem.wp] at z;exact z
 |unsupported _=>intro p s z;rw[Sem.wp] at z;exact z
 |finish _=>intro p s z;rw[Sem.wp] at z;exact z
 |register _ _ _=>intro p s z;rw[Sem.wp] at z;exact z
 | «yield» _ _ _ _ _=>intro p s z;rw[Sem.wp] at z;exact z
 |load a part k ih=>intro p s z;rw[Sem.wp] at z;obtain ⟨o,e,z⟩:=z;exact ih o p s z
 |update a part f k ih=>intro p s z;rw[Sem.wp] at z;exact ih () p _ z.2
 |fresh k ih=>intro p s z;rw[Sem.wp] at z;exact ih _ p _ z
 |choose src m k ih=>intro p s z;rw[Sem.wp] at z;exact ih _ p _ z.2
 |genState g k ih=>intro p s z;rw[Sem.wp] at z;obtain ⟨st,e,z⟩:=z;exact ih _ p s z
 |resume g r l k ih=>intro p s z;rw[Sem.wp] at z;obtain ⟨res,s',w,z⟩:=z;exact ih _ p s' z
 |call c hd g l k ih=>intro p s z;rw[Sem.wp] at z;obtain ⟨r,s',w,z⟩:=z;exact ih _ p s' z
 |_=>first|(intro p s z;rw[Sem.wp] at z;exact z.elim)|(rename_i ih;intro p s z;rw[Sem.wp] at z;exact ih _ _ _ z)
theorem zbA {α β:Type} {M:Model} {A:Around} {t:Sem α} {s:Shared} (h:wpAny M A t (fun _ _=>False) (fun _ _=>False) s) {u:Sem β} {Q:β->Shared->Prop} {E:Value->Shared->Prop}:wpAny M A u Q E s:=fun Γ p hΓ=>(zgx t p s (h Γ p hΓ)).elim
end L2
namespace L3
open PySem PySem.Spec PyProof.Rows L2 PySem.SeqAt PySem.Builtin PySem.Builtin.Str
def dS:List (Option Str)->List Expr->Option (List Expr)
 | [],[]=>some []
 |some a::ps,.Constant (.str b) _ _::vs=>if a==b then dS ps vs else none
 |none::ps,.FormattedValue v c sp _::vs=>if (c==-1&&sp.isNone)=true then (dS ps vs).map (v::·) else none
 |_,_=>none
def tW:List (Option Str)->List Str->Str
 | [],_=>Str.empty
 |some a::ps,ts=>a++tW ps ts
 |none::ps,t::ts=>t++tW ps ts
 |none::ps,[]=>tW ps []
def fstM (ps:List (Option Str)):Scope->Expr->Option (List Expr):=fun _ e=>match e with
 | .JoinedStr (a::b::r) _=>dS ps (a::b::r)
 |_=>none
theorem zfk {ps:List (Option Str)} {sc:Scope} {e:Expr} {xs:List Expr} (h:fstM ps sc e=some xs):∃ a b r p,e=.JoinedStr (a::b::r) p/\dS ps (a::b::r)=some xs:=by
 unfold fstM at h
 split at h
 .exact ⟨_,_,_,_,rfl,h⟩
 .cases h
def ziO (env:Env):List Expr->Sem Unit
 | []=>pure ()
 |x::xs=>eval x env >>= fun _=>ziO env xs
theorem mD {X:Cx} (hx:X.xe=fun _ _=>False):∀ (xs:List Expr) (es:List E3) (pins:List (Addr×Obj)) (s:Shared) (τ:L2.St) (H:Hp) (σ:xE) (G:Hw),pA X xs es->Inv X pins τ H s->yT X.K H σ τ->xR X.K H G->rO es σ G (fun _ _=>False) ->
  wpAny 'a' X.A (ziO X.env xs) (fun _ _=>False) (fun _ _=>False) s
 | [],[],_,_,_,_,_,_,_,_,_,_,h=>h.elim
 | [],_::_,_,_,_,_,_,_,e,_,_,_,_=>e.elim
 |_::_,[],_,_,_,_,_,_,e,_,_,_,_=>e.elim
 |x::xs,e::es,pins,s,τ,H,σ,G,⟨m,pe,r⟩,I,hs,ab,h=>by
  have w:=pe pins s τ H (fun v H1=>∃ G1,yT X.K H1 σ τ/\xR X.K H1 G1/\rO es σ G1 (fun _ _=>False)) I (xH m hs ab h fun w G1 v H1 g1 hs1 rw1 a1 h=>⟨G1,hs1,a1,wM r σ G1 _ _ (fun _ _ z=>z) h⟩);rw[hx] at w;exact Za (xQ w fun v s1 ⟨_,H1,I1,_,G1,hs1,a1,h1⟩=>mD hx xs es pins s1 τ H1 σ G1 r I1 hs1 a1 h1)
theorem zgp (a b c:Str):a++b++c=a++(b++c):=by
 show (⟨(a.cps++b.cps)++c.cps⟩:Str)=⟨a.cps++(b.cps++c.cps)⟩;rw[Array.append_assoc]
theorem zkL (a:Str):a++Str.empty=a:=by
 show (⟨a.cps++#[]⟩:Str)=a;rw[Array.append_empty]
theorem zkw (a:Str):Str.empty++a=a:=by
 show (⟨#[]++a.cps⟩:Str)=a;rw[Array.empty_append]
def txW:W->Option Str
 | .str y=>some y
 | .int i=>if i.natAbs.log2<1920 then some (Str.ofString (toString i)) else none
 |_=>none
def FstK (X:Cx) (ps:List (Option Str)) (acc:Str) (H:Hp) (Q:VK) (ws:List W) (G':Hw):Prop:=∃ ts:List Str,ws.map txW=ts.map some/\acc.length+(tW ps ts).length<=1000000/\∀ H',yO X.K H H'->xR X.K H' G'->Q (.str (acc++tW ps ts)) H'
theorem zdp {X:Cx} (hx:X.xe=fun _ _=>False):∀ (ps:List (Option Str)) (vs xs:List Expr) (es:List E3) (acc:Str) (pins:List (Addr×Obj)) (s:Shared) (τ:L2.St) (H:Hp) (σ:xE) (G:Hw) (Q:VK),dS ps vs=some xs->pA X xs es->Inv X pins τ H s->yT X.K H σ τ->xR X.K H G ->
  rO es σ G (FstK X ps acc H Q)->Joins 'a' X.A X.xe (evalEach vs X.env) acc (fun out s1=>out.length<=sizeLine/\EP X pins τ Q (.str out s1.toks) { s1 with toks:=s1.toks+1 }) s:=by
 intro ps
 induction ps with
 |nil =>
  intro vs xs es acc pins s τ H σ G Q hp each I hs ab h
  cases vs with
  |cons _ _=>cases hp
  |nil =>
   cases hp
   cases es with
   |cons _ _=>exact each.elim
   |nil =>
    obtain ⟨ts,e,l,q⟩:=h;have q:=q H .refl ab;dsimp only[tW] at q l;rw[zkL] at q;exact ⟨by rw[Zt];omega,.str acc,H,I.tok _,⟨_,rfl⟩,q⟩
 |cons p ps ih =>
  intro vs xs es acc pins s τ H σ G Q hp each I hs ab h
  cases p with
  |some a =>
   obtain ⟨j,po,vs',rfl,hq⟩:∃ j po vs',vs=.Constant (.str a) j po::vs'/\dS ps vs'=some xs:=by
    unfold dS at hp
    split at hp
    .rename_i e;cases e
    .rename_i b j po vs' e;cases e
     split at hp
     .rename_i e;cases eq_of_beq e;exact ⟨_,_,_,rfl,hp⟩
     .cases hp
    .rename_i e;cases e
    .cases hp
   show wpAny _ _ (eval (.Constant (.str a) j po) X.env) _ _ s
   by_cases hl:acc.length+a.length<=1000000
   .refine Calls.Constant_str ⟨a,_,rfl,by rw[ZaT,Zt];omega,ih vs' xs es (acc++a) pins _ τ H σ G Q hq each (I.tok _) hs ab (wM each σ G _ _ (fun ws G' z=>?_) h)⟩;obtain ⟨ts,e,l,q⟩:=z;dsimp only[tW] at l q;rw[ZaT] at l;exact ⟨ts,e,by rw[ZaT];omega,fun H' g a'=>by rw[zgp];exact q H' g a'⟩
   .refine zbA (mD hx xs es pins s τ H σ G each I hs ab (wM each σ G _ _ (fun ws G' z=>?_) h));obtain ⟨ts,e,l,q⟩:=z;dsimp only[tW] at l;rw[ZaT] at l;omega
  |none =>
   obtain ⟨v,po,vs',xs',rfl,rfl,hq⟩:∃ v po vs' xs',vs=.FormattedValue v (-1) none po::vs'/\xs=v::xs'/\dS ps vs'=some xs':=by
    unfold dS at hp
    split at hp
    .rename_i e;cases e
    .rename_i e;cases e
    .rename_i v c sp po vs' e;cases e
     split at hp
     .rename_i e;simp only[Zh,beq_iff_eq,Option.isNone_iff_eq_none] at e;obtain ⟨rfl,rfl⟩:=e
      cases hq:dS ps vs' with
      |none=>rw[hq] at hp;cases hp
      |some ys=>rw[hq] at hp;cases hp;exact ⟨_,_,_,_,rfl,rfl,hq⟩
     .cases hp
    .cases hp
   cases es with
   |nil=>exact each.elim
   |cons e es =>
    obtain ⟨m,pe,r⟩:=each;show wpAny _ _ (eval (.FormattedValue v (-1) none po) X.env) _ _ s
    refine wpAny_FormattedValue_plain (xQ (pe pins s τ H (fun v' H1=>∃ w G1,wO X.K H1 w v'/\yT X.K H1 σ τ/\xR X.K H1 G1/\yO X.K H H1/\rO es σ G1 fun ws G'=>FstK X (none::ps) acc H Q (w::ws) G') I
     (xH m hs ab h fun w G1 v' H1 g1 hs1 rw1 a1 h=>⟨w,G1,rw1,hs1,a1,g1,h⟩)) fun u s1 ⟨v',H1,I1,ru,w,G1,rw1,hs1,a1,g1,h1⟩=>?_)
    by_cases hw:∃ y,txW w=some y/\acc.length+y.length<=1000000
    .obtain ⟨y,hy,hl⟩:=hw
     have go:∀ s2,Inv X pins τ H1 s2->Joins 'a' X.A X.xe (evalEach vs' X.env) (acc++y) (fun out s1=>out.length<=sizeLine/\EP X pins τ Q (.str out s1.toks) { s1 with toks:=s1.toks+1 }) s2:=fun s2 I2 =>
      ih vs' xs' es (acc++y) pins s2 τ H1 σ G1 Q hq r I2 hs1 a1 (wM r σ G1 _ _ (fun ws G' z=>by
       obtain ⟨ts,e,l,q⟩:=z
       cases ts with
       |nil=>cases e
       |cons t ts =>
        rw[zzU,zzU,hy] at e
        injection e with e1 e2
        cases e1;dsimp only[tW] at l q;rw[ZaT] at l;exact ⟨ts,e2,by rw[ZaT];omega,fun H' g a'=>by rw[zgp];exact q H' (g1.trans g) a'⟩) h1)
     have hz:(acc++y).length<=sizeLine:=by rw[ZaT,Zt];omega
     cases w with
     |str y' =>
      cases hy;cases (show v'=.str y from rw1);obtain ⟨t,rfl⟩:=ru;exact wpAny_formatField_str ⟨y,_,rfl,hz,go s1 I1⟩ ⟨y,_,rfl,hz,go _ (I1.tok _)⟩ (by rw[Zt];omega)
     |int i =>
      dsimp only[txW] at hy
      split at hy
      .rename_i hd;cases hy;cases (show v'=.int i from rw1);obtain ⟨t,rfl⟩:=ru;exact wpAny_formatField_int hd ⟨_,_,rfl,hz,go _ ((I1.tok _).tok _)⟩
      .cases hy
     |_=>cases hy
    .refine zbA (mD hx xs' es pins s1 τ H1 σ G1 r I1 hs1 a1 (wM r σ G1 _ _ (fun ws G' z=>hw ?_) h1));obtain ⟨ts,e,l,q⟩:=z
     cases ts with
     |nil=>cases e
     |cons t ts =>
      rw[zzU,zzU] at e
      injection e with e1 e2
      dsimp only[tW] at l;rw[ZaT] at l;exact ⟨t,e1,by omega⟩
def fstS (ps:List (Option Str)):RS:=fun ws G Q=>∃ ts:List Str,ws.map txW=ts.map some/\(tW ps ts).length<=1000000/\Q (.str (tW ps ts)) G
theorem zdq {ps:List (Option Str)}:wP (fstS ps):=fun ws G Q Q' k ⟨ts,e,l,h⟩=>⟨ts,e,l,k _ _ h⟩
theorem ziI {q:Pr} {A:Around} {ps:List (Option Str)}:SxE (q.at A) ⟨fstM ps,fstS ps⟩:=by
 intro X fits e xs es he each hn pa;obtain ⟨a,b,r,p,rfl,he⟩:=zfk (sc:=X.env.scope) he;refine ⟨fun pins s τ H Q I h=>?_,fun _=>rfl,fun _ _ _ z=>nomatch z⟩;obtain ⟨σ,G,hs,ab,h⟩:=h;refine wpAny_JoinedStr (zdp fits.xe ps _ xs es Str.empty pins s τ H σ G Q he each I hs ab (wM each σ G _ _ (fun ws G' z=>?_) h));obtain ⟨ts,e,l,q⟩:=z;exact ⟨ts,e,by rw[show Str.empty.length=0 from rfl];omega,fun H' g a'=>by rw[zkw];exact q _ H' g rfl a'⟩
def nG (c:Nat):List Nat->List (List Nat)
 | []=>[[]]
 |k::r=>if k=c then []::nG c r else match nG c r with
  |h::t=>(k::h)::t
  | []=>[[k]]
theorem zkE (c:Nat):∀ l,nG c l≠[]
 | []=>by simp[nG]
 |k::r=>by
  unfold nG
  split
  .simp
  .split<;>simp
theorem fN {c:Nat}:∀ {l:List Nat},c∉l->nG c l=[l]
 | [],_=>rfl
 |k::r,h=>by
  simp only[Zp,not_or] at h;unfold nG;rw[if_neg (Ne.symm h.1),fN h.2]
theorem zdM {c:Nat}:∀ (a b:List Nat),nG c (a++c::b)=nG c a++nG c b
 | [],b=>by show nG c (c::b)=[[]]++nG c b;rw[nG,if_pos rfl];rfl
 |k::a,b=>by
  show nG c (k::(a++c::b))=nG c (k::a)++nG c b;rw[nG,zdM a b,nG]
  split
  .rfl
  .cases h:nG c a with
   |nil=>exact absurd h (zkE c a)
   |cons x t=>rfl
theorem fO {c:Nat}:∀ (ps:List Str),ps≠[]->(∀ p∈ps,c∉p.cps.toList)->nG c (Str.join ⟨#[c]⟩ ps).cps.toList=ps.map (·.cps.toList)
 | [],h,_=>absurd rfl h
 | [p],_,h=>fN (h p zzT)
 |p::q::r,_,h=>by
  have ih:=fO (q::r) (by simp) fun a ha=>h a (Zk _ ha);show nG c (p++⟨#[c]⟩++Str.join ⟨#[c]⟩ (q::r)).cps.toList=_;rw[ZaW,ZaW,Zae,Zae,Zbq];show nG c (p.cps.toList++c::(Str.join ⟨#[c]⟩ (q::r)).cps.toList)=_;rw[zdM,ih,fN (h p zzT)];rfl
theorem vB (x:Str) (c:Nat):Txt.split x ⟨#[c]⟩≠[]:=by
 unfold Txt.split
 split
 .simp
 .split
  .simp
  .intro h;have:=congrArg List.length h;rw[ZbL] at this;simp at this
theorem zcq (x:Str) (c:Nat):(Txt.split x ⟨#[c]⟩).map (·.cps.toList)=nG c x.cps.toList:=by
 have h:=fO (c:=c) (Txt.split x ⟨#[c]⟩) (vB x c) (StrLaws.split_free x c);rw[StrLaws.join_split] at h;exact h.symm
theorem zej (x:Str) (c:Nat):Txt.split x ⟨#[c]⟩=(nG c x.cps.toList).map fun l=>⟨l.toArray⟩:=by
 rw[← zcq,ZO]
 conv=>lhs;rw[← List.map_id (Txt.split x ⟨#[c]⟩)]
 exact Zaf fun a _=>by simp
theorem zbl {c k:Nat} (z:Str):∀ (ps:List Str),k∈(Str.join z ps).cps.toList->k∈z.cps.toList\/∃ p∈ps,k∈p.cps.toList
 | [],h=>by cases h
 | [p],h=>.inr ⟨p,zzT,h⟩
 |p::q::r,h=>by
  replace h:k∈(p++z++Str.join z (q::r)).cps.toList:=h;rw[ZaW,ZaW,Zae,Zae,ZE,ZE] at h;rcases h with (h|h)|h
  .exact .inr ⟨p,zzT,h⟩
  .exact .inl h
  .rcases zbl (c:=c) z (q::r) h with h|⟨y,h1,h2⟩
   .exact .inl h
   .exact .inr ⟨y,Zk _ h1,h2⟩
end L3
namespace L3
open PySem PySem.Spec PyProof.Rows L2 PySem.SeqAt
namespace RI
theorem s_next:Slot "reversed" "__next__" "reversed.__next__" :=
 .of (owner := "reversed") (n := "__next__") (by rw[Zaj,ZW];kernel_rfl) (by decide +kernel) (by decide +kernel) (by decide +kernel) (by first|exact .inl (by decide +kernel)|exact .inr (by decide +kernel)) (by rw[Za8];kernel_rfl)
theorem s_iter:Slot "reversed" "__iter__" "reversed.__iter__" :=
 .of (owner := "reversed") (n := "__iter__") (by rw[Zaj,ZW];kernel_rfl) (by decide +kernel) (by decide +kernel) (by decide +kernel) (by first|exact .inl (by decide +kernel)|exact .inr (by decide +kernel)) (by rw[Za8];kernel_rfl)
theorem ziT:Slot "reversed" "__init__" "object.__init__" :=
 .of (owner := "object") (n := "__init__") (by rw[Zaj,ZW];kernel_rfl) (by decide +kernel) (by decide +kernel) (by decide +kernel) (by first|exact .inl (by decide +kernel)|exact .inr (by decide +kernel)) (by rw[Za8];kernel_rfl)
theorem e_next:entryFor table "reversed.__next__" = some Builtin.«reversed.__next__»:=entryFor_of_tree (by kernel_rfl)
theorem e_iter:entryFor table "reversed.__iter__" = some Builtin.«dict_keyiterator.__iter__» :=
 entryFor_alias (id' := "dict_keyiterator.__iter__") (by kernel_rfl) rfl (by decide +kernel) (by kernel_rfl)
theorem a_next (a:Value):argsOk "reversed.__next__" ⟨[a],[]⟩:=by unfold argsOk;kernel_rfl
theorem a_iter (a:Value):argsOk "reversed.__iter__" ⟨[a],[]⟩:=by unfold argsOk;kernel_rfl
theorem called:TypeCalled "reversed" "reversed.__new__" "object.__init__" :=
 ⟨by decide +kernel,PySem.F.create_reversed,⟨_,_,PySem.F.mro_reversed⟩,PySem.F.made_reversed,by decide +kernel,PySem.F.sub_reversed_self,ziT⟩
theorem no_rev:typeLookup (.type "tuple") "__reversed__" = pure none:=by rw[Zaj,ZW];kernel_rfl
theorem no_dict:isSubtype (.type "tuple") (.type "dict")=pure false:=by rw[Za8];kernel_rfl
theorem item:typeLookup (.type "tuple") "__getitem__" = pure (some (.builtin "tuple.__getitem__")):=by rw[Zaj,ZW];kernel_rfl
theorem no_len:typeLookup (.type "reversed") "__len__" = pure none:=by rw[Zaj,ZW];kernel_rfl
theorem hint:typeLookup (.type "reversed") "__length_hint__" = pure (some (.builtin "reversed.__length_hint__")):=by rw[Zaj,ZW];kernel_rfl
theorem s_hint:Slot "reversed" "__length_hint__" "reversed.__length_hint__" :=
 .of (owner := "reversed") (n := "__length_hint__") hint (by decide +kernel) (by decide +kernel) (by decide +kernel) (by first|exact .inl (by decide +kernel)|exact .inr (by decide +kernel)) (by rw[Za8];kernel_rfl)
theorem e_hint:entryFor table "reversed.__length_hint__" = some Builtin.«reversed.__length_hint__»:=entryFor_of_tree (by kernel_rfl)
theorem a_hint (a:Value):argsOk "reversed.__length_hint__" ⟨[a],[]⟩:=by unfold argsOk;kernel_rfl
end RI
abbrev rvO (l:Addr) (i:Int):Obj:={ cls:=.type "reversed", data:=.fields #[.ref l,rawInt i] }
section
variable {prog:Program} {w:World} {A:Around} {E:Value->Shared->Prop} {s:Shared} {l I:Addr} {items:Array Value}
theorem ziX {Q:Value->Shared->Prop} (hl:IsTup s.heap l items) (hz:(items.size:Int)<2 ^ 63) (h:Q (.ref s.heap.objs.size) { s with heap:=s.heap.push (rvO l ((items.size:Int)-1)),toks:=s.toks+1+1 }) :
  codeAny (model prog w) A (.call (.builtin "reversed.__new__") ⟨[.type "reversed", .ref l],[]⟩) (wants Q E) s:=by
 refine Zct ?_;refine Za (m:=checkBuiltinCall "reversed.__new__" _) (Zbe (PySem.F.newCall_reversed_1 _) (Zc ⟨ZaS PySem.F.plain_reversed_new _,Zbm PySem.F.entry_reversed_new ?_⟩));rw[ZaE PySem.F.plain_reversed_new _];unfold Builtin.«reversed.__new__»;refine Za (Zbe (newClass_reversed _) ?_)
 try dsimp only
 refine Za (Zbe (a:=()) (by first|rfl|kernel_rfl) ?_);refine Za (Zbe (a:=()) (by first|rfl|kernel_rfl) ?_)
 try dsimp only
 refine Za (Zak hl.typeIs RI.no_rev ?_)
 try dsimp only
 refine Za (Za (m:=isInstance (.ref l) (.type "dict")) (Zbc (b:=false) hl.typeIs RI.no_dict ?_));rw[if_neg zzN];refine Za (m:=specialOf (.ref l) (Str.ofString "__getitem__")) (Zak hl.typeIs RI.item ?_)
 try dsimp only
 rw[if_pos (by decide +kernel)];refine Zc ?_;rw[if_neg (by decide)];refine Za (len_tuple hl hz ?_);refine Za (m:=asInt? _) (Zc ?_)
 try dsimp only
 exact Za (m:=newObj (.type "reversed") (.fields #[.ref l,rawInt ((items.size:Int)-1)])) (ZN (Zc h))
theorem zgT {Q:Value->Shared->Prop} (hl:IsTup s.heap l items) (hz:(items.size:Int)<2 ^ 63) (h:Q (.ref s.heap.objs.size) { s with heap:=s.heap.push (rvO l ((items.size:Int)-1)),toks:=s.toks+1+1 }) :
  wpAny (model prog w) A (call (.type "reversed") [.ref l]) Q E s:=by
 refine Zcw (Q₁:=fun obj s₁=>s₁.TypeIs obj "reversed" /\ Q obj s₁) RI.called (PySem.F.typeCall_reversed_1 _) PySem.F.entry_object_init
  (ziX hl hz ⟨⟨_,Zg _ rfl,rfl⟩,h⟩) fun obj s₁ h₁=>?_
 exact ⟨h₁.1,PySem.F.args_object_init_2 obj _,object_init_meets RI.called.init.lookup RI.called.made (by decide) prog w A.in1 _ s₁ ⟨h₁.1,rfl,h₁.2⟩⟩
theorem zgQ {i:Nat} {x:Value} {Q:Option Value->Shared->Prop} (hI:s.heap.get? I=some (rvO l (i:Int))) (hl:IsTup s.heap l items) (hz:(items.size:Int)<2 ^ 63) (hx:items[i]?=some x)
  (h:Q (some x) { s with heap:=s.heap.update I (Obj.mapFields (·.setIfInBounds 1 (rawInt ((i:Int)-1)))),toks:=s.toks+1 }):wpAny (model prog w) A (pyNext (.ref I)) Q E s:=by
 have hT:s.TypeIs (.ref I) "reversed" := ⟨_,hI,rfl⟩;have hi:i<items.size:=(ZX.mp hx).1;unfold pyNext;refine Za (ZaU (ZQ (name:=Str.ofString "__next__") hT RI.s_next (ZM RI.s_next hT RI.e_next ?_ (RI.a_next _))));unfold Builtin.«reversed.__next__»;refine Za (m:=slotArgs "__next__" 0 _) (Zc ?_);refine Za (ZF hI rfl (x:=.ref l) rfl ?_);refine Za (ZF hI rfl (x:=rawInt (i:Int)) rfl ?_);show wpAny _ _ (if (i:Int)<0 then _ else _) _ _ s;rw[if_neg (by omega)];refine Za (Zak hl.typeIs RI.item ?_);rw[if_neg (by decide)];refine Za (wpAny_mkInt (Za (ZaU (getItem_tuple (s:={ s with toks:=s.toks+1 }) hl (by omega) (by omega) (j:=i) (by unfold seqIndex?;split<;>simp<;>omega) hx ?_))))
 try dsimp only
 refine Za (ZF (s:={ s with toks:=s.toks+1 }) hI rfl (x:=rawInt (i:Int)) rfl ?_);show wpAny _ _ (setField (.ref I) 1 (rawInt ((i:Int)-1)) >>= fun _=>ret x) _ _ _;exact Za (ZaD (s:={ s with toks:=s.toks+1 }) hI rfl (by simp) (Zc ⟨x,rfl,Zc h⟩))
theorem ziY {Q:Option Value->Shared->Prop} (hh:A.handled=none) (hI:s.heap.get? I=some (rvO l (-1)))
  (h:∀ s',Moved [I] Gs s s'->Q none s'):wpAny (model prog w) A (pyNext (.ref I)) Q E s:=by
 have hT:s.TypeIs (.ref I) "reversed" := ⟨_,hI,rfl⟩;unfold pyNext;refine Za (ZaU (ZQ (name:=Str.ofString "__next__") hT RI.s_next (ZM RI.s_next hT RI.e_next ?_ (RI.a_next _))));unfold Builtin.«reversed.__next__»;refine Za (m:=slotArgs "__next__" 0 _) (Zc ?_);refine Za (ZF hI rfl (x:=.ref l) rfl ?_);refine Za (ZF hI rfl (x:=rawInt (-1)) rfl ?_);show wpAny _ _ (if (-1:Int)<0 then _ else _) _ _ s;rw[if_pos (by decide)];refine Za (ZbG ?_);have h2:=ZD (Obj.mapFields (·.setIfInBounds 1 (rawInt (-1)))) hI rfl;refine Za (Za (m:=setField (.ref I) 1 (rawInt (-1))) (ZaD hI rfl (by simp) (ZaD h2 rfl (by simp) ?_)));refine Za (m:=Builtin.SmallTypes.stopIteration) (Z2 (zgK (β:=Unit) (show A.in1.handled=none from hh) (Q:=fun _ _=>False) (Er:=fun e s'=>s'.TypeIs e "StopIteration" /\ Q none s') fun h' e k hT=>⟨hT,h _ (Moved.more (Moved.trans (fun _ _ _ h1 h2=>h2.trans h1) rB rB) k)⟩) (fun _ _ (z:False)=>z.elim) fun e s' z=>?_);exact Za (Zbc (T := "StopIteration") (b:=true) z.1 isSubtype_stop (Zc z.2))
theorem zgP (hh:A.handled=none) (hne:l≠I) (hz:(items.size:Int)<2 ^ 63) :
  WalksS prog w A I [I,l] [I] Gs items.size (fun i v=>items[items.size-1-i]?=some v) (fun i s=>i<=items.size/\s.heap.get? I=some (rvO l ((items.size:Int)-1-(i:Int)))/\IsTup s.heap l items) where
 sub:=fun b hb=>by simp only[ZG] at hb;simp[hb]
 grefl:=fun _=>rfl
 gtrans:=fun _ _ _ h1 h2=>h2.trans h1
 frame:=fun i s h' tk st _ k=>⟨st.1,k I (by simp) _ st.2.1,let ⟨o,ho,r⟩:=st.2.2;⟨o,k l (by simp) o ho,r⟩⟩
 item:=fun i s Q E hi st q=>by
  obtain ⟨h0,h1,h2⟩:=st;have e:(items.size:Int)-1-(i:Int)=((items.size-1-i:Nat):Int):=by omega
  rw[e] at h1;have hx:items[items.size-1-i]?=some (items[items.size-1-i]'(by omega)):=Za7 (by omega);have hu:=ZD (Obj.mapFields (·.setIfInBounds 1 (rawInt (((items.size-1-i:Nat):Int)-1)))) h1 rfl;have e2:((items.size-1-i:Nat):Int)-1=(items.size:Int)-1-((i+1:Nat):Int):=by omega
  refine zgQ h1 h2 hz hx (q _ _ hx ⟨hi,by rw[e2] at hu ⊢;exact hu,let ⟨o,ho,r⟩:=h2;⟨o,(Zq _ _ hne.symm).trans ho,r⟩⟩ ?_);exact (rB (s:=s) (I:=I)).then_heap (Zcx _) fun b o _ e=>e
 done:=fun s Q E st q=>by
  obtain ⟨h0,h1,h2⟩:=st;have e:(items.size:Int)-1-(items.size:Int)=-1:=by omega
  rw[e] at h1;exact ziY hh h1 q
 self:=fun i s Q E st q=>by
  have hT:s.TypeIs (.ref I) "reversed" := ⟨_,st.2.1,rfl⟩;refine wpAny_pyIter_slot hT RI.s_iter (ZM RI.s_iter hT RI.e_iter ?_ (RI.a_iter _));show wpAny (model prog w) _ (ret (.ref I)) _ _ s;exact Zc ⟨_,rfl, "reversed", _,hT,RI.s_next.lookup,q⟩
theorem zew {Q:Bool->Shared->Prop} (hI:s.heap.get? I=some (rvO l ((items.size:Int)-1))) (hl:IsTup s.heap l items) (hn:items.size<=sizeLine)
  (h:∀ b tk,s.toks<=tk->Q b { s with toks:=tk }):wpAny (model prog w) A (Builtin.List.listLengthHint (.ref I)) Q E s:=by
 have hz:(items.size:Int)<2 ^ 63:=by rw[Zt] at hn;omega
 have hT:s.TypeIs (.ref I) "reversed" := ⟨_,hI,rfl⟩;unfold Builtin.List.listLengthHint;refine Za (Zak hT RI.no_len ?_);show wpAny _ A (specialOf (Value.ref I) (Str.ofString "__length_hint__") >>= _) _ _ _;refine Za (Zak hT RI.hint ?_)
 (generalize hid:("reversed.__length_hint__" : String)=id0;(fail_if_success (clear hid id0));wp_delta;rw[show splitId id0=some ("reversed", "__length_hint__") from by subst hid;decide +kernel];subst hid)
 refine Za (Zbc (b:=true) hT PySem.F.sub_reversed_self ?_);rw[if_neg (by decide)];rw[if_neg (by decide +kernel)];refine Za (ZbG ?_);refine Za (Zbe (RI.s_hint.bind _) ?_)
 try dsimp only
 refine Za (ZaU (ZM RI.s_hint hT RI.e_hint ?_ (RI.a_hint _)));unfold Builtin.«reversed.__length_hint__»;refine Za (m:=selfOnly _ _) (Zc ?_);refine Za (ZF hI rfl (x:=.ref l) rfl ?_);rw[if_neg (show ¬ ((Value.ref l==Value.none)=true) from zzN)];refine Za (len_tuple hl hz ?_);refine Za (m:=asInt? _) (Zc ?_)
 try dsimp only
 refine Za (ZF (s:={ s with toks:=s.toks+1+1 }) hI rfl (x:=rawInt ((items.size:Int)-1)) rfl ?_);show wpAny _ _ (if (items.size:Int)<(items.size:Int)-1+1 then _ else _) _ _ _;rw[if_neg (by omega)];refine Za (m:=mkInt _) (wpAny_mkInt (Zc ⟨_,rfl,?_⟩));refine Za (m:=asInt? _) (Zc ?_)
 try dsimp only
 have e:(items.size:Int)-1+1=items.size:=by omega
 rw[e,if_neg (by simp[Builtin.List.listFitsIndex];omega),if_neg (by omega),if_neg (by simp[Builtin.List.listTooLong];omega)];exact Zc (h _ _ (by omega))
theorem zgS {Q:List Value->Shared->Prop} (hh:A.handled=none) (hI:s.heap.get? I=some (rvO l ((items.size:Int)-1))) (hl:IsTup s.heap l items) (hne:l≠I) (hn:items.size<=sizeLine)
  (hQ:∀ s' acc,Moved [I] Gs s s'->ItemsOf (fun i v=>items[items.size-1-i]?=some v) acc items.size->Q acc.toList s'):wpAny (model prog w) A (collect (.ref I)) Q E s:=by
 have hz:(items.size:Int)<2 ^ 63:=by rw[Zt] at hn;omega
 have W:=zgP (prog:=prog) (w:=w) (A:=A.in1) (items:=items) hh hne hz;have hst:(fun (i:Nat) (s:Shared)=>i<=items.size/\s.heap.get? I=some (rvO l ((items.size:Int)-1-(i:Int)))/\IsTup s.heap l items) 0 s:=⟨Zan _,by rw[hI];simp,hl⟩
 have hfp:∀ b∈[I,l],b<s.heap.objs.size:=fun b hb=>by
  simp only[Zp,ZL,or_false] at hb;rcases hb with rfl|rfl
  .exact Zd hI
  .exact hl.lt
 have hSf:s.heap.objs.size∉[I,l]:=fun hm=>Zai _ (hfp _ hm);have hSI:s.heap.objs.size≠I:=fun e=>hSf (e▸zzT);unfold collect;refine Za (wpAny_runValue (Zbm PySem.F.entry_proto_collect ?_));rw[ZaE PySem.F.plain_proto_collect _];refine Za (m:=newList []) (ZN ?_);refine Zc ⟨ZaS PySem.F.plain_list_iadd _,Zbm PySem.F.entry_list_iadd ?_⟩;rw[ZaE PySem.F.plain_list_iadd _];have st1:=W.frame 0 s (s.heap.push { cls:=.type "list", data:=.seq ([]:List Value).toArray }) s.toks hst (zzR _) fun b _ o e=>Zb _ e;have hS1:(s.heap.push { cls:=.type "list", data:=.seq ([]:List Value).toArray }).get? s.heap.objs.size=some { cls:=.type "list", data:=.seq ([]:List Value).toArray }:=Zg _ rfl;have hT:Shared.TypeIs { s with heap:=s.heap.push { cls:=.type "list", data:=.seq ([]:List Value).toArray } } (.ref I) "reversed" := ⟨_,st1.2.1,rfl⟩;have h1:Builtin.List.listSameRef (.ref s.heap.objs.size) (.ref I)=false:=by simp[Builtin.List.listSameRef,hSI]
 show wpAny _ A.in1 (Builtin.List.listExtendWith (.ref s.heap.objs.size) (.ref I) (.ref s.heap.objs.size)) _ _ _;unfold Builtin.List.listExtendWith;refine Za (Zbh hT ?_);rw[if_neg (by rw[h1];decide)];refine Za (W.self 0 _ _ _ st1 ?_);refine Za (ZR (zew (by rw[st1.2.1];simp) st1.2.2 hn fun room tk htk=>?_));have st2:=W.frame 0 _ (s.heap.push { cls:=.type "list", data:=.seq ([]:List Value).toArray }) tk st1 htk fun b _ o e=>e
 cases room with
 |true =>
  dsimp only;refine ite_c rfl ?_;refine Za (ZbG ?_);refine Za (m:=Builtin.List.listTouch (.ref s.heap.objs.size)) ?_;show wpAny (model prog w) A.in1 (updateSeq s.heap.objs.size (·.push .none) >>= fun _=>updateSeq s.heap.objs.size (·.pop)) _ _ _;refine Za (Za3 hS1 rfl ?_);have hD3:=ZD (Obj.mapSeq (·.push Value.none)) hS1 rfl;refine Za3 hD3 rfl ?_;have hD4:=ZD (Obj.mapSeq (·.pop)) hD3 rfl
  have oth:∀ b u,b≠s.heap.objs.size->(s.heap.push { cls:=.type "list", data:=.seq ([]:List Value).toArray }).get? b=some u->(((s.heap.push { cls:=.type "list", data:=.seq ([]:List Value).toArray }).update s.heap.objs.size (Obj.mapSeq (·.push Value.none))).update s.heap.objs.size (Obj.mapSeq (·.pop))).get? b=some u :=
   fun b u hb e=>(Zq _ _ (Ne.symm hb)).trans ((Zq _ _ (Ne.symm hb)).trans e)
  refine Zc ⟨ZaS PySem.F.plain_extend_loop _,codeAny_extend_loopS W hn _ hSf _ items.size 0 _ _ _ rfl (Zan _) ⟨Zan _,oth _ _ hSI.symm st1.2.1,let ⟨o,ho,r⟩:=st1.2.2;⟨o,oth _ _ (Zj hl.lt) ho,r⟩⟩ hD4 (ItemsOf.nil _) fun s' acc c hm hS' hacc=>?_⟩;show wpAny _ A (load s.heap.objs.size >>= _) _ _ s';refine Za (ZcE hS' (Zc (hQ s' acc ⟨fun b o hb e=>?_,hm.gens,hm.drawn,hm.os,Zn htk hm.toks⟩ hacc)));have hb2:b≠s.heap.objs.size:=Zj (Zd e);exact hm.heap b o (by simp only[Zp,ZL,or_false,not_or] at hb ⊢;exact ⟨hb2,hb⟩) (oth b o hb2 (Zb _ e))
 |false =>
  dsimp only;rw[if_neg (by decide +kernel)];refine Zc ⟨ZaS PySem.F.plain_extend_loop _,codeAny_extend_loopS W hn _ hSf _ items.size 0 _ _ _ rfl (Zan _) st2 hS1 (ItemsOf.nil _) fun s' acc c hm hS' hacc=>?_⟩;show wpAny _ A (load s.heap.objs.size >>= _) _ _ s';refine Za (ZcE hS' (Zc (hQ s' acc ⟨fun b o hb e=>?_,hm.gens,hm.drawn,hm.os,Zn htk hm.toks⟩ hacc)));have hb2:b≠s.heap.objs.size:=Zj (Zd e);exact hm.heap b o (by simp only[Zp,ZL,or_false,not_or] at hb ⊢;exact ⟨hb2,hb⟩) (Zb _ e)
theorem zev {Q:Value->Shared->Prop} (hh:A.handled=none) (hI:s.heap.get? I=some (rvO l ((items.size:Int)-1))) (hl:IsTup s.heap l items) (hne:l≠I) (hn:items.size<=sizeLine)
  (h:∀ s',Moved [I] Gs s s'->Q (.ref s'.heap.objs.size) { s' with heap:=s'.heap.push { cls:=.type "tuple", data:=.seq items.toList.reverse.toArray } }):wpAny (model prog w) A (call (.type "tuple") [.ref I]) Q E s:=by
 have hTI:s.TypeIs (.ref I) "reversed" := ⟨_,hI,rfl⟩
 refine Zcw (Q₁:=fun obj s₁=>s₁.TypeIs obj "tuple" /\ Q obj s₁) ZbD (PySem.F.typeCall_tuple_1 _) PySem.F.entry_object_init ?_ fun obj s₁ h₁ =>
  ⟨h₁.1,PySem.F.args_object_init_2 obj _,object_init_meets ZbD.init.lookup ZbD.made (by decide) prog w A.in1 _ s₁ ⟨h₁.1,rfl,h₁.2⟩⟩
 refine Zct ?_;refine Za (m:=checkBuiltinCall "tuple.__new__" _) (Zbe (PySem.F.newCall_tuple_1 _) (Zc ⟨ZaS PySem.F.plain_tuple_new _,Zbm PySem.F.entry_tuple_new ?_⟩));rw[ZaE PySem.F.plain_tuple_new _];have hsub:=sub_tuple_self;have hinit:=init_tuple_lookup;have hmh:=madeHere_tuple
 wp_walk using Zbh hTI,zgS (A:=A.in1.in1) hh hI hl hne hn
 intro s' acc hm hacc
 have e:acc.toList=items.toList.reverse:=by
  refine List.ext_getElem? fun i=>?_
  by_cases hi:i<items.size
  .have h1:i<acc.toList.length:=by rw[ZB,hacc.1];exact hi
   rw[Zbu (by simpa using hi),Zl h1];have:=hacc.2 i acc.toList[i] (by rw[← ZaY];exact Zl h1);rw[ZB,ZaY];exact this.symm
  .rw[Za0 (by rw[ZB,hacc.1];omega),Za0 (by simp;omega)]
 show wpAny _ _ (Builtin.Tuple.tupleExact acc.toList.toArray >>= fun v=>ret v) _ _ _;rw[e];unfold Builtin.Tuple.tupleExact;refine Za (ZN ?_ (by show items.toList.reverse.toArray.size<=sizeLine;simpa using hn));exact Zc ⟨⟨_,Zg _ rfl,rfl⟩,h s' hm⟩
end
section
variable {X:Cx}
def trM:Scope->Expr->Option (List Expr):=fun sc e=>match e with
 | .Call (.Name o _) [.Call (.Name x _) [a] [] _] [] _=>if (o==("tuple" : Str)&&x==("reversed" : Str)&&qB sc o&&qB sc x)=true then some [a] else none
 |_=>none
def trS:RS:=fun ws G Q=>match ws with
 | [.tup xs]=>Q (.tup xs.reverse) G
 |_=>False
theorem za1:wP trS:=by
 intro ws G Q Q' k h;unfold trS at h ⊢
 split at h
 .exact k _ _ h
 .exact h.elim
theorem zgD {sc:Scope} {e:Expr} {xs:List Expr} (h:trM sc e=some xs):∃ qo q pos pos' a,xs=[a]/\e=.Call (.Name "tuple" qo) [.Call (.Name "reversed" q) [a] [] pos] [] pos'/\qB sc "tuple" = true/\qB sc "reversed" = true:=by
 unfold trM at h
 split at h
 .rename_i o qo x q a pos pos'
  split at h
  .rename_i hb;obtain ⟨⟨⟨h1,h2⟩,h3⟩,h4⟩:=bd4 hb;cases eq_of_beq h1;cases eq_of_beq h2;cases h;exact ⟨qo,q,pos,pos',a,rfl,rfl,h3,h4⟩
  .cases h
 .cases h
theorem tr_ok {pins:List (Addr×Obj)} {σ:L2.St} {H:Hp} {s:Shared} {vs:List V} {us:List Value} {Q:VK} (hh:X.A.handled=none) (I:Inv X pins σ H s) (r:zF vs us) (h:vS X.K trS vs H Q) :
  wpAny 'a' X.A (call (.type "reversed") us) (fun v s1=>wpAny 'a' X.A (call (.type "tuple") [v]) (EP X pins σ Q) X.xe s1) X.xe s:=by
 obtain ⟨ws,G,rs,ab,h⟩:=h;unfold trS at h
 split at h
 .rename_i xs;obtain ⟨v,rfl,rv⟩:=qX rs;obtain ⟨u,rfl,ru⟩:=jL r;obtain ⟨p,vs2,rfl,sq,rr⟩:=rv;cases (show u=Value.ref p from ru);obtain ⟨its,vv,ht,hz⟩:=I.tuple sq;have hln:its.toArray.size<=sizeLine:=by rw[zzS,← vv.length];exact hz
  have hlt:p<s.heap.objs.size:=ht.lt;refine zgT ht (by rw[Zt] at hln;omega) ?_;refine wE (ZI _) (zev (items:=its.toArray) (l:=p) hh (Zg _ rfl) (ht.push _) (Zj hlt) hln fun s' hm h0=>?_);have wt:Went s s':=⟨fun b o e=>hm.heap b o (by simp only[ZG];exact Zj (Zd e)) (Zb _ e),hm.gens,hm.os⟩;have I1:Inv X pins σ H s':=wt.inv I (t:=s'.toks) h0;have hn:=I1.hok.fresh (zzR _);refine ⟨.ref _,_,I1.laid (t':=s'.toks) (o:=.tup vs2.reverse) (fun b ob q=>Zb _ q) (zzR _) ⟨by rw[Z7];exact hz,its.reverse,vv.reverse,Zcl _ _⟩,rfl,?_⟩;exact vU ab rr.reverse h _ hn
 .exact h.elim
theorem sx_tr {q:Pr} {A:Around} (h1:q.mg "tuple" = none) (h2:q.mg "reversed" = none):SxE (q.at A) ⟨trM,trS⟩:=by
 intro X fits e xs es he each hn pa;obtain ⟨qo,qq,pos,pos',a,rfl,rfl,g1,g2⟩:=zgD he;obtain ⟨gl1,d1,n1⟩:=uR (X:=X) rfl g1;obtain ⟨gl2,d2,n2⟩:=uR (X:=X) rfl g2;have m1:X.mg "tuple" = none:=by rw[fits.mg];exact h1
 have m2:X.mg "reversed" = none:=by rw[fits.mg];exact h2
 refine ⟨fun pins s σ H Q I h=>?_,fun _=>rfl,fun _ _ _ z=>nomatch z⟩;obtain ⟨s1,s2⟩:=xW (env:=X.env) (pos:=pos) hn;have h':=nI (wM each) za1 h;refine ZP (vQ (u:=.type "tuple") I gl1 m1 (by decide +kernel) ?_ n1 d1);refine ZU (e:=.Call (.Name "reversed" qq) [a] [] pos) (rest:=[]) ?_ rfl rfl;show wpAny _ _ (spliced ((false,eval (.Call (.Name "reversed" qq) [a] [] pos) X.env)::backTo pos' (starEach [] X.env))) _ _ s;refine ZbP (ZP (vQ (u:=.type "reversed") I gl2 m2 (by decide +kernel) (ZU (xQ (pa pos pins s σ H _ I h') fun us s1 ⟨vs,H1,I1,r1,q1⟩=>?_) s1 s2) n2 d2));exact xQ (tr_ok (I1.ok.hd fits.calm) I1 r1 q1) fun v s2 z=>Zb1 z
end
end L3
namespace L3
open PySem PySem.Spec PyProof.Rows L2 HT
section
variable {prog:Program} {w:World} {A:Around} {E:Value->Shared->Prop} {s:Shared}
theorem zgj {f:Nat->Option Value} {g:Nat->Value}:∀ {l:List Nat},(∀ m∈l,f m=some (g m))->l.filterMap f=l.map g
 | [],_=>rfl
 |a::l,h=>by
  rw[List.filterMap_cons_some (h a zzT),zzU,zgj fun m hm=>h m (Zk _ hm)]
theorem za6 (xs:Array Value):((List.range xs.size).filterMap fun (m:Nat)=>xs[(((xs.size:Int)-1)+(m:Int) * (-1)).toNat]?).toArray=xs.toList.reverse.toArray:=by
 congr 1;rw[zgj (g:=fun m=>xs.toList.reverse.getD m Value.none)]
 .have:=gK Value.none xs.toList.reverse;rw[Z7,ZB] at this;exact this
 .intro m hm;have hm:m<xs.size:=ZH.mp hm;have e1:(((xs.size:Int)-1)+(m:Int) * (-1)).toNat=xs.size-1-m:=by omega
  have h2:xs.size-1-m<xs.size:=by omega
  rw[e1,Za7 h2,List.getD_eq_getElem?_getD,Zbu (by simpa using hm)];simp[h2]
theorem zcz {sl:Addr} {n:Nat} {t:Tok} {Q:Int×Int×Nat->Shared->Prop} (hs:s.heap.IsSliceOf sl .none .none (.int (-1) t)) (h:Q ((n:Int)-1,-1,n) s):wpAny (model prog w) A (Builtin.Slice.sliceApplied (.ref sl) (pure (n:Int))) Q E s:=by
 obtain ⟨os,hos,hcs,hds⟩:=id hs;unfold Builtin.Slice.sliceApplied Builtin.Slice.sliceFields;refine Za (Za (ZF hos hds (x:=.none) rfl (Za (ZF hos hds (x:=.none) rfl (Za (ZF hos hds (x:=.int (-1) t) rfl (Zc ?_)))))));refine Za (slicePart_int ?_);show wpAny (model prog w) _ (if ((-1:Int)==0)=true then _ else _) _ _ s;rw[if_neg (by decide)];refine Za (ZbZ (Za (ZbZ (Za (Zc ?_)))))
 have e:Builtin.Slice.slicePlaces ((n:Int)-1) (-1) (-1)=n:=by
  unfold Builtin.Slice.slicePlaces;rw[if_neg (by decide),show (-(-1):Int)=1 from rfl,Zck]
  split<;>omega
 show wpAny (model prog w) _ (pure ((n:Int)-1,(-1:Int),Builtin.Slice.slicePlaces ((n:Int)-1) (-1) (-1))) _ _ s;rw[e];exact Zc h
theorem zhK {t sl:Addr} {items:Array Value} {tk:Tok} {Q:Value->Shared->Prop} (ht:IsTup s.heap t items) (hs:s.heap.IsSliceOf sl .none .none (.int (-1) tk)) (hsz:items.size<=sizeLine)
  (h:Q (.ref s.heap.objs.size) { s with heap:=s.heap.push { cls:=.type "tuple", data:=.seq items.toList.reverse.toArray } }):wpAny (model prog w) A (getItem (.ref t) (.ref sl)) Q E s:=by
 obtain ⟨os,hos,hcs,hds⟩:=id hs;have hTs:s.TypeIs (.ref sl) "slice" := ⟨os,hos,hcs⟩
 have hok:sizeOk (.seq items.toList.reverse.toArray):=by
  show items.toList.reverse.toArray.size<=sizeLine;rw[zzS,Z7,ZB];exact hsz
 unfold getItem
 try with_reducible refine ZR ?_
 first|refine Za (Zc ?_)|skip
 refine Za (Zbt ht.typeIs (by decide) ?_);refine Za (ZQ (name:=Str.ofString "__getitem__") ht.typeIs Zy (ZM Zy ht.typeIs ZbK ?_ (ZbW _ _)));refine Za (m:=Builtin.Tuple.tupleItemsOf (.ref t)) (ZcD ht ?_);refine Za (Zbh hTs ?_);rw[if_pos (by decide)];refine Za (zcz hs ?_);dsimp only;rw[if_neg (by simp),za6]
 first
  |exact Za (m:=Builtin.Tuple.tupleExact _) (ZN (Zc ⟨_,rfl,Zc h⟩) hok)
  |exact Za (Za (m:=Builtin.Tuple.tupleExact _) (ZN (Zc ⟨_,rfl,Zc h⟩) hok))
end
def rvM:Scope->Expr->Option (List Expr):=fun _ e=>match e with
 | .Subscript l (.Slice none none (some (.UnaryOp .USub (.Constant (.int i) _ _) _)) _) _=>if i=1 then some [l] else none
 |_=>none
def rvS:RS:=fun ws G Q=>match ws with
 | [.tup xs]=>Q (.tup xs.reverse) G
 | [.ref p]=>∃ xs,yU G p=some xs/\∀ r,G r=none->Q (.ref r) (put G r (.lst xs.reverse))
 |_=>False
theorem zex:wP rvS:=by
 intro ws G Q Q' k h;unfold rvS at h ⊢
 split at h
 .exact k _ _ h
 .obtain ⟨xs,e,h⟩:=h;exact ⟨xs,e,fun r hr=>k _ _ (h r hr)⟩
 .exact h.elim
theorem zeM (xs:Array Value):slicePick xs none none (some (-1))=xs.toList.reverse.toArray:=by
 rw[← za6];unfold slicePick sliceBounds sliceRange;congr 1;simp only[Option.getD_some,show ¬ ((-1:Int) > 0) by decide,if_false]
 have e:(if (xs.size:Int)-1 > -1 then ((xs.size:Int)-1 - -1 - -1-1) / - -1 else 0).toNat=xs.size:=by
  rw[show (- -1:Int)=1 from rfl,Zck]
  split<;>omega
 rw[e,ZbS];congr 1
 funext m
 show xs[(((xs.size:Int)-1)+(-1) * (m:Int)).toNat]?=_;rw[Int.mul_comm]
theorem zgU {sc:Scope} {e:Expr} {xs:List Expr} (h:rvM sc e=some xs):∃ l a p1 p3 p2 pos,e=.Subscript l (.Slice none none (some (.UnaryOp .USub (.Constant (.int 1) a p1) p3)) p2) pos/\xs=[l]:=by
 unfold rvM at h
 split at h
 .rename_i l i a p1 p3 p2 pos
  split at h
  .rename_i hb;subst hb;cases h;exact ⟨l,a,p1,p3,p2,pos,rfl,rfl⟩
  .cases h
 .cases h
theorem zF.reverse {vs:List V} {us:List Value} (h:zF vs us):zF vs.reverse us.reverse:=by
 induction h with
 |nil=>exact .nil
 |cons a _ ih=>rw[Zaq,Zaq];exact ih.append (.cons a .nil)
theorem sx_rv {q:Pr} {A:Around}:SxE (q.at A) ⟨rvM,rvS⟩:=by
 intro X fits e xs es he each hn pa;obtain ⟨l,k,p1,p3,p2,pos,rfl,rfl⟩:=zgU (sc:=X.env.scope) he
 match es,each with
 | [t],each =>
  refine ⟨fun pins s σ H Q I h=>?_,fun _=>rfl,fun _ _ _ z=>nomatch z⟩;obtain ⟨σ3,G,hs,ab,h⟩:=h;refine Subscript_ (xQ (each.2.1 pins s σ H (fun v H1=>∃ ys vs a G1,v=.ref a/\zG X.K H1 ys vs/\xR X.K H1 G1/\yO X.K H H1/\((sP X.K H1 a vs/\jE X.K H Q (.tup ys.reverse) G1)\/(rW X.K H1 a vs/\∀ r,G1 r=none->jE X.K H Q (.ref r) (put G1 r (.lst ys.reverse))))) I ⟨σ3,G,hs,ab,each.1 σ3 G _ _ (fun w G1 h=>?_) h⟩) fun v s1 ⟨x,H1,I1,r1,q1⟩=>?_)
  .intro v H1 g1 rv a1;have h:rvS [w] G1 (jE X.K H Q):=h;unfold rvS at h
   split at h
   .rename_i ys ew;cases ew;obtain ⟨a,vs,rfl,sq,rr⟩:=rv;exact ⟨ys,vs,a,G1,rfl,rr,a1,g1,.inl ⟨sq,h⟩⟩
   .rename_i p ew;cases ew;obtain ⟨ys,e,h⟩:=h;cases (show v=.ref p from rv);obtain ⟨vs,sq,rr⟩:=a1.seq e;exact ⟨ys,vs,p,G1,rfl,rr,a1,g1,.inr ⟨sq,h⟩⟩
   .exact h.elim
  .obtain ⟨ys,vs,a,G1,rfl,rr,a1,g1,q⟩:=q1;cases (show v=Value.ref a from r1);refine wpAny_Slice ?_;rw[ZcA];refine Zc (Zc ?_);rw[evalPart_some];refine xQ (zjl (pos:=p3) zfJ (zf5 (i:=1) (j:=k) (pos:=p1)) pins s1 σ H1 (fun v H2=>v=.int (-1)/\H2=H1) I1 ⟨1,rfl,rfl,rfl⟩) fun u s2 ⟨y,H2,I2,r2,e1,e2⟩=>?_;subst e1 e2;obtain ⟨tk,rfl⟩:=r2;have I3:Inv X pins σ H2 { s2 with heap:=s2.heap.push { cls:=.type "slice", data:=.fields #[.none,.none,.int (-1) tk] } }:=I2.kept (t':=s2.toks) fun b ob q=>Zb _ q;show wpAny 'a' X.A (subscriptTail l (.Slice none none (some (.UnaryOp .USub (.Constant (.int 1) k p1) p3)) p2) (.ref a) (.ref s2.heap.objs.size)) (EP X pins σ Q) X.xe { s2 with heap:=s2.heap.push { cls:=.type "slice", data:=.fields #[.none,.none,.int (-1) tk] } };have hsl:=Heap.IsSliceOf.new s2.heap .none .none (.int (-1) tk);have sz:s2.heap.objs.size<(s2.heap.push { cls:=.type "slice", data:=.fields #[.none,.none,.int (-1) tk] }).objs.size:=by rw[Zaa];exact Zcf _
   generalize s2.heap.push { cls:=.type "slice", data:=.fields #[.none,.none,.int (-1) tk] }=h0 at I3 hsl sz ⊢;have hn:H2 h0.objs.size=none:=I3.hok.fresh (zzR _);rcases q with ⟨sq,q⟩|⟨sq,q⟩
   .obtain ⟨its,vv,ht,hz⟩:=I3.tuple sq;have hlen:its.toArray.size=vs.length:=by rw[zzS];exact vv.length.symm
    refine ZcC (ops:=[.ref a,.ref s2.heap.objs.size]) ht.typeIs Zy.lookup (zhK ht hsl (by rw[hlen];exact hz) ?_) (by with_unfolding_all rfl);refine ⟨.ref _,_,I3.laid (t':=s2.toks) (o:=.tup vs.reverse) (fun b ob q=>Zb _ q) (zzR _) ⟨by rw[Z7];exact hz,its.reverse,vv.reverse,?_⟩,rfl,?_⟩
    .have:=Zcl h0 its.reverse.toArray;simpa using this
    .have g2:yO X.K H2 (xP H2 h0.objs.size (.tup vs.reverse)):=xI hn;exact q _ _ (g1.trans g2) ⟨_,_,rfl,sP.of yD,rr.reverse.mono g2⟩ (a1.tup hn)
   .obtain ⟨its,vv,pl,hz⟩:=I3.list sq;have hlen:its.toArray.size=vs.length:=by rw[zzS];exact vv.length.symm
    have ht:=pl.isList;refine ZcC (ops:=[.ref a,.ref s2.heap.objs.size]) ht.typeIs list_getitem_lookup (wpAny_getItem_list_slice ht hsl .none .none (.int (-1) tk) (by simp) ?_ (by rw[hlen];exact hz)) (by with_unfolding_all rfl);rw[zeM];refine ⟨.ref _,_,I3.laid (t':=s2.toks) (o:=.lst vs.reverse) (fun b ob q=>Zb _ q) (zzR _) ⟨by rw[Z7];exact hz,its.reverse,0,vv.reverse,?_⟩,rfl,?_⟩
    .simpa using Zg h0 (o:={ cls:=.type "list", data:=.seq its.reverse.toArray }) rfl
    .exact jO (Q:=Q) a1 rr.reverse (fun p hp v' H' g'=>q p hp v' H' (g1.trans g')) _ hn
end L3
namespace L3
open PySem PySem.Spec PyProof.Rows L2 PySem.SeqAt
section
variable {prog:Program} {w:World} {A:Around} {E:Value->Shared->Prop} {s:Shared}
theorem zcv {D:Addr} {vs:List Value} {ns:List Int} {n:Nat} {P:PySem.Fin->Shared->Prop} (ho:s.heap.get? D=some (seqObj "list" vs.toArray n)) (hS:IntsAre vs ns) (h64:vs.length<64)
  (h:∀ h' vs' ns' m,But D s.heap h'->h'.get? D=some (seqObj "list" vs'.toArray m)->IntsAre vs' ns'->ns'.Perm ns->ns'.Pairwise (·<=·)->P (.done (.ret .none)) { s with heap:=h' }):wpAny (model prog w) A (Builtin.«list.sort» ⟨[.ref D],[]⟩) P E s:=by
 refine list_sort_tree ho hS h64 fun out ns' h1 h2 h3=>?_;obtain ⟨m,hm⟩:=sortedHeap_at (out:=out) ho;exact h _ out.toList ns' m (fun b o hb e=>(sortedHeap_old hb (Zd e)).trans e) hm h1 h2 h3
theorem pN {v:Value} {ns:List Int} {Q:Value->Shared->Prop} (h64:ns.length<64)
  (hc:∀ (Q':List Value->Shared->Prop) (E':Value->Shared->Prop),(∀ s' vs ys,IntsAre vs ys->ys.Perm ns->Went s s'->Q' vs s')->wpAny (model prog w) A.in1 (collect v) Q' E' s)
  (h:∀ s1 s' vs' ns' m,Went s s1->Went s1 s'->s'.heap.get? s1.heap.objs.size=some (seqObj "list" vs'.toArray m)->IntsAre vs' ns'->ns'.Perm ns->ns'.Pairwise (·<=·)->Q (.ref s1.heap.objs.size) s'):wpAny (model prog w) A (call (.builtin "sorted") [v]) Q E s:=by
 refine Calls.call_function_entry kind_sorted plain_sorted entry_sorted (args_sorted1 _) ?_;unfold Builtin.«sorted»;refine Za (m:=checkCount "sorted" 1 1 _) (Zc (Za (hc _ _ fun s1 vs ys hv hp wt=>?_)));have hl:vs.length<64:=by rw[zbo hv,hp.length_eq];exact h64
 refine Za (wpAny_newList ?_ (by rw[Zt];omega));have hL:(s1.heap.push (seqObj "list" vs.toArray 0)).get? s1.heap.objs.size=some (seqObj "list" vs.toArray 0):=Zg _ rfl;show wpAny (model prog w) _ _ _ _ { s1 with heap:=s1.heap.push (seqObj "list" vs.toArray 0) };refine Za (ZR (ZM slot_list_sort ⟨_,hL,rfl⟩ entry_list_sort (zcv hL hv hl fun h' vs' ns' m kb hm hv' hp' hs'=>⟨_,rfl,?_⟩) (args_list_sort _)));exact Zc ⟨_,rfl,h s1 { s1 with heap:=h' } vs' ns' m wt ⟨fun b o e=>kb b o (Zj (Zd e)) (Zb _ e),rfl,rfl⟩ hm hv' (hp'.trans hp) hs'⟩
end
section
variable {X:Cx}
theorem cA {K:yS} {H:Hp}:∀ (ns:List Int),zG K H (ns.map .int) (ns.map .int)
 | []=>rfl
 |x::ns=>⟨.int x,_,rfl,rfl,cA ns⟩
theorem fS:∀ {vs:List Value} {ns:List Int},IntsAre vs ns->zF (ns.map V.int) vs
 |_,_,.nil=>.nil
 |_,_,.cons x t h=>.cons ⟨t,rfl⟩ (fS h)
theorem kM {K:yS} {H:Hp}:∀ {ns:List Int} {vs:List V} {us:List Value},zG K H (ns.map .int) vs->zF vs us->IntsAre us ns
 | [],vs,us,r,v=>by cases (show vs=[] from r);cases v;exact .nil
 |x::ns,vs,us,r,v=>by
  obtain ⟨y,tl,rfl,ry,rt⟩:=r;cases (show y=.int x from ry)
  cases v with
  |cons a c =>
   obtain ⟨tk,rfl⟩:=a;exact .cons x tk (kM rt c)
theorem zbf {pins:List (Addr×Obj)} {σ:L2.St} {H:Hp} {s s1 s':Shared} {G:Hw} {vs:List Value} {ns:List Int} {m:Nat} {Q:VK} (I:Inv X pins σ H s) (ab:xR X.K H G) (w1:Went s s1) (w2:Went s1 s') (hg:s'.heap.get? s1.heap.objs.size=some (seqObj "list" vs.toArray m)) (hv:IntsAre vs ns) (hl:ns.length<64)
  (h:∀ r,G r=none->jE X.K H Q (.ref r) (put G r (.lst (ns.map .int)))) (h0:0<s'.toks):EP X pins σ Q (.ref s1.heap.objs.size) s':=by
 have I1:=w1.inv I Nat.one_pos;have I2:Inv X pins σ H s':=(w1.trans w2).inv I h0;have hn:H s1.heap.objs.size=none:=I1.hok.fresh (zzR _);refine ⟨.ref s1.heap.objs.size,_,I2.adopt (o:=.lst (ns.map .int)) (I1.off (zzR _)) hn ⟨?_,vs,m,fS hv,hg⟩,rfl,jO ab (cA ns) h _ hn⟩;rw[zzM,Zt];omega
def zkm (G:Hw) (x:W) (ns:List Int):Prop:=wT G x=some (ns.map .int)\/∃ p kvs,x=.ref p/\jK G p=some kvs/\kvs.map (·.1)=ns.map Sum.inl
def zcx:RS:=fun ws G Q=>match ws with
 | [x]=>∃ ns:List Int,zkm G x ns/\ns.length<64/\∀ ns':List Int,ns'.Perm ns->ns'.Pairwise (·<=·)->∀ r,G r=none->Q (.ref r) (put G r (.lst (ns'.map .int)))
 |_=>False
theorem zbH:wP zcx:=by
 intro ws G Q Q' k h;unfold zcx at h ⊢
 split at h
 .obtain ⟨ts,e,l,h⟩:=h;exact ⟨ts,e,l,fun ts' a b r hr=>k _ _ (h ts' a b r hr)⟩
 .exact h.elim
theorem yQ.keys {K:yS} {H:Hp} {κ:Type}:∀ {l:List (κ×W)} {l':List (κ×V)},yQ K H l l'->l'.map (·.1)=l.map (·.1)
 | [],_,h=>by rw[show _=[] from h];rfl
 |_::_,_,⟨v,t,e,h,r⟩=>by rw[e,zzU,zzU,yQ.keys r]
theorem KV.keys {κ:Type}:∀ {l:List (κ×V)} {vs:List (κ×Value)},KV l vs->vs.map (·.1)=l.map (·.1)
 |_,_,.nil=>rfl
 |_,_,.cons r t=>by rw[zzU,zzU,KV.keys t,r.1]
theorem zdi:∀ (ns:List Int) (vs:List Value),vs.length=ns.length->(∀ (i:Nat) (v:Value),vs[i]?=some v->∃ n,ns[i]?=some n/\pF (.inl n) v=true)->IntsAre vs ns
 | [],[],_,_=>.nil
 |n::ns,v::vs,e,h=>by
  obtain ⟨n',e1,e2⟩:=h 0 v rfl;cases (show n=n' by simpa using e1);rcases yC e2 with ⟨i,t,e3,e4⟩|⟨x,t,e3,e4⟩
  .cases e3;rw[e4];exact .cons n t (zdi ns vs (by simpa using e) fun i v' hv=>by simpa using h (i+1) v' (by simpa using hv))
  .cases e3
theorem zeo (hc:X.calm=true):xB X (.builtin "sorted") (vS X.K zcx):=by
 intro pins s σ H xs us Q I r h;obtain ⟨ws,G,rs,ab,h⟩:=h;unfold zcx at h
 split at h
 .rename_i x;obtain ⟨v,rfl,rv⟩:=qX rs;obtain ⟨u,rfl,ru⟩:=jL r;obtain ⟨ns,ex,hl,h⟩:=h;rcases ex with ex|⟨p,kvs,rfl,ex,ek⟩
  .obtain ⟨a,vs,rfl,sq,rr⟩:=mF ab rv ex;cases (show u=Value.ref a from ru);obtain ⟨its,vv,ss,hz⟩:=I.sqB sq
   obtain ⟨T',o,n,hT,ho,hc,hd⟩:∃ (T':String) (o:Obj) (n:Nat),(T' = "list" \/ T' = "tuple")/\s.heap.get? a=some o/\o.cls=.type T'/\o.data=.seq its.toArray n:=by
    cases hb:bOf x<;>rw[hb] at ss
    .obtain ⟨o,ho,hc,n,hd⟩:=ss;exact ⟨"list", o,n,.inl rfl,ho,hc,hd⟩
    .obtain ⟨o,ho,hc,n,hd⟩:=ss;exact ⟨"tuple", o,n,.inr rfl,ho,hc,hd⟩
   have hS:=kM rr vv;have hl2:its.length=ns.length:=zbo hS;refine wE I.tk (pN hl (fun Q' E' q=>wpAny_collect_seq a hT ho hc hd (fun h' k=>q { s with heap:=h' } its ns hS (.refl _) ⟨k,rfl,rfl⟩) (by rw[zzS,Zt];omega)) fun s1 s' vs' ss' m w1 w2 hg hv hp hs h0=>?_);exact zbf I ab w1 w2 hg hv (by rw[hp.length_eq];exact hl) (h ss' hp hs) h0
  .cases (show v=.ref p from rv);cases (show u=Value.ref p from ru);obtain ⟨l,hr,rk⟩:=ab.rdD ex;obtain ⟨_,hsys,vs,kv,dd⟩:=pD I.hok hr;obtain ⟨ep,da⟩:=dd.dictAt;have hk:vs.map (·.1)=ns.map Sum.inl:=by rw[KV.keys kv,yQ.keys rk,ek]
   have hlen:vs.length=ns.length:=by simpa using congrArg List.length hk
   refine wE I.tk (pN hl (fun Q' E' q=>PySem.W.kdu_collect (PySem.W.kdl_dict (ep:=ep) hsys) (show X.A.in1.handled=none from I.ok.hd hc) da (by rw[Zt];omega) fun h' tk acc k ha=>?_) fun s1 s' vs' ss' m w1 w2 hg hv hp hs h0=>?_)
   .refine q { s with heap:=h',toks:=tk } acc.toList ns (zdi ns acc.toList (by rw[ZB,ha.1,hlen]) fun i v hv=>?_) (.refl _) ⟨k,rfl,rfl⟩;obtain ⟨kk,xx,e1,e2⟩:=ha.2 i v (by rw[← ZaY];exact hv);have e3:(vs.map (·.1))[i]?=some kk:=by rw[Zm,e1];rfl
    rw[hk,Zm] at e3
    cases hn:ns[i]? with
    |none=>rw[hn] at e3;cases e3
    |some n =>
     rw[hn] at e3;cases e3;exact ⟨n,rfl,e2⟩
   .exact zbf I ab w1 w2 hg hv (by rw[hp.length_eq];exact hl) (h ss' hp hs) h0
 .exact h.elim
def zgL:RS:=fun ws G Q=>zcx ws G Q\/zcw ws G Q
theorem mK:wP zgL:=fun ws G Q Q' k h=>h.imp (zbH ws G Q Q' k) (zbG ws G Q Q' k)
theorem zep (hc:X.calm=true):xB X (.builtin "sorted") (vS X.K zgL):=by
 intro pins s σ H xs us Q I r h;obtain ⟨ws,G,rs,ab,h⟩:=h;rcases h with h|h
 .exact zeo hc pins s σ H xs us Q I r ⟨ws,G,rs,ab,h⟩
 .exact zen pins s σ H xs us Q I r ⟨ws,G,rs,ab,h⟩
end
abbrev zh5:Fn3:=⟨"sorted", fun ws G Q _=>zgL ws G Q⟩
theorem zfs {q:Pr} {A:Around} (hm:q.mg "sorted" = none):qF (q.at A) zh5:=⟨fQ (id := "sorted") hm (by decide +kernel) (fun X f=>zep f.calm) mK (fun _ _ h=>h.elim id id),fun ws G Q Q' _ k h=>mK ws G Q Q' k h⟩
end L3
namespace L2
open PySem PySem.Spec PyProof.Rows
def Itw (lo:Int) (n:Nat):It where
 go:=fun i _=>i<n
 yld:=fun i H x H'=>H'=H/\x=.int (lo-i)
 stop:=fun i _=>n<=i
theorem zcg {P:Program} {w:World} {K:PySem.W.Frag} {tg:Expr} (it:Addr) (lo:Int) (n:Nat):Turn P w K tg (Itw lo n) [it] it (fun i h=>IsRangeIter h it (lo+(i:Nat) * (-1)) ((n:Int)-(i:Nat)) (-1)) where
 mem:=ZG.mpr rfl
 obj:=fun i h st b hb=>by
  cases zzO hb
  exact ⟨_,st,fun v z=>by
   have z':Data.fields _=Data.cell v:=z;cases z'⟩
 keep:=fun i h h' st k=>k it (ZG.mpr rfl) _ st
 item:=by
  intro X e1 e2 e3 hc i pins s σ H E I hf st hg;subst e1;subst e2;subst e3;obtain ⟨f0,f1,f2,f3,f4,f5⟩:=hf it (ZG.mpr rfl);refine wE I.tk ((Walks.range (prog:=X.prog) (w:=X.w) (I.ok.hd hc) it lo (-1) n).item i s _ _ hg st fun v h' tk hv st' kk h0=>?_);obtain ⟨t,rfl⟩:=hv;have J:Inv X pins σ H { s with heap:=h',toks:=tk }:=I.turned (fun b o hb e=>kk b o (fun z=>hb (zzO z)) e) f0 f1 f3 f4 f5;refine ⟨_,rfl,bV (s:={ s with heap:=h',toks:=tk }) (n := "range_iterator") st' rfl rfl (by decide) ⟨.int (lo-i),H,J,⟨t,?_⟩,⟨rfl,rfl⟩,st',fun b hb=>(hf b hb).1⟩⟩;rw[show lo+(i:Int) * (-1)=lo-i by omega]
 done:=by
  intro X e1 e2 e3 hc i pins s σ H E I hf st hg;subst e1;subst e2;subst e3;obtain ⟨f0,f1,f2,f3,f4,f5⟩:=hf it (ZG.mpr rfl);exact wpAny_pyNext_range_end (I.ok.hd hc) st (by have:n<=i:=hg;omega) fun h' eb=>⟨rfl,I.turned (t':=s.toks) (fun b o hb e=>eb b o hb e) f0 f1 f3 f4 f5⟩
 self:=fun _ _ _ _ _ st h=>wpAny_pyIter_rangeiter st h
theorem cZ (a b:Int):Builtin.Range.rangeSize a b (-1)=((a-b).toNat:Int):=by
 unfold Builtin.Range.rangeSize;rw[if_neg (by decide),show (-(-1):Int)=1 from rfl,Zck]
 split<;>omega
theorem zbI {a b:Int} (h1:-(2 ^ 62)<=a) (h2:a<2 ^ 62) (h3:-(2 ^ 62)<=b) (h4:b<2 ^ 62):Builtin.Range.small a b (-1)=true:=by
 unfold Builtin.Range.small;rw[cZ];have e:(((a-b).toNat:Nat):Int)=if b<a then a-b else 0:=by split<;>omega
 rw[e];simp only[show ¬ ((-1:Int) > 0) by decide,if_false,Builtin.Range.rangeFitsLong,Zh,Bool.or_eq_true,decide_eq_true_eq,beq_iff_eq]
 split<;>omega
section
variable {X:Cx} {tg:Expr}
theorem zbN {pins:List (Addr×Obj)} {σ:St} {H:Hp} {s:Shared} {R:It->Hp->Prop} {E:Value->Shared->Prop} {lo hi:Int} {t u v:Tok} {tk:Nat} (I:Inv X pins σ H s) (hk:0<tk) (h1:-(2 ^ 62)<=lo) (h2:lo<2 ^ 62) (h3:-(2 ^ 62)<=hi) (h4:hi<2 ^ 62)
  (q:R (Itw lo (lo-hi).toNat) H):wpAny 'a' X.A (pyIter (.ref s.heap.objs.size)) (PIE X pins σ tg R) E { s with heap:=s.heap.push { cls:=.type "range", data:=.fields #[.int lo t,.int hi u,.int (-1) v] },toks:=tk }:=by
 refine wpAny_pyIter_range (IsRange.new ..) (zbI h1 h2 h3 h4) ?_;generalize hh:s.heap.push { cls:=.type "range", data:=.fields #[.int lo t,.int hi u,.int (-1) v] }=h0;have J:Inv X pins σ H { s with heap:=h0,toks:=tk }:=by rw[← hh];exact I.kept fun b o e=>Zb _ e
 refine ⟨h0.objs.size,[h0.objs.size],_,_,H,rfl,J.kept (t':=tk) fun b o e=>Zb _ e,zcg _ lo (lo-hi).toNat,?_,fun b hb=>?_,q⟩
 .show IsRangeIter _ _ (lo+((0:Nat):Int) * (-1)) ((((lo-hi).toNat:Nat):Int)-((0:Nat):Int)) (-1);rw[show lo+((0:Nat):Int) * (-1)=lo by simp,show (((lo-hi).toNat:Nat):Int)-((0:Nat):Int)=Builtin.Range.rangeSize lo hi (-1) by rw[cZ];simp];exact Zg _ rfl
 .cases zzO hb;exact J.fpOk (zzR _) (J.hok.fresh (zzR _))
end
end L2
namespace L3
open PySem PySem.Spec PyProof.Rows L2 PySem.SeqAt
def inB (j:Int):Prop:=-(2 ^ 62)<=j/\j<2 ^ 62
def rg3 (ws:List W) (G:Hw) (R:List W->(Hw->Prop)->Hw->Prop):Prop:=match ws with
 | [.int j]=>inB j/\R ((List.range j.toNat).map fun i=>.int (i:Nat)) (fun _=>True) G
 | [.int i,.int j]=>inB i/\inB j/\R ((List.range (j-i).toNat).map fun k=>.int (i+(k:Nat))) (fun _=>True) G
 | [.int i,.int j,.int c]=>c=-1/\inB i/\inB j/\R ((List.range (i-j).toNat).map fun k=>.int (i-(k:Nat))) (fun _=>True) G
 |_=>False
theorem zey:fG ⟨"range", rg3⟩:=by
 intro ws G R R' k h;replace h:rg3 ws G R:=h;show rg3 ws G R';unfold rg3 at h ⊢
 split at h
 .exact ⟨h.1,k _ _ _ h.2⟩
 .exact ⟨h.1,h.2.1,k _ _ _ h.2.2⟩
 .exact ⟨h.1,h.2.1,h.2.2.1,k _ _ _ h.2.2.2⟩
 .exact h.elim
theorem zj8 {K:yS} {H1:Hp} {lo:Int} {n:Nat}:ItIs K (Itr lo n) H1 ((List.range n).map fun i=>W.int (lo+(i:Nat))) (fun _=>True) where
 go:=fun i H G _ ab st hi=>by show i<n;simpa using hi
 yld:=fun i H G x H' _ ab st hi y=>by
  obtain ⟨rfl,rfl⟩:=y;have hi':i<n:=by simpa using hi
  exact ⟨.int (lo+(i:Nat)),by simp[hi'],.refl,rfl,ab⟩
 stop:=fun i H G _ ab st hi=>by show n<=i;simpa using hi
theorem zj7 {K:yS} {H1:Hp} {lo:Int} {n:Nat}:ItIs K (Itw lo n) H1 ((List.range n).map fun i=>W.int (lo-(i:Nat))) (fun _=>True) where
 go:=fun i H G _ ab st hi=>by show i<n;simpa using hi
 yld:=fun i H G x H' _ ab st hi y=>by
  obtain ⟨rfl,rfl⟩:=y;have hi':i<n:=by simpa using hi
  exact ⟨.int (lo-(i:Nat)),by simp[hi'],.refl,rfl,ab⟩
 stop:=fun i H G _ ab st hi=>by show n<=i;simpa using hi
theorem vals3 {vs:List V} {a b c:V} {us:List Value} (e:vs=[a,b,c]) (r:zF vs us):∃ x y z,us=[x,y,z]/\yY a x/\yY b y/\yY c z:=by
 subst e
 cases r with
 |cons r1 r=>cases r with
  |cons r2 r=>cases r with
   |cons r3 r=>cases r;exact ⟨_,_,_,rfl,r1,r2,r3⟩
theorem zkg {q:Pr} {A:Around} (hm:q.mg "range" = none):ItE (q.at A) ⟨"range", rg3⟩:=by
 intro X fits gl tg args t qp pos mt hn pa hnil hdb hnm;have hm':X.mg "range" = none:=by rw[fits.mg];exact hm
 intro pins s σ H R I h
 cases args with
 |nil =>
  obtain ⟨σ3,G,hs,ab,h⟩:=h;exact (hnil rfl _ _ _ h).elim
 |cons a r =>
  obtain ⟨s1,s2⟩:=xW (env:=X.env) (pos:=pos) hn;obtain ⟨σ3,G,hs,ab,h⟩:=h
  have h':=tK (S:=fun vs H1=>(∃ j:Int,vs=[.int j]/\inB j/\R (Itr 0 j.toNat) H1)\/(∃ i j:Int,vs=[.int i,.int j]/\inB i/\inB j/\R (Itr i (j-i).toNat) H1)\/∃ i j:Int,vs=[.int i,.int j,.int (-1)]/\inB i/\inB j/\R (Itw i (i-j).toNat) H1) mt hs ab h fun ws G1 vs H1 g1 hs1 rs a1 h=>by
   dsimp only at h;unfold rg3 at h
   split at h
   .rename_i j;obtain ⟨v,rfl,rv⟩:=qX rs;cases (show v=.int j from rv);exact .inl ⟨j,rfl,h.1,h.2 _ H1 g1 a1 zkb⟩
   .rename_i i j;obtain ⟨v1,v2,rfl,r1,r2⟩:=gY rs;cases (show v1=.int i from r1);cases (show v2=.int j from r2);exact .inr (.inl ⟨i,j,rfl,h.1,h.2.1,h.2.2 _ H1 g1 a1 zj8⟩)
   .rename_i i j c;obtain ⟨v1,_,rfl,r1,v2,_,rfl,r2,v3,_,rfl,r3,rn⟩:=rs;cases (show _=[] from rn);cases (show v1=.int i from r1);cases (show v2=.int j from r2);cases (show v3=.int c from r3);obtain ⟨rfl,h1,h2,h⟩:=h;exact .inr (.inr ⟨i,j,rfl,h1,h2,h _ H1 g1 a1 zj7⟩)
   .exact h.elim
  refine Call_ (vQ I gl hm' boot_range (ZU (xQ (pa pos pins s σ H _ I h') fun us s1 ⟨vs,H1,I1,r1,q1⟩=>?_) s1 s2));rcases q1 with ⟨j,e,q1,q⟩|⟨i,j,e,q1,q2,q⟩|⟨i,j,e,q1,q2,q⟩
  .subst e;obtain ⟨u,rfl,t,rfl⟩:=jL r1;exact call_range_1 (za9 I1 (ZI _) (by omega) (by omega) q1.1 q1.2 (by simpa using q))
  .subst e;obtain ⟨u1,u2,rfl,⟨t1,rfl⟩,t2,rfl⟩:=mZ r1;exact call_range_2 (za9 I1 (ZI _) q1.1 q1.2 q2.1 q2.2 q)
  .obtain ⟨u1,u2,u3,rfl,⟨t1,rfl⟩,⟨t2,rfl⟩,t3,rfl⟩:=vals3 e r1;exact call_range_3 (by decide) (zbN I1 I1.tk q1.1 q1.2 q2.1 q2.2 q) (.inl (PyProof.noPylong_small (by decide)))
abbrev dR:It3:=⟨"range", rg3⟩
theorem zhR {q:Pr} {A:Around} (hm:q.mg "range" = none):ItE (q.at A) dR/\fG dR:=⟨zkg hm,zey⟩
end L3
namespace PySem
open Sem (wp)
section
variable {prog:Program} {w:World} {A:Around} {E:Value->Shared->Prop} {s:Shared}
abbrev pR (h:Heap) (e it:Addr) (i:Int) (f0 f1 old:Value):Prop :=
 h.get? e=some { cls:=.type "enumerate", dict:=none,data:=.fields #[f0,f1,.ref it,rawInt i,.none,old],slots:=#[] }
def F0 (v:Value):Prop:=v=.none\/∃ T:Addr,v=rawInt T
def F1 (v:Value):Prop:=v=.bool false\/v=.bool true
theorem zh3 {b:Bool} {e it l:Addr} {k:Nat} {m:Int} {xs:Array Value} {x f0 f1 old:Value} {Q:Value->Shared->Prop} (hne:e≠it) (hle:l≠e) (h0:F0 f0) (h1:F1 f1) (he:pR s.heap e it m f0 f1 old)
  (hi:SIt b s.heap it l k) (hl:SSq b s.heap l xs) (hx:xs[k]?=some x)
  (hQ:∀ h' tk t f0' f1' old',0<tk->F0 f0'->F1 f1'->pR h' e it (m+1) f0' f1' old'->SIt b h' it l (k+1)->h'.get? s.heap.objs.size=some { cls:=.type "tuple", data:=.seq #[.int m t,x] }->h'.objs.size=s.heap.objs.size+1 ->
   (∀ c o,c≠e->c≠it->s.heap.get? c=some o->h'.get? c=some o)->Q (.ref s.heap.objs.size) { s with heap:=h',toks:=tk }) :
  wpAny (model prog w) A (Builtin.«enumerate.__next__» ⟨[.ref e],[]⟩) (fun fin z=>∃ v,fin=.done (.ret v)/\Q v z) E s:=by
 obtain ⟨hp,g,d,tk,os⟩:=s;have le:e<hp.objs.size:=Zd he;refine Za (m:=field (.ref e) 2) (ZF he rfl (x:=.ref it) rfl (Za ?_));refine (zer hi hl hx fun g1 i1 s1=>?_);replace s1:Heap.SameBut it hp g1:=s1;have e1:pR g1 e it m f0 f1 old:=(s1.2 e hne).trans he;show wpAny _ _ (field (.ref e) 3 >>= _) _ _ ⟨g1,g,d,tk,os⟩;refine Za (ZF e1 rfl (x:=rawInt m) rfl ?_);show wpAny _ _ (field (.ref e) 4 >>= _) _ _ ⟨g1,g,d,tk,os⟩;refine Za (ZF e1 rfl (x:=.none) rfl ?_);show wpAny _ _ (mkInt m >>= _) _ _ ⟨g1,g,d,tk,os⟩;refine Za (wpAny_mkInt ?_);show wpAny _ _ (setField (.ref e) 3 (rawInt (m+1)) >>= _) _ _ ⟨g1,g,d,tk+1,os⟩;refine Za (Zam e1 (by simp) fun g2 e2 s2=>?_);replace s2:Heap.SameBut e g1 g2:=s2;replace e2:pR g2 e it (m+1) f0 f1 old:=e2;show wpAny _ _ (setField (.ref e) 4 .none >>= _) _ _ ⟨g2,g,d,tk+1,os⟩;refine Za (Zam e2 (by simp) fun g3 e3 s3=>?_);replace s3:Heap.SameBut e g2 g3:=s3;replace e3:pR g3 e it (m+1) f0 f1 old:=e3;show wpAny _ _ (newTuple [.int m tk,x] >>= _) _ _ ⟨g3,g,d,tk+1,os⟩;refine Za (wpAny_newTuple ?_);have e4:pR (g3.push { cls:=.type "tuple", data:=.seq #[.int m tk,x] }) e it (m+1) f0 f1 old:=Zb _ e3;generalize hh:g3.push { cls:=.type "tuple", data:=.seq #[.int m tk,x] }=g4 at e4;have hsz:g3.objs.size=hp.objs.size:=by rw[s3.1,s2.1,s1.1]
 have t4:g4.get? hp.objs.size=some { cls:=.type "tuple", data:=.seq #[.int m tk,x] }:=by rw[← hh,← hsz];exact Zg _ rfl
 have z4:g4.objs.size=hp.objs.size+1:=by rw[← hh,Zaa,hsz]
 have k4:∀ c o,c≠e->c≠it->hp.get? c=some o->g4.get? c=some o:=fun c o n1 n2 q=>by
  rw[← hh];exact Zb _ (s3.extBut c o n1 (s2.extBut c o n1 (s1.extBut c o n2 q)))
 have i4:SIt b g4 it l (k+1):=i1.at fun o q=>by rw[← hh];exact Zb _ (s3.extBut it o hne.symm (s2.extBut it o hne.symm q))
 show wpAny _ _ (Builtin.SmallTypes.ownedTupleIsFree (.ref e) >>= _) _ _ ⟨g4,g,d,tk+1,os⟩;rw[hsz]
 clear hh e3 s3 e2 s2 e1 s1 i1 hsz g3 g2 g1
 have free:wpAny (model prog w) A (do
   rule "enumerate.__next__.owned-tuple-again"
   let old ← field (.ref e) 5
   setField (.ref e) 5 x
   Builtin.SmallTypes.ownedTupleHandOut (.ref e) (.ref hp.objs.size)
   letGo [old] [.ref hp.objs.size]
   ret (.ref hp.objs.size)) (fun fin s'=>∃ v,fin=.done (.ret v)/\Q v s') E ⟨g4,g,d,tk+1,os⟩:=by
  refine Za (ZbG ?_);refine Za (ZF e4 rfl (x:=old) rfl ?_);refine Za (Zam e4 (by simp) fun g5 e5 s5=>?_);replace s5:Heap.SameBut e g4 g5:=s5;replace e5:pR g5 e it (m+1) f0 f1 x:=e5;show wpAny _ _ (Builtin.SmallTypes.ownedTupleHandOut (.ref e) (.ref hp.objs.size) >>= _) _ _ ⟨g5,g,d,tk+1,os⟩;refine Za ?_;unfold Builtin.SmallTypes.ownedTupleHandOut;refine Za (Zam e5 (by simp) fun g6 e6 s6=>?_);replace s6:Heap.SameBut e g5 g6:=s6;replace e6:pR g6 e it (m+1) (rawInt hp.objs.size) f1 x:=e6;refine Zam e6 (by simp) fun g7 e7 s7=>?_;replace s7:Heap.SameBut e g6 g7:=s7;replace e7:pR g7 e it (m+1) (rawInt hp.objs.size) (.bool false) x:=e7;have up:∀ c o,c≠e->g4.get? c=some o->g7.get? c=some o:=fun c o n q=>s7.extBut c o n (s6.extBut c o n (s5.extBut c o n q));exact Za (wpAny_letGo (Zc ⟨_,rfl,hQ g7 (tk+1) tk _ _ _ (ZI _) (.inr ⟨_,rfl⟩) (.inl rfl) e7 (i4.at fun o q=>up it o hne.symm q) (up _ _ (Z8 le) t4) (by rw[s7.1,s6.1,s5.1,z4]) fun c o n1 n2 q=>up c o n1 (k4 c o n1 n2 q)⟩))
 refine Za ?_;unfold Builtin.SmallTypes.ownedTupleIsFree;refine Za (ZF e4 rfl (x:=f0) rfl ?_);rcases h0 with rfl|⟨T,rfl⟩
 .exact Zc free
 .show wpAny _ _ (loadIfAlive (Int.toNat T) >>= _) _ _ _;refine Za (zak ?_)
  cases hT:g4.get? (Int.toNat T) with
  |none=>exact Zc free
  |some oT =>
   show wpAny _ _ (field (.ref e) 1 >>= _) _ _ _;refine Za (ZF e4 rfl (x:=f1) rfl ?_);rcases h1 with rfl|rfl
   .refine Za (Zam e4 (by simp) fun g5 e5 s5=>?_);replace s5:Heap.SameBut e g4 g5:=s5;replace e5:pR g5 e it (m+1) (rawInt T) (.bool true) old:=e5;refine Zc (Zc ⟨_,rfl,hQ g5 (tk+1) tk _ _ _ (ZI _) (.inr ⟨_,rfl⟩) (.inr rfl) e5 (i4.at fun o q=>s5.extBut it o hne.symm q) (s5.extBut _ _ (Z8 le) t4) (by rw[s5.1,z4]) fun c o n1 n2 q=>s5.extBut c o n1 (k4 c o n1 n2 q)⟩)
   .exact Zc (Zc ⟨_,rfl,hQ g4 (tk+1) tk _ _ _ (ZI _) (.inr ⟨_,rfl⟩) (.inr rfl) e4 i4 t4 z4 k4⟩)
end
end PySem
namespace PySem
open Sem (wp)
abbrev enH (b:Bool) (h:Heap) (l:Addr):Heap:=h.push { cls:=.type (itc b),data:=.fields #[.ref l,.int 0 0] }
theorem zaf (b:Bool) (l:Addr) (xs:Array Value) :
  Meets (Builtin.«enumerate.__new__» ⟨[.type "enumerate", .ref l],[]⟩) (fun _ R s=>SSq b s.heap l xs /\
   R (.ok (.ret (.ref (enH b s.heap l).objs.size))) { s with heap:=(enH b s.heap l).push { cls:=.type "enumerate", data:=.fields #[.none,.bool false,.ref s.heap.objs.size,rawInt 0,.none,.none] } }) :=
 .of_wp fun prog w A R s h=>by
  obtain ⟨hp,g,d,tk,os⟩:=s;obtain ⟨hl,h⟩:=h;have hsub:=sub_enumerate;have hL:SSq b (Shared.heap ⟨hp,g,d,tk,os⟩) l xs:=hl
  wp_walk
  refine wpAny_stack_any fun st=>Zc ?_
  split
  .rename_i c _ _ _ _ _;cases (c==Value.type "enumerate")<;>(wp_walk using mH hL;exact ⟨_,rfl,h⟩)
  .wp_walk using mH hL
   exact ⟨_,rfl,h⟩
section
variable {prog:Program} {w:World} {A:Around} {E:Value->Shared->Prop} {s:Shared}
theorem zii {b:Bool} {l:Addr} {xs:Array Value} {Q:Value->Shared->Prop} (hl:SSq b s.heap l xs)
  (h:∀ h',pR h' (s.heap.objs.size+1) s.heap.objs.size 0 .none (.bool false) .none->SIt b h' s.heap.objs.size l 0->(∀ c o,s.heap.get? c=some o->h'.get? c=some o)->Q (.ref (s.heap.objs.size+1)) { s with heap:=h' }) :
  wpAny (model prog w) A (call (.type "enumerate") [.ref l]) Q E s:=by
 refine callType_new F.called_enumerate (by decide) (F.typeCall_enumerate_1 _) (F.newCall_enumerate_1 _) (fun obj=>F.args_object_init_2 obj _) F.entry_enumerate_new (zaf b l xs) ⟨hl,?_⟩;have hz:(enH b s.heap l).objs.size=s.heap.objs.size+1:=Zaa ..;show _/\_;rw[hz]
 have he:pR ((enH b s.heap l).push { cls:=.type "enumerate", data:=.fields #[.none,.bool false,.ref s.heap.objs.size,rawInt 0,.none,.none] }) (s.heap.objs.size+1) s.heap.objs.size 0 .none (.bool false) .none:=by
  have:=Zg (enH b s.heap l) (o:={ cls:=.type "enumerate", data:=.fields #[.none,.bool false,.ref s.heap.objs.size,rawInt 0,.none,.none] }) rfl;rw[hz] at this;exact this
 exact ⟨⟨_,he,rfl⟩,h _ he ⟨_,Zb _ (Zg _ rfl),rfl,rfl⟩ fun c o x=>Zb _ (Zb _ x)⟩
end
end PySem
namespace L2
open PySem PySem.Spec PyProof.Rows
def Ite (st:Int) (b:Bool) (K:PySem.W.Frag) (l:Addr):It where
 go:=fun i H=>∃ xs x,SqB b K H l xs/\xs[i]?=some x
 yld:=fun i H v H'=>∃ p x,v=.ref p/\H p=none/\H'=xP H p (.tup [.int (i+st),x])/\∀ xs,SqB b K H l xs->xs[i]?=some x
 stop:=fun i H=>∃ xs,SqB b K H l xs/\xs.length<=i
def EnSt (st:Int) (b:Bool) (e it l:Addr) (i:Nat) (h:Heap):Prop:=∃ f0 f1 old,F0 f0/\F1 f1/\pR h e it (i+st) f0 f1 old/\SIt b h it l i
section
variable {sn:Int} {b:Bool} {e it l:Addr}
theorem EnSt.keep {i:Nat} {h h':Heap} (x:EnSt sn b e it l i h) (k:∀ c∈[e,it],∀ o,h.get? c=some o->h'.get? c=some o):EnSt sn b e it l i h':=by
 obtain ⟨f0,f1,old,a0,a1,he,hi⟩:=x;exact ⟨f0,f1,old,a0,a1,k e (by simp) _ he,hi.at fun o q=>k it (by simp) o q⟩
theorem en_go {P:Program} {w:World} {A:Around} {E:Value->Shared->Prop} {s:Shared} {tg:Expr} {u:Value} {i:Nat} {Q:Unit->Shared->Prop} (hne:e≠it) (st:EnSt sn b e it l i s.heap)
  (h:∀ h',EnSt sn b e it l i h'->(∀ c o,c≠e->s.heap.get? c=some o->h'.get? c=some o)->Q () { s with heap:=h' }):wpAny (model P w) A (letOwnedTupleGo tg (.ref e) u) Q E s:=by
 have stay:Q () s:=h s.heap st fun _ _ _ z=>z
 have core:wpAny (model P w) A (do
   let (.ref r,.ref t):=(Value.ref e,u)|return
   let o ← load r
   match o.cls,o.data with
   | .type n,.fields vs =>
    if ["enumerate", "zip", "dict_itemiterator", "dict_reverseitemiterator", "odict_iterator", "itertools.zip_longest", "itertools.pairwise"].contains n&&vs[0]?==some (rawInt t) then
     rule "for.unpacks-the-owned-tuple"
     updateField r 0 .none
   |_,_=>pure ()) Q E s:=by
  cases u with
  |ref t =>
   obtain ⟨f0,f1,old,a0,a1,he,hi⟩:=st;refine Za (ZcE he ?_);dsimp only
   split
   .refine Za (ZbG ?_);show wpAny _ _ (setField (.ref e) 0 .none) Q E s;exact Zam he (by simp) fun h' he' hs'=>h h' ⟨.none,f1,old,.inl rfl,a1,he',hi.at fun o q=>hs'.extBut it o hne.symm q⟩ fun c o hc q=>hs'.extBut c o hc q
   .exact Zc stay
  |_=>exact Zc stay
 cases tg with
 |Tuple es x p=>exact core
 |List es x=>exact core
 |_=>exact Zc stay
theorem zh2 (P:Program) (w:World) (K:PySem.W.Frag) (tg:Expr) (hne:e≠it) (n1:l≠e) (n2:l≠it):Turn P w K tg (Ite sn b K l) [e,it] e (EnSt sn b e it l) where
 mem:=by simp
 obj:=fun i h x c hc=>by
  obtain ⟨f0,f1,old,_,_,he,o,q1,q2,q3⟩:=x;simp only[Zp,ZL,or_false] at hc;rcases hc with rfl|rfl
  .exact ⟨_,he,fun v z=>nomatch z⟩
  .exact ⟨o,q1,fun v z=>by rw[q3] at z;cases z⟩
 keep:=fun i h h' x k=>x.keep k
 item:=by
  intro X e1 e2 e3 hc i pins s σ H E I hf st go;subst e1;subst e2;subst e3;obtain ⟨xs,x,q1,ex⟩:=go;obtain ⟨its,vx,sx,_⟩:=I.sqB q1;obtain ⟨u,eu,ru⟩:=vx.get ex;obtain ⟨f0,f1,old,a0,a1,he,hi⟩:=id st;have hT:s.TypeIs (.ref e) "enumerate" := ⟨_,he,rfl⟩;have le:e<s.heap.objs.size:=Zd he;have li:it<s.heap.objs.size:=by obtain ⟨o,ho,_⟩:=hi;exact Zd ho
  have hn:H s.heap.objs.size=none:=I.hok.fresh (zzR _);unfold pyNext
  refine Za (ZaU (ZQ (name:=Str.ofString "__next__") hT Zaw (ZM Zaw hT F.entry_enumerate_next
   (zh3 hne n1 a0 a1 he hi sx (x:=u) (by simpa using eu) fun h' tk t f0' f1' old' h0 b0 b1 he' hi' ht hz k=>Zc ⟨_,rfl,?_⟩) (F.args_enumerate_next_1 _))))
  refine en_go (sn:=sn) (i:=i+1) (s:={ s with heap:=h',toks:=tk }) hne ⟨f0',f1',old',b0,b1,by rw[show (((i+1:Nat):Int)+sn)=(i:Int)+sn+1 by omega];exact he',hi'⟩ fun h2 st2 k2=>?_
  have J:Inv X pins σ H { s with heap:=h2,toks:=tk }:=I.turns hf fun c o hc q=>by
   simp only[Zp,ZL,or_false,not_or] at hc;exact k2 c o hc.1 (k c o hc.1 hc.2 q)
  refine ⟨.ref s.heap.objs.size,xP H s.heap.objs.size (.tup [.int (i+sn),x]),?_,rfl,⟨_,x,rfl,hn,rfl,fun ys q'=>by rw[I.sqB_inj q' q1];exact ex⟩,st2,fun c hc=>?_⟩
  .refine J.adopt (I.off (zzR _)) hn ⟨by show 2<=sizeLine;rw[Zt];decide,[.int (i+sn) t,u],.cons ⟨t,rfl⟩ (.cons ru .nil),⟨_,k2 _ _ (Z8 le) ht,rfl,_,rfl⟩⟩
  .have:c≠s.heap.objs.size:=by
    simp only[Zp,ZL,or_false] at hc;rcases hc with rfl|rfl
    .exact Zj le
    .exact Zj li
   rw[zE this];exact (hf c hc).1
 done:=by
  intro X e1 e2 e3 hc i pins s σ H E I hf st stop;subst e1;subst e2;subst e3;obtain ⟨xs,q1,hx⟩:=stop;obtain ⟨its,vx,sx,_⟩:=I.sqB q1;obtain ⟨f0,f1,old,a0,a1,he,hi⟩:=id st;have hT:s.TypeIs (.ref e) "enumerate" := ⟨_,he,rfl⟩;have hl:=vx.length;unfold pyNext;refine Za (ZaU (ZQ (name:=Str.ofString "__next__") hT Zaw (ZM Zaw hT F.entry_enumerate_next ?_ (F.args_enumerate_next_1 _))));show wpAny _ _ (field (.ref e) 2 >>= _) _ _ _;refine Za (ZF he rfl (x:=.ref it) rfl ?_);refine Za (zgO (A:=X.A.in1) (I.ok.hd hc) hi sx (by simp;omega) fun h' x k hx'=>?_);obtain ⟨o,ho,hc'⟩:=hx';refine Za (Zbc (T := "StopIteration") (b:=true) ⟨o,ho,hc'⟩ isSubtype_stop ?_);refine Zc ⟨rfl,I.turns (t':=s.toks) hf fun c o hc q=>?_⟩;simp only[Zp,ZL,or_false,not_or] at hc;exact k c o hc.2 q
 self:=fun A i s Q E st h=>by
  obtain ⟨f0,f1,old,a0,a1,he,hi⟩:=st;have hT:s.TypeIs (.ref e) "enumerate" := ⟨_,he,rfl⟩;have body:wpAny (model P w) A.in1 (ret (.ref e)) (fun fin z=>∃ v,fin=.done (.ret v)/\∃ T id,z.TypeIs v T/\typeLookup (.type T) "__next__" = pure (some id)/\Q v z) E s:=Zc ⟨_,rfl,_,_,hT,Zaw.lookup,h⟩;exact wpAny_pyIter_slot hT F.slot_enumerate_iter (ZM F.slot_enumerate_iter hT F.entry_enumerate_iter body (F.args_enumerate_iter_1 _))
end
end L2
namespace L3
open PySem PySem.Spec PyProof.Rows L2 PySem.SeqAt
def enW (st:Int) (xs:List W):List W:=(List.range xs.length).map fun i=>W.tup [.int ((i:Nat)+st),xs.getD i .non]
def enI (ws:List W) (G:Hw) (R:List W->(Hw->Prop)->Hw->Prop):Prop:=match ws with
 | [x]=>∃ xs,wT G x=some xs/\R (enW 0 xs) (fun G'=>wT G' x=some xs) G
 |_=>False
theorem zfv:fG ⟨"enumerate", enI⟩:=by
 intro ws G R R' k h;replace h:enI ws G R:=h;show enI ws G R';unfold enI at h ⊢
 split at h
 .obtain ⟨xs,e1,h⟩:=h;exact ⟨xs,e1,k _ _ _ h⟩
 .exact h.elim
theorem zkd {sn:Int} {K:yS} {H1:Hp} {G1:Hw} {x:W} {a:Addr} {vx:List V} {xs:List W} (rx:wO K H1 x (.ref a)) (ex:wT G1 x=some xs) (sx:SqB (bOf x) K H1 a vx) (rr:zG K H1 xs vx) :
  ItIs K (Ite sn (bOf x) K a) H1 (enW sn xs) (fun G'=>wT G' x=some xs) where
 go:=fun i H G g ab st hi=>by
  obtain ⟨vx',sx',rx'⟩:=zcD g ab rx ex sx rfl st rr;have h1:=rx'.length;have hi:i<xs.length:=by simpa[enW] using hi
  exact ⟨vx',vx'[i]'(by omega),sx',Zl _⟩
 yld:=fun i H G v H' g ab st hi yl=>by
  obtain ⟨vx',sx',rx'⟩:=zcD g ab rx ex sx rfl st rr;obtain ⟨p,x',rfl,hp,rfl,e2⟩:=yl;obtain ⟨wx,ewx,rpx⟩:=rx'.get' (e2 vx' sx');have hi:i<xs.length:=by simpa[enW] using hi
  have gr:yO K H (xP H p (.tup [.int (i+sn),x'])):=xI hp;refine ⟨.tup [.int (i+sn),wx],?_,gr,⟨p,[.int (i+sn),x'],rfl,.of yD,⟨_,_,rfl,rfl,_,_,rfl,rpx.mono gr,rfl⟩⟩,ab.tup hp⟩;simp[enW,hi];rw[Zl hi] at ewx;exact Zx ewx
 stop:=fun i H G g ab st hi=>by
  obtain ⟨vx',sx',rx'⟩:=zcD g ab rx ex sx rfl st rr;have h1:=rx'.length;have hi:xs.length<=i:=by simpa[enW] using hi
  exact ⟨vx',sx',by omega⟩
theorem it_en {q:Pr} {A:Around} (hm:q.mg "enumerate" = none):ItE (q.at A) ⟨"enumerate", enI⟩:=by
 intro X fits gl tg args t qp pos mt hn pa hnil hdb hnm;have hm':X.mg "enumerate" = none:=by rw[fits.mg];exact hm
 intro pins s σ H R I h
 cases args with
 |nil =>
  obtain ⟨σ3,G,hs,ab,h⟩:=h;exact (hnil rfl _ _ _ h).elim
 |cons a r =>
  obtain ⟨s1,s2⟩:=xW (env:=X.env) (pos:=pos) hn;obtain ⟨σ3,G,hs,ab,h⟩:=h
  have h':=tK (S:=fun vs H1=>∃ x a1 vx,vs=[.ref a1]/\SqB (bOf x) X.K H1 a1 vx/\R (Ite 0 (bOf x) X.K a1) H1) mt hs ab h fun ws G1 vs H1 g1 hs1 rs a1 h=>by
   dsimp only at h;unfold enI at h
   split at h
   .rename_i x;obtain ⟨v1,rfl,r1⟩:=qX rs;obtain ⟨xs,ex,h⟩:=h;obtain ⟨p1,vx,rfl,sx,rx⟩:=mF a1 r1 ex;exact ⟨x,p1,vx,rfl,sx,h _ H1 g1 a1 (zkd r1 ex sx rx)⟩
   .exact h.elim
  refine Call_ (vQ I gl hm' (by decide +kernel:bootBuiltins "enumerate" = some (.type "enumerate")) (ZU (xQ (pa pos pins s σ H _ I h') fun us s1 ⟨vs,H1,I1,r1,q1⟩=>?_) s1 s2));obtain ⟨x,a1,vx,e,sx,q⟩:=q1;subst e;obtain ⟨u1,rfl,ru1⟩:=jL r1;cases (show u1=Value.ref a1 from ru1);obtain ⟨itx,vvx,ssx,hzx⟩:=I1.sqB sx
  have lt1:a1<s1.heap.objs.size:=by
   cases hb:bOf x<;>rw[hb] at ssx<;>(obtain ⟨o,ho,_⟩:=ssx;exact Zd ho)
  refine zii ssx fun h' z1 z2 z3=>?_;have J:Inv X pins σ H1 { s1 with heap:=h',toks:=s1.toks }:=I1.kept z3
  have hf:∀ b∈[s1.heap.objs.size+1,s1.heap.objs.size],uJ X pins H1 b:=fun b hb=>by
   have hge:s1.heap.objs.size<=b:=by
    simp only[Zp,ZL,or_false] at hb;omega
   exact I1.fpOk hge (I1.hok.fresh hge)
  have tu:=zh2 (sn:=0) (b:=bOf x) (e:=s1.heap.objs.size+1) (it:=s1.heap.objs.size) (l:=a1) X.prog X.w X.K tg (Nat.succ_ne_self _) (Zj (ZaK lt1)) (Zj lt1);have st:EnSt 0 (bOf x) (s1.heap.objs.size+1) s1.heap.objs.size a1 0 h':=⟨.none,.bool false,.none,.inl rfl,.inl rfl,z1,z2⟩;exact tu.self X.A 0 { s1 with heap:=h' } _ _ st ⟨_,_,_,_,H1,rfl,J,tu,st,hf,q⟩
abbrev eEn:It3:=⟨"enumerate", enI⟩
theorem zkt {q:Pr} {A:Around} (hm:q.mg "enumerate" = none):ItE (q.at A) eEn/\fG eEn:=⟨it_en hm,zfv⟩
mutual
def dOf:W->PyData
 | .str x=>.str x
 | .tup ws=>.tuple (dOfs ws)
 |_=>.none
def dOfs:List W->List PyData
 | []=>[]
 |w::ws=>dOf w::dOfs ws
end
mutual
def tt:W->Bool
 | .str _=>true
 | .tup ws=>tts ws
 |_=>false
def tts:List W->Bool
 | []=>true
 |w::ws=>tt w&&tts ws
end
section
variable {X:Cx} {pins:List (Addr×Obj)} {σ:L2.St} {H:Hp} {s:Shared}
end
end L3
namespace L3
open PySem PySem.Spec PyProof.Rows L2
def emM:Scope->Expr->Option (List Expr):=fun _ e=>match e with
 | .Dict [] [] _=>some []
 |_=>none
def emS:RS:=fun ws G Q=>match ws with
 | []=>∀ p,G p=none->Q (.ref p) (put G p (.dic []))
 |_=>False
theorem zfw:wP emS:=by
 intro ws G Q Q' k h;unfold emS at h ⊢
 split at h
 .exact fun p hp=>k _ _ (h p hp)
 .exact h.elim
theorem zh4 {sc:Scope} {e:Expr} {xs:List Expr} (h:emM sc e=some xs):∃ pos,e=.Dict [] [] pos/\xs=[]:=by
 unfold emM at h
 split at h
 .cases h;exact ⟨_,rfl,rfl⟩
 .cases h
theorem sx_em {q:Pr} {A:Around}:SxE (q.at A) ⟨emM,emS⟩:=by
 intro X fits e xs es he each hn pa;obtain ⟨pos,rfl,rfl⟩:=zh4 (sc:=X.env.scope) he
 match es,each with
 | [],each =>
  refine ⟨fun pins s σ H Q I h=>?_,fun _=>rfl,fun _ _ _ z=>nomatch z⟩;obtain ⟨σ3,G,hs,ab,h⟩:=h;have h:∀ p,G p=none->jE X.K H Q (.ref p) (put G p (.dic [])):=h;refine zeR pins s σ H Q I fun p hp=>?_;exact h p (ab.free hp) _ _ (xI hp) rfl (ab.new hp ⟨[],rfl,rfl⟩)
end L3
namespace PySem
open Sem (wp)
section
variable {prog:Program} {w:World} {A:Around} {E:Value->Shared->Prop} {s:Shared}
end
end PySem
namespace L3
open PySem PySem.Spec PyProof.Rows L2 PySem.SeqAt
end L3
namespace L3
open PySem PySem.Spec PyProof.Rows L2
end L3
namespace K70
open PySem PySem.Spec L2 L3
def dG (i:Nat):Stmt:=PySem.Challenge.pw_talkcourt_k70_webs_written_and_read.main.body.getD i (.Pass ⟨0,0,0,0⟩)
def gls:List Str:=["LONGEST_NAME", "NO_NAMES", "MOST_FIGURES", "bool", "str", "tuple", "NoText", "NoBook", "NotLet", "NoMove", "NoPlan", "NoTalker", "NoPaper", "NoWeb", "NoRow", "NoName"]
def mts:List Str:=["pop", "join", "append", "split", "count", "index"]
def its:List Str:=["range", "enumerate"]
def sxm:List (Scope->Expr->Option (List Expr)):=[lofM "reversed", rvM,emM,trM,fstM [none,some ":"]]
def fns:List Str:=(["max", "len", "all", "list", "isinstance", "sorted", "tuple", "int", "str", "_law_deal", "_law_draw", "_law_names", "_law_changed", "_law_text", "_law_web", "_law_other_words", "_law_other_text", "_law_name_is", "_law_number_is", "_law_due"]:List Str)++(["is_name", "read_number", "read_world", "read_web", "_law_read", "_law_same", "show_world", "show_web", "law"]:List Str)
/- fn: 0 max,1 len,2 all,3 list,4 isinstance,5 sorted,6 tuple,7 int,8 str,9 _law_deal,10 _law_draw,11 _law_names,12 _law_changed,13 _law_text,14 _law_web,15 _law_other_words,16 _law_other_text,17 _law_name_is,18 _law_number_is,19 _law_due,20 is_name,21 read_number,22 read_world,23 read_web,24 _law_read,25 _law_same,26 show_world,27 show_web,28 law -/
abbrev jV:Stmt:=dG 25
def gN:List Str:=["_law_script", "_law_base", "_law_cells", "_law_number", "_law_cell"]
def zb1:ISs:=(.cons (.asg 2 (.lc (.nm 0) ["_law_cell"] [] (.val (.sl (.var 0) (.yes (.var 1)) (.yes (.con (.int 63))))) .no (.call 0 (.cons (.var 0) (.cons (.bin .Sub (.con (.int 0)) (.var 0)) .nil)))))
 (.cons (.asg 3 (.bin .Add (.con (.int 7919)) (.var 1)))
 (.cons (.for (.nm 4) (.val (.var 2)) (.cons (.asg 3 (.bin .Mod (.bin .Add (.bin .Mult (.var 3) (.con (.int 69621))) (.bin .Mod (.var 4) (.con (.int 2147483629)))) (.con (.int 2147483647))))
 .nil))
 (.cons (.ret (.dct ["seed", "number", "left"] (.cons (.var 3) (.cons (.con (.int 0)) (.cons (.spc 0 (.cons (.lc (.nm 0) ["_law_cell"] [] (.val (.var 2)) (.yes (.cmp .GtE (.var 0) (.bin .Pow (.con (.int 10)) (.con (.int 18))))) (.var 0)) .nil)) .nil)))))
 .nil))))
def gF:MC:=⟨zX jV,gN,(fun _=>true),fns.take 9,gls,mts,its,sxm,[]⟩
theorem zaw:FnScope gN ["_law_script", "_law_base"] (zX jV):=⟨rfl,rfl,rfl,by decide +kernel,rfl,by decide +kernel,by decide +kernel⟩
theorem dU:sZ zb1 gF (zI jV)=true:=by decide +kernel
abbrev jW:Stmt:=dG 26
def gO:List Str:=["_law_deal_here", "_law_many", "_law_number", "_law_one", "_law_other"]
def zb0:ISs:=(.cons (.whl (.and (.cmp .Eq (.ix (.var 0) (.con (.str "number"))) (.con (.int 0))) (.cmp .Gt (.call 1 (.cons (.ix (.var 0) (.con (.str "left"))) .nil)) (.con (.int 0)))) (.cons (.asgI (.var 0) (.con (.str "number")) (.mth 0 (.ix (.var 0) (.con (.str "left"))) .nil))
 .nil))
 (.cons (.asg 2 (.ix (.var 0) (.con (.str "number"))))
 (.cons (.ite (.cmp .Gt (.var 2) (.con (.int 0))) (.cons (.asgI (.var 0) (.con (.str "number")) (.bin .FloorDiv (.var 2) (.var 1)))
 (.cons (.ret (.bin .Mod (.var 2) (.var 1)))
 .nil)) .nil)
 (.cons (.asg 3 (.bin .Mod (.bin .Add (.bin .Mult (.ix (.var 0) (.con (.str "seed"))) (.con (.int 48271))) (.con (.int 7919))) (.con (.int 2147483647))))
 (.cons (.asgI (.var 0) (.con (.str "seed")) (.bin .Mod (.bin .Add (.bin .Mult (.var 3) (.con (.int 40692))) (.con (.int 104729))) (.con (.int 2147483399))))
 (.cons (.asg 4 (.bin .Mod (.bin .Mult (.ix (.var 0) (.con (.str "seed"))) (.ix (.var 0) (.con (.str "seed")))) (.con (.int 2147483563))))
 (.cons (.ret (.bin .Mod (.bin .Add (.bin .Mult (.bin .Mod (.bin .Mult (.var 3) (.var 3)) (.con (.int 2147483629))) (.con (.int 2147483563))) (.var 4)) (.var 1)))
 .nil)))))))
def gG:MC:=⟨zX jW,gO,(fun _=>true),fns.take 10,gls,mts,its,sxm,[]⟩
theorem zav:FnScope gO ["_law_deal_here", "_law_many"] (zX jW):=⟨rfl,rfl,rfl,by decide +kernel,rfl,by decide +kernel,by decide +kernel⟩
theorem dW:sZ zb0 gG (zI jW)=true:=by decide +kernel
abbrev wS:Stmt:=dG 27
def uW:List Str:=["_law_deal_here", "_law_many", "_law_letters", "_law_names_here", "_law_core", "_law_at", "_law_turn", "_law_k", "_law_name"]
def wQ:ISs:=(.cons (.asg 2 (.con (.str "abcdefghijklmnopqrstuvwxyz")))
 (.cons (.asg 3 (.lst .nil))
 (.cons (.asg 4 (.mth 1 (.con (.str "")) (.cons (.lc (.nm 0) ["_law_k"] [2,0] (.blt 0 (.cons (.call 10 (.cons (.var 0) (.cons (.con (.int 5)) .nil))) .nil)) .no (.ix (.var 1) (.call 10 (.cons (.var 2) (.cons (.con (.int 26)) .nil))))) .nil)))
 (.cons (.asg 5 (.call 10 (.cons (.var 0) (.cons (.bin .Add (.call 1 (.cons (.var 4) .nil)) (.con (.int 1))) .nil))))
 (.cons (.asg 6 (.call 10 (.cons (.var 0) (.cons (.con (.int 26)) .nil))))
 (.cons (.for (.nm 7) (.blt 0 (.cons (.var 1) .nil)) (.cons (.asg 8 (.bin .Add (.bin .Add (.sl (.var 4) .no (.yes (.var 5))) (.ix (.var 2) (.bin .Mod (.bin .Add (.var 6) (.bin .Mult (.con (.int 7)) (.var 7))) (.con (.int 26))))) (.sl (.var 4) (.yes (.var 5)) .no)))
 (.cons (.ite (.cmp .In (.var 8) (.tup (.cons (.con (.str "and")) (.cons (.con (.str "or")) (.cons (.con (.str "not")) (.cons (.con (.str "then")) .nil)))))) (.cons (.asg 8 (.bin .Add (.var 8) (.con (.str "q"))))
 .nil) .nil)
 (.cons (.ex (.mth 2 (.var 3) (.cons (.var 8) .nil)))
 .nil))))
 (.cons (.ite (.and (.cmp .Gt (.var 1) (.con (.int 1))) (.cmp .Eq (.call 10 (.cons (.var 0) (.cons (.con (.int 2)) .nil))) (.con (.int 1)))) (.cons (.asgI (.var 3) (.con (.int 0)) (.bin .Add (.ix (.var 3) (.con (.int 0))) (.con (.str "z"))))
 .nil) .nil)
 (.cons (.ret (.var 3))
 .nil))))))))
def pJ:MC:=⟨zX wS,uW,(fun _=>true),fns.take 11,gls,mts,its,sxm,[]⟩
theorem zad:FnScope uW ["_law_deal_here", "_law_many"] (zX wS):=⟨rfl,rfl,rfl,by decide +kernel,rfl,by decide +kernel,by decide +kernel⟩
theorem gA:sZ wQ pJ (zI wS)=true:=by decide +kernel
abbrev xK:Stmt:=dG 30
def kP:List Str:=["_law_deal_here", "_law_names_here", "_law_web_here", "_law_rows", "_law_turn", "_law_at", "_law_some", "_law_later", "_law_way"]
def qZ:ISs:=(.cons (.asg 3 (.call 3 (.cons (.var 2) .nil)))
 (.cons (.for (.nm 4) (.blt 0 (.cons (.call 10 (.cons (.var 0) (.cons (.con (.int 3)) .nil))) .nil)) (.cons (.asg 5 (.call 10 (.cons (.var 0) (.cons (.call 1 (.cons (.var 3) .nil)) .nil))))
 (.cons (.asgT (.cons (.nm 6) (.cons (.nm 7) .nil)) (.ix (.var 3) (.var 5)))
 (.cons (.asg 8 (.call 10 (.cons (.var 0) (.cons (.con (.int 4)) .nil))))
 (.cons (.ite (.cmp .Eq (.var 8) (.con (.int 0))) (.cons (.asg 6 (.bin .Add (.spc 3 (.cons (.var 6) .nil)) (.tup (.cons (.ix (.var 1) (.call 10 (.cons (.var 0) (.cons (.call 1 (.cons (.var 1) .nil)) .nil)))) .nil))))
 .nil) .nil)
 (.cons (.ite (.cmp .Eq (.var 8) (.con (.int 1))) (.cons (.asg 7 (.spc 3 (.cons (.var 7) .nil)))
 .nil) .nil)
 (.cons (.ite (.cmp .Gt (.var 8) (.con (.int 1))) (.cons (.asg 7 (.bin .Add (.var 7) (.tup (.cons (.ix (.lst (.cons (.con (.int 0)) (.cons (.var 5) (.cons (.call 1 (.cons (.var 3) .nil)) (.cons (.con (.int 999)) (.cons (.con (.int 10)) .nil)))))) (.call 10 (.cons (.var 0) (.cons (.con (.int 5)) .nil)))) .nil))))
 .nil) .nil)
 (.cons (.asgI (.var 3) (.var 5) (.tup (.cons (.var 6) (.cons (.var 7) .nil))))
 .nil))))))))
 (.cons (.ret (.call 6 (.cons (.var 3) .nil)))
 .nil)))
def tQ:MC:=⟨zX xK,kP,(fun _=>true),fns.take 12,gls,mts,its,sxm,[]⟩
theorem hJ:FnScope kP ["_law_deal_here", "_law_names_here", "_law_web_here"] (zX xK):=⟨rfl,rfl,rfl,by decide +kernel,rfl,by decide +kernel,by decide +kernel⟩
theorem pY:sZ qZ tQ (zI xK)=true:=by decide +kernel
abbrev jZ:Stmt:=dG 31
def tF:List Str:=["_law_web_here", "_law_rows", "_law_k"]
def vL:ISs:=(.cons (.asg 1 (.lst .nil))
 (.cons (.for (.nm 2) (.blt 0 (.cons (.call 1 (.cons (.var 0) .nil)) .nil)) (.cons (.ex (.mth 2 (.var 1) (.cons (.mth 1 (.con (.str " ")) (.cons (.bin .Add (.bin .Add (.bin .Add (.lst (.cons (.bin .Add (.call 8 (.cons (.var 2) .nil)) (.con (.str ":"))) .nil)) (.call 3 (.cons (.ix (.ix (.var 0) (.var 2)) (.con (.int 0))) .nil))) (.lst (.cons (.con (.str ">")) .nil))) (.lc (.nm 0) ["_law_j"] [] (.val (.ix (.ix (.var 0) (.var 2)) (.con (.int 1)))) .no (.call 8 (.cons (.var 0) .nil)))) .nil)) .nil)))
 .nil))
 (.cons (.ret (.mth 1 (.con (.str "\n")) (.cons (.var 1) .nil)))
 .nil)))
def gJ:MC:=⟨zX jZ,tF,(fun _=>true),fns.take 13,gls,mts,its,sxm,[]⟩
theorem zas:FnScope tF ["_law_web_here"] (zX jZ):=⟨rfl,rfl,rfl,by decide +kernel,rfl,by decide +kernel,by decide +kernel⟩
theorem dZ:sZ vL gJ (zI jZ)=true:=by decide +kernel
abbrev jH:Stmt:=dG 28
def rE:List Str:=["_law_deal_here", "_law_names_here", "_law_most", "_law_many", "_law_rows", "_law_at", "_law_later", "_law_j", "_law_one", "_law_some"]
def xG:ISs:=(.cons (.asg 3 (.bin .Add (.con (.int 1)) (.call 10 (.cons (.var 0) (.cons (.var 2) .nil)))))
 (.cons (.asg 4 (.spc 2 .nil))
 (.cons (.for (.nm 5) (.blt 0 (.cons (.bin .Sub (.var 3) (.con (.int 1))) (.cons (.neg (.con (.int 1))) (.cons (.neg (.con (.int 1))) .nil)))) (.cons (.asg 6 (.spc 2 .nil))
 (.cons (.for (.nm 7) (.blt 0 (.cons (.bin .Add (.var 5) (.con (.int 1))) (.cons (.var 3) .nil))) (.cons (.ite (.and (.cmp .NotIn (.var 7) (.var 6)) (.cmp .Eq (.call 10 (.cons (.var 0) (.cons (.con (.int 3)) .nil))) (.con (.int 0)))) (.cons (.asgI (.var 6) (.var 7) (.con (.bool true)))
 (.cons (.for (.nm 8) (.val (.ix (.ix (.var 4) (.var 7)) (.con (.int 1)))) (.cons (.asgI (.var 6) (.var 8) (.con (.bool true)))
 .nil))
 .nil)) .nil)
 .nil))
 (.cons (.asg 9 (.lc (.nm 0) ["_law_name"] [0] (.val (.var 1)) (.yes (.cmp .Eq (.call 10 (.cons (.var 1) (.cons (.con (.int 2)) .nil))) (.con (.int 1)))) (.var 0)))
 (.cons (.asg 9 (.lc (.nm 0) ["_law_name"] [4,6] (.val (.var 9)) (.yes (.call 2 (.cons (.lc (.nm 0) ["_law_j"] [0,1] (.val (.var 2)) .no (.cmp .In (.var 1) (.ix (.ix (.var 2) (.var 0)) (.con (.int 0))))) .nil))) (.var 0)))
 (.cons (.asgI (.var 4) (.var 5) (.tup (.cons (.call 6 (.cons (.call 5 (.cons (.var 9) .nil)) .nil)) (.cons (.call 6 (.cons (.call 5 (.cons (.var 6) .nil)) .nil)) .nil))))
 .nil))))))
 (.cons (.ret (.call 6 (.cons (.lc (.nm 0) ["_law_k"] [4] (.blt 0 (.cons (.var 3) .nil)) .no (.ix (.var 1) (.var 0))) .nil)))
 .nil))))
def cL:MC:=⟨zX jH,rE,(fun _=>true),fns.take 14,gls,mts,its,sxm,[]⟩
theorem zbL:FnScope rE ["_law_deal_here", "_law_names_here", "_law_most"] (zX jH):=⟨rfl,rfl,rfl,by decide +kernel,rfl,by decide +kernel,by decide +kernel⟩
theorem zai:sZ xG cL (zI jH)=true:=by decide +kernel
abbrev yL:Stmt:=dG 34
def jN:List Str:=["_law_deal_here", "_law_words", "_law_names_here", "_law_some", "_law_word", "_law_at", "_law_way"]
def wX:ISs:=(.cons (.asg 3 (.lst (.cons (.con (.str "")) (.cons (.con (.str ">")) (.cons (.con (.str "0")) (.cons (.con (.str "1")) (.cons (.con (.str "00")) (.cons (.con (.str "01")) (.cons (.con (.str "+1")) (.cons (.con (.str "-1")) (.cons (.con (.str "-0")) (.cons (.con (.str "1_0")) (.cons (.con (.str "1000")) (.cons (.con (.str "12")) (.cons (.con (.str "0:")) (.cons (.con (.str "1:")) (.cons (.con (.str ":")) (.cons (.con (.str "0 :")) (.cons (.con (.str "and")) .nil)))))))))))))))))))
 (.cons (.asg 3 (.bin .Add (.var 3) (.lst (.cons (.con (.str "then")) (.cons (.con (.str "A")) (.cons (.con (.str "a1")) (.cons (.con (.str "sevenab")) (.cons (.con (.str "a")) (.cons (.con (.str "b")) (.cons (.con (.str ">>")) (.cons (.con (.str "0,")) (.cons (.con (.str "1.")) (.cons (.con (.str "x:")) (.cons (.con (.str "or")) (.cons (.con (.str "not")) (.cons (.con (.str "999")) (.cons (.con (.str "3")) .nil)))))))))))))))))
 (.cons (.asg 4 (.ix (.bin .Add (.var 3) (.var 2)) (.call 10 (.cons (.var 0) (.cons (.bin .Add (.call 1 (.cons (.var 3) .nil)) (.call 1 (.cons (.var 2) .nil))) .nil)))))
 (.cons (.asg 5 (.call 10 (.cons (.var 0) (.cons (.call 1 (.cons (.var 1) .nil)) .nil))))
 (.cons (.asg 6 (.call 10 (.cons (.var 0) (.cons (.con (.int 4)) .nil))))
 (.cons (.ite (.cmp .Eq (.var 6) (.con (.int 0))) (.cons (.ret (.bin .Add (.sl (.var 1) .no (.yes (.var 5))) (.sl (.var 1) (.yes (.bin .Add (.var 5) (.con (.int 1)))) .no)))
 .nil) .nil)
 (.cons (.ite (.cmp .Eq (.var 6) (.con (.int 1))) (.cons (.ret (.bin .Add (.bin .Add (.sl (.var 1) .no (.yes (.var 5))) (.sl (.var 1) (.yes (.var 5)) (.yes (.bin .Add (.var 5) (.con (.int 1)))))) (.sl (.var 1) (.yes (.var 5)) .no)))
 .nil) .nil)
 (.cons (.ite (.cmp .Eq (.var 6) (.con (.int 2))) (.cons (.ret (.bin .Add (.bin .Add (.sl (.var 1) .no (.yes (.var 5))) (.lst (.cons (.var 4) .nil))) (.sl (.var 1) (.yes (.bin .Add (.var 5) (.con (.int 1)))) .no)))
 .nil) .nil)
 (.cons (.ret (.bin .Add (.bin .Add (.sl (.var 1) .no (.yes (.var 5))) (.lst (.cons (.var 4) .nil))) (.sl (.var 1) (.yes (.var 5)) .no)))
 .nil)))))))))
def qA:MC:=⟨zX yL,jN,(fun _=>true),fns.take 15,gls,mts,its,sxm,[]⟩
theorem tI:FnScope jN ["_law_deal_here", "_law_words", "_law_names_here"] (zX yL):=⟨rfl,rfl,rfl,by decide +kernel,rfl,by decide +kernel,by decide +kernel⟩
theorem uT:sZ wX qA (zI yL)=true:=by decide +kernel
abbrev yF:Stmt:=dG 35
def jF:List Str:=["_law_deal_here", "_law_text_here", "_law_names_here", "_law_rows", "_law_at", "_law_way", "_law_both", "_law_place"]
def yN:ISs:=(.cons (.asg 3 (.mth 3 (.var 1) (.cons (.con (.str "\n")) .nil)))
 (.cons (.asg 4 (.call 10 (.cons (.var 0) (.cons (.call 1 (.cons (.var 3) .nil)) .nil))))
 (.cons (.asg 5 (.call 10 (.cons (.var 0) (.cons (.con (.int 11)) .nil))))
 (.cons (.ite (.cmp .Eq (.var 5) (.con (.int 10))) (.cons (.asg 6 (.sl (.var 3) (.yes (.var 4)) (.yes (.bin .Add (.var 4) (.con (.int 2))))))
 (.cons (.asg 3 (.bin .Add (.bin .Add (.sl (.var 3) .no (.yes (.var 4))) (.spc 1 (.cons (.var 6) .nil))) (.sl (.var 3) (.yes (.bin .Add (.var 4) (.con (.int 2)))) .no)))
 .nil)) .nil)
 (.cons (.ite (.cmp .Lt (.var 5) (.con (.int 6))) (.cons (.asgI (.var 3) (.var 4) (.mth 1 (.con (.str " ")) (.cons (.call 15 (.cons (.var 0) (.cons (.mth 3 (.ix (.var 3) (.var 4)) (.cons (.con (.str " ")) .nil)) (.cons (.var 2) .nil)))) .nil)))
 .nil) .nil)
 (.cons (.ite (.cmp .Eq (.var 5) (.con (.int 6))) (.cons (.asg 3 (.bin .Add (.sl (.var 3) .no (.yes (.var 4))) (.sl (.var 3) (.yes (.bin .Add (.var 4) (.con (.int 1)))) .no)))
 .nil) .nil)
 (.cons (.ite (.cmp .Eq (.var 5) (.con (.int 7))) (.cons (.asg 3 (.bin .Add (.bin .Add (.sl (.var 3) .no (.yes (.var 4))) (.lst (.cons (.ix (.var 3) (.var 4)) .nil))) (.sl (.var 3) (.yes (.var 4)) .no)))
 .nil) .nil)
 (.cons (.ite (.cmp .Eq (.var 5) (.con (.int 8))) (.cons (.asg 3 (.bin .Add (.bin .Add (.sl (.var 3) .no (.yes (.var 4))) (.lst (.cons (.con (.str "")) .nil))) (.sl (.var 3) (.yes (.var 4)) .no)))
 .nil) .nil)
 (.cons (.ite (.cmp .Eq (.var 5) (.con (.int 9))) (.cons (.ex (.mth 2 (.var 3) (.cons (.con (.str "")) .nil)))
 .nil) .nil)
 (.cons (.ite (.and (.cmp .NotEq (.var 3) (.lst .nil)) (.cmp .Eq (.call 10 (.cons (.var 0) (.cons (.con (.int 8)) .nil))) (.con (.int 7)))) (.cons (.asg 7 (.call 10 (.cons (.var 0) (.cons (.bin .Add (.call 1 (.cons (.ix (.var 3) (.con (.int 0))) .nil)) (.con (.int 1))) .nil))))
 (.cons (.asgI (.var 3) (.con (.int 0)) (.bin .Add (.bin .Add (.sl (.ix (.var 3) (.con (.int 0))) .no (.yes (.var 7))) (.ix (.lst (.cons (.con (.str " ")) (.cons (.con (.str ".")) (.cons (.con (.str "|")) (.cons (.con (.str ",")) .nil))))) (.call 10 (.cons (.var 0) (.cons (.con (.int 4)) .nil))))) (.sl (.ix (.var 3) (.con (.int 0))) (.yes (.var 7)) .no)))
 .nil)) .nil)
 (.cons (.ret (.mth 1 (.con (.str "\n")) (.cons (.var 3) .nil)))
 .nil)))))))))))
def kH:MC:=⟨zX yF,jF,(fun _=>true),fns.take 16,gls,mts,its,sxm,[]⟩
theorem sJ:FnScope jF ["_law_deal_here", "_law_text_here", "_law_names_here"] (zX yF):=⟨rfl,rfl,rfl,by decide +kernel,rfl,by decide +kernel,by decide +kernel⟩
theorem tX:sZ yN kH (zI yF)=true:=by decide +kernel
abbrev xL:Stmt:=dG 29
def kQ:List Str:=["_law_thing"]
def jA:ISs:=(.cons (.ite (.or (.not (.chn .LtE .LtE (.con (.int 1)) (.call 1 (.cons (.var 0) .nil)) (.con (.int 6)))) (.cmp .In (.var 0) (.tup (.cons (.con (.str "and")) (.cons (.con (.str "or")) (.cons (.con (.str "not")) (.cons (.con (.str "then")) .nil))))))) (.cons (.ret (.con (.bool false)))
 .nil) .nil)
 (.cons (.ret (.cmp .Eq (.lc (.nm 0) ["_law_sign"] [] (.val (.var 0)) (.yes (.cmp .NotIn (.var 0) (.con (.str "abcdefghijklmnopqrstuvwxyz")))) (.var 0)) (.lst .nil)))
 .nil))
def tT:MC:=⟨zX xL,kQ,(fun _=>true),fns.take 17,gls,mts,its,sxm,[]⟩
theorem hU:FnScope kQ ["_law_thing"] (zX xL):=⟨rfl,rfl,rfl,by decide +kernel,rfl,by decide +kernel,by decide +kernel⟩
theorem pZ:sZ jA tT (zI xL)=true:=by decide +kernel
abbrev yB:Stmt:=dG 32
def qU:List Str:=["_law_word"]
def wA:ISs:=(.cons (.ret (.cmp .In (.var 0) (.lc (.nm 0) ["_law_number"] [] (.blt 0 (.cons (.con (.int 1000)) .nil)) .no (.call 8 (.cons (.var 0) .nil)))))
 .nil)
def vH:MC:=⟨zX yB,qU,(fun _=>true),fns.take 18,gls,mts,its,sxm,[]⟩
theorem rN:FnScope qU ["_law_word"] (zX yB):=⟨rfl,rfl,rfl,by decide +kernel,rfl,by decide +kernel,by decide +kernel⟩
theorem sY:sZ wA vH (zI yB)=true:=by decide +kernel
abbrev jG:Stmt:=dG 33
def rD:List Str:=["_law_text_here", "_law_web_here", "_law_k", "_law_row", "_law_words", "_law_names_here", "_law_places"]
def uA:ISs:=(.cons (.asg 1 (.lst .nil))
 (.cons (.for (.tup (.cons (.nm 2) (.cons (.nm 3) .nil))) (.blt 1 (.cons (.mth 3 (.var 0) (.cons (.con (.str "\n")) .nil)) .nil)) (.cons (.asg 4 (.mth 3 (.var 3) (.cons (.con (.str " ")) .nil)))
 (.cons (.ite (.or (.cmp .NotEq (.ix (.var 4) (.con (.int 0))) (.bin .Add (.call 8 (.cons (.var 2) .nil)) (.con (.str ":")))) (.cmp .NotEq (.mth 4 (.var 4) (.cons (.con (.str ">")) .nil)) (.con (.int 1)))) (.cons (.ret (.con .none))
 .nil) .nil)
 (.cons (.asg 5 (.sl (.var 4) (.yes (.con (.int 1))) (.yes (.mth 5 (.var 4) (.cons (.con (.str ">")) .nil)))))
 (.cons (.asg 6 (.sl (.var 4) (.yes (.bin .Add (.mth 5 (.var 4) (.cons (.con (.str ">")) .nil)) (.con (.int 1)))) .no))
 (.cons (.ite (.cmp .NotEq (.lc (.nm 0) ["_law_word"] [] (.val (.var 5)) (.yes (.not (.call 17 (.cons (.var 0) .nil)))) (.var 0)) (.lst .nil)) (.cons (.ret (.con .none))
 .nil) .nil)
 (.cons (.ite (.cmp .NotEq (.lc (.nm 0) ["_law_word"] [] (.val (.var 6)) (.yes (.not (.call 18 (.cons (.var 0) .nil)))) (.var 0)) (.lst .nil)) (.cons (.ret (.con .none))
 .nil) .nil)
 (.cons (.ex (.mth 2 (.var 1) (.cons (.tup (.cons (.call 6 (.cons (.var 5) .nil)) (.cons (.call 6 (.cons (.lc (.nm 0) ["_law_word"] [] (.val (.var 6)) .no (.call 7 (.cons (.var 0) .nil))) .nil)) .nil))) .nil)))
 .nil))))))))
 (.cons (.ret (.call 6 (.cons (.var 1) .nil)))
 .nil)))
def cK:MC:=⟨zX jG,rD,(fun _=>true),fns.take 19,gls,mts,its,sxm,[]⟩
theorem zbM:FnScope rD ["_law_text_here"] (zX jG):=⟨rfl,rfl,rfl,by decide +kernel,rfl,by decide +kernel,by decide +kernel⟩
theorem zaj:sZ uA cK (zI jG)=true:=by decide +kernel
abbrev qL:Stmt:=dG 17
def gQ:List Str:=["thing"]
def rZ:ISs:=(.cons (.ite (.or (.not (.call 4 (.cons (.var 0) (.cons (.glb 4) .nil)))) (.not (.chn .LtE .LtE (.con (.int 1)) (.call 1 (.cons (.var 0) .nil)) (.glb 0)))) (.cons (.ret (.con (.bool false)))
 .nil) .nil)
 (.cons (.ret (.and (.cmp .NotIn (.var 0) (.glb 1)) (.call 2 (.cons (.lc (.nm 0) ["sign"] [] (.val (.var 0)) .no (.chn .LtE .LtE (.con (.str "a")) (.var 0) (.con (.str "z")))) .nil))))
 .nil))
def zbh:MC:=⟨zX qL,gQ,(fun _=>true),fns.take 20,gls,mts,its,sxm,[]⟩
theorem zcF:FnScope gQ ["thing"] (zX qL):=⟨rfl,rfl,rfl,by decide +kernel,rfl,by decide +kernel,by decide +kernel⟩
theorem zaE:sZ rZ zbh (zI qL)=true:=by decide +kernel
abbrev xD:Stmt:=dG 13
def vV:List Str:=["word", "most_figures"]
def qR:RTs:=(.cons (.ite (.or (.not (.chn .LtE .LtE (.con (.int 1)) (.call 1 (.cons (.var 0) .nil)) (.var 1))) (.not (.call 2 (.cons (.lc (.nm 0) ["sign"] [] (.val (.var 0)) .no (.chn .LtE .LtE (.con (.str "0")) (.var 0) (.con (.str "9")))) .nil)))) (.cons (.rse 0 .nil)
 .nil) .nil)
 (.cons (.ite (.and (.cmp .Eq (.ix (.var 0) (.con (.int 0))) (.con (.str "0"))) (.cmp .NotEq (.var 0) (.con (.str "0")))) (.cons (.rse 0 .nil)
 .nil) .nil)
 (.cons (.pl (.ret (.call 7 (.cons (.var 0) .nil))))
 .nil)))
def sO:MX:=⟨["tuple"],["NoText"],["TalkError"]⟩
def sG:MC:=⟨zX xD,vV,(fun _=>true),fns.take 21,gls,mts,its,sxm,[]⟩
theorem fC:FnScope vV ["word", "most_figures"] (zX xD):=⟨rfl,rfl,rfl,by decide +kernel,rfl,by decide +kernel,by decide +kernel⟩
theorem nX:mXs sG sO qR (zI xD)=true:=by decide +kernel
abbrev wU:Stmt:=dG 23
def uX:List Str:=["number", "row", "words", "sign", "names"]
def kU:RTs:=(.cons (.pl (.asg 2 (.mth 3 (.var 1) (.cons (.con (.str " ")) .nil))))
 (.cons (.ite (.or (.cmp .NotEq (.ix (.var 2) (.con (.int 0))) (.spc 4 (.cons (.var 0) .nil))) (.cmp .NotIn (.con (.str ">")) (.var 2))) (.cons (.rse 0 .nil)
 .nil) .nil)
 (.cons (.pl (.asg 3 (.mth 5 (.var 2) (.cons (.con (.str ">")) .nil))))
 (.cons (.pl (.asg 4 (.sl (.var 2) (.yes (.con (.int 1))) (.yes (.var 3)))))
 (.cons (.ite (.not (.call 2 (.cons (.lc (.nm 0) ["name"] [] (.val (.var 4)) .no (.call 20 (.cons (.var 0) .nil))) .nil))) (.cons (.rse 0 .nil)
 .nil) .nil)
 (.cons (.rt2 (.call 6 (.cons (.var 4) .nil)) 0 (.nm 0) ["word"] [] (.val (.sl (.var 2) (.yes (.bin .Add (.var 3) (.con (.int 1)))) .no)) 1 (.cons (.var 0) (.cons (.glb 2) .nil)))
 .nil))))))
def pQ:MX:=⟨["tuple", "read_number"],["NoText"],["TalkError"]⟩
def pK:MC:=⟨zX wU,uX,(fun _=>true),fns.take 22,gls,mts,its,sxm,[]⟩
theorem zac:FnScope uX ["number", "row"] (zX wU):=⟨rfl,rfl,rfl,by decide +kernel,rfl,by decide +kernel,by decide +kernel⟩
theorem gB:mXs pK pQ kU (zI wU)=true:=by decide +kernel
abbrev jI:Stmt:=dG 22
def rG:List Str:=["text"]
def qM:RTs:=(.cons (.ite (.not (.call 4 (.cons (.var 0) (.cons (.glb 4) .nil)))) (.cons (.rse 0 .nil)
 .nil) .nil)
 (.cons (.pl (.ite (.cmp .Eq (.var 0) (.con (.str ""))) (.cons (.ret (.tup .nil))
 .nil) .nil))
 (.cons (.rtl 0 (.tup (.cons (.nm 0) (.cons (.nm 1) .nil))) ["number", "row"] [] (.blt 1 (.cons (.mth 3 (.var 0) (.cons (.con (.str "\n")) .nil)) .nil)) 2 (.cons (.var 0) (.cons (.var 1) .nil)))
 .nil)))
def dJ:MX:=⟨["tuple", "read_number", "read_world"],["NoText"],["TalkError"]⟩
def cO:MC:=⟨zX jI,rG,(fun _=>true),fns.take 23,gls,mts,its,sxm,[]⟩
theorem zbK:FnScope rG ["text"] (zX jI):=⟨rfl,rfl,rfl,by decide +kernel,rfl,by decide +kernel,by decide +kernel⟩
theorem zah:mXs cO dJ qM (zI jI)=true:=by decide +kernel
abbrev jX:Stmt:=dG 36
def tD:List Str:=["_law_text_here", "_law_caught", "_law_found", "e"]
def vJ:RTs:=(.cons (.pl (.asg 1 (.con .none)))
 (.cons (.pl (.asg 2 (.con .none)))
 (.cons (.try 3 1 0 (.cons (.asx 2 3 (.cons (.var 0) .nil))
 .nil))
 (.cons (.pl (.ite (.and (.cmp .Is (.var 1) (.con .none)) (.cmp .Is (.var 2) (.con .none))) (.cons (.ret (.con (.str "other")))
 .nil) .nil))
 (.cons (.pl (.ite (.cmp .Is (.var 1) (.con .none)) (.cons (.ret (.var 2))
 .nil) .nil))
 (.cons (.pl (.ite (.call 4 (.cons (.var 1) (.cons (.tup (.cons (.glb 13) (.cons (.glb 7) (.cons (.glb 8) (.cons (.glb 9) (.cons (.glb 10) .nil)))))) .nil))) (.cons (.ret (.con (.str "other")))
 .nil) .nil))
 (.cons (.pl (.ite (.or (.call 4 (.cons (.var 1) (.cons (.tup (.cons (.glb 11) (.cons (.glb 12) (.cons (.glb 14) (.cons (.glb 15) .nil))))) .nil))) (.not (.call 4 (.cons (.var 1) (.cons (.glb 6) .nil))))) (.cons (.ret (.con (.str "other")))
 .nil) .nil))
 (.cons (.pl (.ret (.con .none)))
 .nil))))))))
def nB:MX:=⟨["tuple", "read_number", "read_world", "read_web"],["NoText"],["TalkError"]⟩
def gH:MC:=⟨zX jX,tD,(fun _=>true),fns.take 24,gls,mts,its,sxm,[]⟩
theorem zau:FnScope tD ["_law_text_here"] (zX jX):=⟨rfl,rfl,rfl,by decide +kernel,rfl,by decide +kernel,by decide +kernel⟩
theorem dX:mXs gH nB vJ (zI jX)=true:=by decide +kernel
abbrev jY:Stmt:=dG 37
def tE:List Str:=["_law_found", "_law_due_here", "_law_names_here", "_law_later"]
def vK:ISs:=(.cons (.ite (.or (.not (.call 4 (.cons (.var 0) (.cons (.glb 5) .nil)))) (.cmp .NotEq (.var 0) (.var 1))) (.cons (.ret (.con (.bool false)))
 .nil) .nil)
 (.cons (.for (.tup (.cons (.nm 2) (.cons (.nm 3) .nil))) (.val (.var 0)) (.cons (.ite (.or (.not (.call 4 (.cons (.var 2) (.cons (.glb 5) .nil)))) (.cmp .In (.con (.bool true)) (.lc (.nm 0) ["_law_j"] [] (.val (.var 3)) .no (.call 4 (.cons (.var 0) (.cons (.glb 3) .nil)))))) (.cons (.ret (.con (.bool false)))
 .nil) .nil)
 .nil))
 (.cons (.ret (.con (.bool true)))
 .nil)))
def gI:MC:=⟨zX jY,tE,(fun _=>true),fns.take 25,gls,mts,its,sxm,[]⟩
theorem zat:FnScope tE ["_law_found", "_law_due_here"] (zX jY):=⟨rfl,rfl,rfl,by decide +kernel,rfl,by decide +kernel,by decide +kernel⟩
theorem dY:sZ vK gI (zI jY)=true:=by decide +kernel
abbrev wV:Stmt:=dG 21
def uY:List Str:=["number", "world", "names", "later"]
def kX:ISs:=(.cons (.asgT (.cons (.nm 2) (.cons (.nm 3) .nil)) (.var 1))
 (.cons (.ret (.mth 1 (.con (.str " ")) (.cons (.bin .Add (.bin .Add (.bin .Add (.lst (.cons (.spc 4 (.cons (.var 0) .nil)) .nil)) (.call 3 (.cons (.var 2) .nil))) (.lst (.cons (.con (.str ">")) .nil))) (.lc (.nm 0) ["other"] [] (.val (.var 3)) .no (.call 8 (.cons (.var 0) .nil)))) .nil)))
 .nil))
def pL:MC:=⟨zX wV,uY,(fun _=>true),fns.take 26,gls,mts,its,sxm,[]⟩
theorem zab:FnScope uY ["number", "world"] (zX wV):=⟨rfl,rfl,rfl,by decide +kernel,rfl,by decide +kernel,by decide +kernel⟩
theorem gC:sZ kX pL (zI wV)=true:=by decide +kernel
abbrev jJ:Stmt:=dG 20
def rH:List Str:=["web"]
def uB:ISs:=(.cons (.ret (.mth 1 (.con (.str "\n")) (.cons (.lc (.tup (.cons (.nm 0) (.cons (.nm 1) .nil))) ["number", "world"] [] (.blt 1 (.cons (.var 0) .nil)) .no (.call 26 (.cons (.var 0) (.cons (.var 1) .nil)))) .nil)))
 .nil)
def cP:MC:=⟨zX jJ,rH,(fun _=>true),fns.take 27,gls,mts,its,sxm,[]⟩
theorem zbJ:FnScope rH ["web"] (zX jJ):=⟨rfl,rfl,rfl,by decide +kernel,rfl,by decide +kernel,by decide +kernel⟩
theorem zag:sZ uB cP (zI jJ)=true:=by decide +kernel
abbrev slaw:Stmt:=dG 38
def nlaw:List Str:=["_law_script", "_law_deal_here", "_law_names_here", "_law_web_here", "_law_text_here", "_law_turn", "_law_other", "_law_due_here", "_law_found"]
def blaw:ISs:=(.cons (.asg 1 (.call 9 (.cons (.var 0) (.cons (.con (.int 0)) .nil))))
 (.cons (.asg 2 (.call 11 (.cons (.var 1) (.cons (.bin .Add (.con (.int 1)) (.call 10 (.cons (.var 1) (.cons (.con (.int 5)) .nil)))) .nil))))
 (.cons (.asg 3 (.call 12 (.cons (.var 1) (.cons (.var 2) (.cons (.call 14 (.cons (.var 1) (.cons (.var 2) (.cons (.con (.int 12)) .nil)))) .nil)))))
 (.cons (.asg 4 (.call 13 (.cons (.var 3) .nil)))
 (.cons (.ite (.or (.cmp .NotEq (.call 27 (.cons (.var 3) .nil)) (.var 4)) (.not (.call 25 (.cons (.call 23 (.cons (.var 4) .nil)) (.cons (.var 3) .nil))))) (.cons (.ret (.con (.bool false)))
 .nil) .nil)
 (.cons (.for (.nm 5) (.blt 0 (.cons (.con (.int 4)) .nil)) (.cons (.asg 6 (.call 16 (.cons (.var 1) (.cons (.var 4) (.cons (.var 2) .nil)))))
 (.cons (.asg 7 (.call 19 (.cons (.var 6) .nil)))
 (.cons (.ite (.cmp .Eq (.var 6) (.con (.str ""))) (.cons (.asg 7 (.tup .nil))
 .nil) .nil)
 (.cons (.asg 8 (.call 24 (.cons (.var 6) .nil)))
 (.cons (.ite (.or (.and (.cmp .Is (.var 7) (.con .none)) (.cmp .IsNot (.var 8) (.con .none))) (.and (.cmp .IsNot (.var 7) (.con .none)) (.not (.call 25 (.cons (.var 8) (.cons (.var 7) .nil)))))) (.cons (.ret (.con (.bool false)))
 .nil) .nil)
 .nil))))))
 (.cons (.ite (.cmp .NotEq (.lc (.nm 0) ["_law_thing"] [] (.val (.tup (.cons (.con .none) (.cons (.con (.int 5)) (.cons (.con (.bool true)) (.cons (.lst (.cons (.var 4) .nil)) (.cons (.tup (.cons (.var 4) .nil)) .nil))))))) .no (.call 24 (.cons (.var 0) .nil))) (.bin .Mult (.lst (.cons (.con .none) .nil)) (.con (.int 5)))) (.cons (.ret (.con (.bool false)))
 .nil) .nil)
 (.cons (.ret (.and (.cmp .Eq (.call 27 (.cons (.tup .nil) .nil)) (.con (.str ""))) (.and (.cmp .Eq (.call 23 (.cons (.con (.str "")) .nil)) (.tup .nil)) (.call 25 (.cons (.call 23 (.cons (.var 4) .nil)) (.cons (.var 3) .nil))))))
 .nil))))))))
def mlaw:MC:=⟨zX slaw,nlaw,(fun _=>true),fns.take 28,gls,mts,its,sxm,[]⟩
theorem sclaw:FnScope nlaw ["_law_script"] (zX slaw):=⟨rfl,rfl,rfl,by decide +kernel,rfl,by decide +kernel,by decide +kernel⟩
theorem zho:sZ blaw mlaw (zI slaw)=true:=by decide +kernel
end K70
namespace K70
open PySem PySem.Spec PyProof.Rows L2 L3
open PySem.W (nsIn keepIn codeIn mg_of findIn mg_none_of fnOf)
def sQ:List Str:=["and", "or", "not", "then"]
def ltB (c:Nat):Bool:=decide (97<=c)&&decide (c<=122)
def xY (x:Str):Bool:=x.cps.toList.all ltB
def vY (x:Str):Bool:=decide (1<=x.length)&&decide (x.length<=6)&&!sQ.contains x&&xY x
theorem zcV {x:Str} (h:vY x=true):x.length<=6:=by
 simp only[vY,Zh,decide_eq_true_eq] at h;exact h.1.1.2
theorem zjI {x:Str} (h:vY x=true):∀ c∈x.cps.toList,97<=c:=by
 simp only[vY,Zh,xY,ZC] at h;intro c hc;have:=h.2 c hc;simp only[ltB,Zh,decide_eq_true_eq] at this;exact this.1
def jR (n:Nat):Str:=Str.ofString (toString (n:Int))
def dgB (c:Nat):Bool:=decide (48<=c)&&decide (c<=57)
def wL (x:Str):Bool:=decide (1<=x.length)&&decide (x.length<=3)&&x.cps.toList.all dgB&&!(decide (x.cps.toList.head?=some 48)&&!(x == "0"))
theorem tH:∀ n,n<1000->wL (jR n)=true/\intText? (jR n)=some (n:Int):=by decide +kernel
theorem one_d:∀ a,a<10->(⟨#[48+a]⟩:Str)=jR a:=by decide +kernel
theorem two_d:∀ a,a<10->∀ b,b<10->a≠0->(⟨#[48+a,48+b]⟩:Str)=jR (10 * a+b):=by decide +kernel
theorem zgG:∀ a,a<10->∀ b,b<10->∀ c,c<10->a≠0->(⟨#[48+a,48+b,48+c]⟩:Str)=jR (100 * a+10 * b+c):=by decide +kernel
theorem bS {c:Nat} (h:dgB c=true):∃ a,a<10/\c=48+a:=by
 simp only[dgB,Zh,decide_eq_true_eq] at h;exact ⟨c-48,by omega,by omega⟩
theorem zdH {x:Str} (h:wL x=true):∃ n,n<1000/\x=jR n:=by
 simp only[wL,Zh,decide_eq_true_eq,ZC] at h;obtain ⟨⟨⟨h1,h3⟩,hd⟩,h0⟩:=h;have e:x=⟨x.cps.toList.toArray⟩:=by simp
 have hl:x.cps.toList.length=x.length:=by rw[ZB];rfl
 rw[e] at h0 ⊢;generalize x.cps.toList=l at *
 match l,hl with
 | [],hl=>simp at hl;omega
 | [p],hl =>
  obtain ⟨a,ha,rfl⟩:=bS (hd p (by simp));exact ⟨a,by omega,one_d a ha⟩
 | [p,q],hl =>
  obtain ⟨a,ha,rfl⟩:=bS (hd p (by simp));obtain ⟨b,hb,rfl⟩:=bS (hd q (by simp))
  have a0:a≠0:=fun z=>by
   subst z
   have:((⟨#[48+0,48+b]⟩:Str) == "0")=false:=by
    rw[beq_eq_false_iff_ne];intro w;have:=congrArg Str.length w;cases this
   simp[this] at h0
  exact ⟨10 * a+b,by omega,two_d a ha b hb a0⟩
 | [p,q,r],hl =>
  obtain ⟨a,ha,rfl⟩:=bS (hd p (by simp));obtain ⟨b,hb,rfl⟩:=bS (hd q (by simp));obtain ⟨c,hc,rfl⟩:=bS (hd r (by simp))
  have a0:a≠0:=fun z=>by
   subst z
   have:((⟨#[48+0,48+b,48+c]⟩:Str) == "0")=false:=by
    rw[beq_eq_false_iff_ne];intro w;have:=congrArg Str.length w;cases this
   simp[this] at h0
  exact ⟨100 * a+10 * b+c,by omega,zgG a ha b hb c hc a0⟩
 |_::_::_::_::_,hl=>simp at hl;omega
def numB (x:Str):Bool:=((List.range 1000).map jR).contains x
theorem zhl (x:Str):numB x=wL x:=by
 rw[Zci];unfold numB;rw[ZV,ZbU]
 constructor
 .rintro ⟨n,hn,rfl⟩;exact (tH n (ZH.mp hn)).1
 .intro h;obtain ⟨n,hn,rfl⟩:=zdH h;exact ⟨n,ZH.mpr hn,rfl⟩
def kK (x:Str):Nat:=((intText? x).getD 0).toNat
theorem zb9 {n:Nat} (h:n<1000):kK (jR n)=n:=by
 unfold kK;rw[(tH n h).2];simp
theorem zca {x:Str} (h:wL x=true):intText? x=some ((kK x:Nat):Int)/\kK x<1000:=by
 obtain ⟨n,hn,rfl⟩:=zdH h;rw[zb9 hn];exact ⟨(tH n hn).2,hn⟩
structure Wd where
 ns:List Str
 ls:List Nat
def wG (l:List Nat):List W:=l.map fun n:Nat=>.int (n:Int)
def Wd.w (v:Wd):W:=.tup [.tup (v.ns.map .str),.tup (wG v.ls)]
def wY (web:List Wd):W:=.tup (web.map Wd.w)
structure Wd.ok (v:Wd) (b c:Nat):Prop where
 nm:∀ x∈v.ns,vY x=true
 lt:∀ n∈v.ls,n<1000
 nl:v.ns.length<=b
 ll:v.ls.length<=c
theorem Wd.ok.mono {v:Wd} {b c b' c':Nat} (h:v.ok b c) (hb:b<=b') (hc:c<=c'):v.ok b' c':=⟨h.nm,h.lt,Zn h.nl hb,Zn h.ll hc⟩
def hd (k:Nat):Str:=jR k ++ ":"
def gt:Str := ">"
def rdR (k:Nat) (ws:List Str):Option Wd :=
 if (decide (ws.head?=some (hd k))&&ws.contains gt&&(((ws.take (ws.idxOf gt)).drop 1).all vY&&(ws.drop (ws.idxOf gt+1)).all wL))=true then some ⟨(ws.take (ws.idxOf gt)).drop 1,(ws.drop (ws.idxOf gt+1)).map kK⟩ else none
theorem zkp:wL gt=false:=by decide +kernel
theorem zdj {α:Type} [BEq α] [LawfulBEq α] {l:List α} {x:α} (h:x∈l):l=l.take (l.idxOf x)++x::l.drop (l.idxOf x+1)/\x∉l.take (l.idxOf x):=by
 induction l with
 |nil=>cases h
 |cons y r ih =>
  by_cases e:y=x
  .subst e;simp
  .have hr:x∈r:=by
    rcases Zp.mp h with z|z
    .exact absurd z.symm e
    .exact z
   obtain ⟨i1,i2⟩:=ih hr;have e':(y==x)=false:=by simpa using e
   rw[List.idxOf_cons,e'];simp only[cond_false,List.take_succ_cons,List.drop_succ_cons,Zau,Zp,not_or];refine ⟨?_,Ne.symm e,i2⟩;rw[← i1]
theorem zeC {ws:List Str} (h:gt∈ws) (hc:ws.count gt≠1):(ws.drop (ws.idxOf gt+1)).all wL=false:=by
 obtain ⟨e,n⟩:=zdj h
 have c:ws.count gt=(ws.drop (ws.idxOf gt+1)).count gt+1:=by
  conv=>lhs;rw[e]
  rw[List.count_append,List.count_eq_zero.mpr n,List.count_cons_self];omega
 have m:gt∈ws.drop (ws.idxOf gt+1):=ZbR.mp (by omega);rw[Zb4];exact ⟨gt,m,by rw[zkp];simp⟩
theorem zi5 {k:Nat} {ws:List Str}:rdR k ws=if (decide (ws.head?=some (hd k))&&decide (ws.count gt=1))=true then (if (((ws.take (ws.idxOf gt)).drop 1).all vY&&(ws.drop (ws.idxOf gt+1)).all wL)=true then some ⟨(ws.take (ws.idxOf gt)).drop 1,(ws.drop (ws.idxOf gt+1)).map kK⟩ else none) else none:=by
 unfold rdR
 by_cases hc:ws.count gt=1
 .have hm:ws.contains gt=true:=ZV.mpr (ZbR.mp (by omega));rw[hm,decide_eq_true hc];cases decide (ws.head?=some (hd k))<;>simp
 .rw[decide_eq_false hc,Z4,if_neg zzN]
  by_cases hm:gt∈ws
  .rw[zeC hm hc,Z4,Z4,if_neg zzN]
  .have:ws.contains gt=false:=by simpa using hm
   rw[this,Z4,Z6,if_neg zzN]
def rdK (rows:List Str) (k:Nat):Option Wd:=rdR k (Txt.split (rows.getD k "") " ")
def rdL (rows:List Str) (i:Nat):List Wd:=(List.range i).filterMap (rdK rows)
def rdW (rows:List Str):Option (List Wd):=if (List.range rows.length).all (fun k=>(rdK rows k).isSome)=true then some (rdL rows rows.length) else none
theorem zi4 {rows:List Str} {k:Nat} (hk:k<rows.length) (h:rdK rows k=none):rdW rows=none:=by
 unfold rdW;rw[if_neg];rw[Zbx,Zb4];exact ⟨k,ZH.mpr hk,by rw[h];simp⟩
theorem zcJ {rows:List Str} (h:∀ k,k<rows.length->∃ v,rdK rows k=some v):rdW rows=some (rdL rows rows.length):=by
 unfold rdW;rw[if_pos];rw[ZC];intro k hk;obtain ⟨v,e⟩:=h k (ZH.mp hk);rw[e];rfl
theorem za8 {rows:List Str} {i:Nat} {v:Wd} (h:rdK rows i=some v):rdL rows (i+1)=rdL rows i++[v]:=by
 unfold rdL;rw[List.range_succ,Zaz];simp[h]
def wF (k:Nat) (v:Wd):List Str:=hd k::v.ns++[gt]++v.ls.map jR
def nY (k:Nat) (v:Wd):Str:=Txt.join " " (wF k v)
def xX (web:List Wd):List Str:=(List.range web.length).map fun k=>nY k (web.getD k ⟨[],[]⟩)
def nA (web:List Wd):Str:=Txt.join "\n" (xX web)
theorem zcr:(" " : Str)=⟨#[32]⟩:=by decide +kernel
theorem pM:("\n" : Str)=⟨#[10]⟩:=by decide +kernel
theorem mM {c:Nat} {ps:List Str} (h:ps≠[]) (hf:∀ p∈ps,c∉p.cps.toList):Txt.split (Txt.join ⟨#[c]⟩ ps) ⟨#[c]⟩=ps:=by
 rw[zej,show Txt.join ⟨#[c]⟩ ps=Str.join ⟨#[c]⟩ ps from ZaA _ ps,fO ps h hf,ZO]
 conv=>rhs;rw[← List.map_id ps]
 exact Zaf fun a _=>by simp
theorem zjE {n:Nat} (h:n<1000):∀ c∈(jR n).cps.toList,48<=c:=by
 have:=(tH n h).1;simp only[wL,Zh,ZC] at this;intro c hc;have:=this.1.2 c hc;simp only[dgB,Zh,decide_eq_true_eq] at this;exact this.1
theorem hd_c {n:Nat} (h:n<1000):∀ c∈(hd n).cps.toList,48<=c:=by
 intro c hc;unfold hd at hc;rw[ZaW,Zae,ZE] at hc;rcases hc with hc|hc
 .exact zjE h c hc
 .have:∀ c∈(":" : Str).cps.toList,48<=c:=by decide +kernel
  exact this c hc
theorem zfI {k:Nat} {v:Wd} {b c:Nat} (hk:k<1000) (o:v.ok b c):∀ p∈wF k v,∀ c∈p.cps.toList,33<=c:=by
 intro p hp c hc;simp only[wF,ZE,Zp,ZL,or_false,ZbU] at hp;rcases hp with ((rfl|hp)|rfl)|⟨n,hn,rfl⟩
 .have:=hd_c hk c hc;omega
 .have:=zjI (o.nm p hp) c hc;omega
 .have:∀ c∈gt.cps.toList,33<=c:=by decide +kernel
  exact this c hc
 .have:=zjE (o.lt n hn) c hc;omega
theorem zd9 (k:Nat) (v:Wd):wF k v≠[]:=by simp[wF]
theorem zcG {k:Nat} {v:Wd} {b c:Nat} (hk:k<1000) (o:v.ok b c):Txt.split (nY k v) " " = wF k v:=by
 unfold nY;rw[zcr];exact mM (zd9 k v) fun p hp hc=>by have:=zfI hk o p hp 32 hc;omega
theorem row_c {k:Nat} {v:Wd} {b c:Nat} (hk:k<1000) (o:v.ok b c):10∉(nY k v).cps.toList:=fun h=>by
 unfold nY at h;rw[show Txt.join " " (wF k v)=Str.join " " (wF k v) from ZaA _ _] at h;rcases zbl (c:=0) _ _ h with h|⟨p,hp,h⟩
 .revert h;decide +kernel
 .have:=zfI hk o p hp 10 h;omega
theorem zeB {k:Nat} {v:Wd} {b c:Nat} (hk:k<1000) (o:v.ok b c):rdR k (wF k v)=some v:=by
 have g1:gt∉hd k::v.ns:=by
  intro h;rcases Zp.mp h with h|h
  .have hl:=congrArg Str.length h
   have h1:1<=(jR k).length:=by
    have:=(tH k hk).1;simp only[wL,Zh,decide_eq_true_eq] at this;exact this.1.1.1
   unfold hd at hl;rw[Zz,show gt.length=1 from by decide +kernel,show (":" : Str).length=1 from by decide +kernel] at hl;omega
  .have:=zjI (o.nm _ h) 62 (by decide +kernel);omega
 have e:(wF k v).idxOf gt=v.ns.length+1:=by
  unfold wF;rw[Zbq,List.idxOf_append,if_neg g1];simp
 have e1:(wF k v).take (v.ns.length+1)=hd k::v.ns:=by
  unfold wF;rw[Zbq,List.take_append_of_le_length (by simp)];exact Zad (by simp)
 have e2:(wF k v).drop (v.ns.length+1+1)=v.ls.map jR:=by
  unfold wF;rw[List.drop_append,List.drop_of_length_le (by simp)];simp
 have c:(wF k v).contains gt=true:=ZV.mpr (by simp[wF]);unfold rdR;rw[e,e1,e2,c];have a1:(v.ns.all vY)=true:=ZC.mpr o.nm
 have a2:((v.ls.map jR).all wL)=true:=ZC.mpr fun x hx=>by
  obtain ⟨n,hn,rfl⟩:=zzP hx;exact (tH n (o.lt n hn)).1
 have a3:(v.ls.map jR).map kK=v.ls:=by
  rw[ZO]
  conv=>rhs;rw[← List.map_id v.ls]
  exact Zaf fun n hn=>zb9 (o.lt n hn)
 simp only[wF,Zau,List.head?_cons,decide_true,ZaP,List.drop_succ_cons,Zcv,a1,a2,Zcy,if_true,a3]
theorem zb6 {web:List Wd} {b c:Nat} (h1:1<=web.length) (hl:web.length<=1000) (o:∀ v∈web,v.ok b c):Txt.split (nA web) "\n" = xX web:=by
 unfold nA;rw[pM];refine mM (fun h=>?_) fun p hp=>?_
 .have:=congrArg List.length h;simp[xX] at this;rw[this] at h1;simp at h1
 .simp only[xX,ZbU,ZH] at hp;obtain ⟨k,hk,rfl⟩:=hp;have hv:web.getD k ⟨[],[]⟩=web[k]:=by simp[List.getD,hk]
  rw[hv];exact row_c (by omega) (o _ (ZJ hk))
theorem zfY {web:List Wd} {b c:Nat} (h1:1<=web.length) (hl:web.length<=1000) (o:∀ v∈web,v.ok b c):rdW (Txt.split (nA web) "\n")=some web:=by
 rw[zb6 h1 hl o]
 have key:∀ k (hk:k<web.length),rdK (xX web) k=some web[k]:=by
  intro k hk;have hv:(xX web).getD k "" = nY k web[k]:=by simp[xX,List.getD,hk]
  unfold rdK;rw[hv,zcG (by omega) (o _ (ZJ hk))];exact zeB (by omega) (o _ (ZJ hk))
 have hL:(xX web).length=web.length:=by simp[xX]
 rw[zcJ fun k hk=>⟨_,key k (by omega)⟩,hL];congr 1
 have:∀ i,i<=web.length->rdL (xX web) i=web.take i:=by
  intro i
  induction i with
  |zero=>intro _;rfl
  |succ i ih =>
   intro hi;rw[za8 (key i (by omega)),ih (by omega),ZS (by omega)]
 rw[this _ (zzR _),ZbA]
theorem zir {web:List Wd} {b c:Nat} (h1:1<=web.length) (hl:web.length<=1000) (o:∀ v∈web,v.ok b c):nA web ≠ "" := fun e=>by
 have h:=zfY h1 hl o;rw[e] at h;have:rdW (Txt.split "" "\n")=none:=by decide +kernel
 rw[this] at h;cases h
def qE (l:List Str):Nat:=(l.map fun x=>x.length+1).sum
theorem yE (a b:List Str):qE (a++b)=qE a+qE b:=by simp[qE]
theorem yH (a:Str) (b:List Str):qE (a::b)=a.length+1+qE b:=by simp[qE]
theorem bC (l:List Str):(l.map (·.length)).sum+l.length=qE l:=by
 induction l with
 |nil=>rfl
 |cons a l ih=>rw[yH,← ih,zzU,List.sum_cons,Zf];omega
theorem bD {l:List Str} {B:Nat} (h:∀ x∈l,x.length<=B):qE l<=l.length * (B+1):=by
 have:=StrLaws.sumLen_le l h;rw[← bC,Nat.mul_succ];omega
theorem uG (l:List Str):l.length<=qE l:=by rw[← bC];omega
theorem zaD {l:List Str} {x:Str} (h:x∈l):x.length+1<=qE l:=by
 induction l with
 |nil=>cases h
 |cons a l ih =>
  rw[yH];rcases Zp.mp h with rfl|h
  .omega
  .have:=ih h;omega
theorem sC (sep:Str) (l:List Str) (h:sep.length=1):(Txt.join sep l).length<=qE l:=by
 rw[show Txt.join sep l=Str.join sep l from ZaA _ _];have:=StrLaws.join_length_le sep l;rw[h,Nat.mul_one] at this;rw[← bC];exact this
theorem cF (sep:Str) (h:sep.length=1):∀ l:List Str,l≠[]->(Str.join sep l).length+1=qE l
 | [],e=>absurd rfl e
 | [a],_=>by simp[Str.join,qE]
 |a::b::r,_=>by
  have ih:=cF sep h (b::r) (by simp);show (a++sep++Str.join sep (b::r)).length+1=_;rw[Zz,Zz,h,yH,← ih];omega
theorem qO (x:Str) (c:Nat):qE (Txt.split x ⟨#[c]⟩)=x.length+1:=by
 rw[← cF ⟨#[c]⟩ rfl _ (vB x c),StrLaws.join_split]
theorem vP {sep:Str} {l:List Str} (hs:sep.length=1) (h:qE l<=1000000):JoinOk sep l=true:=joinOk_of_weight (by rw[bC];omega) (by omega)
def K0 (w:W) (G:Hw) (Q:Q3):Prop:=∀ G',zV [] G G'->Q w G'
abbrev sW (l:List Str):O:=.lst (l.map .str)
structure NmL (xs:List Str):Prop where
 ne:xs≠[]
 len:xs.length<=5
 nm:∀ x∈xs,vY x=true
structure WbOk (web:List Wd) (b c:Nat):Prop where
 one:1<=web.length
 few:web.length<=12
 ok:∀ v∈web,v.ok b c
def rdX (x:Str):Option (List Wd):=if x = "" then some [] else rdW (Txt.split x "\n")
def opW:Option (List Wd)->W
 |some web=>wY web
 |none=>.non
def nP:nQ:=fun ws G Q _=>∃ (d l:Addr) (m:Int),ws=[.ref d,.int m]/\yA G d l/\1<=m/\m<=5/\∀ (r:Addr) (xs:List Str) G',NmL xs->r∉[d,l]->G' r=some (sW xs)->zV [d,l] G G'->yA G' d l->Q (.ref r) G'
def zem:nQ:=fun ws G Q _=>∃ (d l r:Addr) (xs:List Str) (web:List Wd),ws=[.ref d,.ref r,wY web]/\yA G d l/\r∉[d,l]/\G r=some (sW xs)/\NmL xs/\WbOk web 5 12/\∀ (web':List Wd) G',WbOk web' 7 14->zV [d,l] G G'->yA G' d l->Q (wY web') G'
def vW:nQ:=fun ws G Q _=>∃ web:List Wd,ws=[wY web]/\web.length<=12/\(∀ v∈web,v.ok 7 14)/\K0 (.str (nA web)) G Q
def zek:nQ:=fun ws G Q _=>∃ (d l r:Addr) (m:Int) (xs:List Str),ws=[.ref d,.ref r,.int m]/\yA G d l/\r∉[d,l]/\G r=some (sW xs)/\NmL xs/\1<=m/\m<=12/\∀ (web:List Wd) G',WbOk web 5 12->zV [d,l] G G'->yA G' d l->Q (wY web) G'
def spOw:nQ:=fun ws G Q _=>∃ (d l p r:Addr) (us xs:List Str),ws=[.ref d,.ref p,.ref r]/\yA G d l/\p∉[d,l]/\r∉[d,l]/\G p=some (sW us)/\G r=some (sW xs)/\us≠[]/\qE us<=4000/\NmL xs/\∀ (q:Addr) (vs:List Str) G',qE vs<=3 * qE us+20->q∉[d,l]->G' q=some (sW vs)->zV [d,l] G G'->yA G' d l->Q (.ref q) G'
def spOt:nQ:=fun ws G Q _=>∃ (d l r:Addr) (x:Str) (xs:List Str),ws=[.ref d,.str x,.ref r]/\yA G d l/\r∉[d,l]/\G r=some (sW xs)/\x.length<=3000/\NmL xs/\∀ (y:Str) G',y.length<=20000->zV [d,l] G G'->yA G' d l->Q (.str y) G'
def spNI:nQ:=fun ws G Q _=>∃ x:Str,ws=[.str x]/\x.length<=20000/\K0 (.bl (vY x)) G Q
def spNu:nQ:=fun ws G Q _=>∃ x:Str,ws=[.str x]/\K0 (.bl (wL x)) G Q
def zel:nQ:=fun ws G Q _=>∃ x:Str,ws=[.str x]/\x.length<=20000/\K0 (opW (rdW (Txt.split x "\n"))) G Q
def mL:nQ:=fun ws G Q _=>∃ web:List Wd,ws=[wY web,wY web]/\(∀ v∈web,v.ls.length<=50000)/\K0 (.bl true) G Q
def spSr:nQ:=fun ws G Q _=>∃ (k:Nat) (v:Wd),ws=[.int k,v.w]/\k<1000/\v.ok 7 14/\K0 (.str (nY k v)) G Q
structure Cl (K:yS) (CQ:Nat->Addr):Prop where
 xk:L3.XK K
 xc:PySem.W.XC K (CQ 0)
 one:PySem.W.kitOne K (.ref (CQ 0)) (.ref (CQ 0))=some true
 any1:PySem.W.kitAny K (.ref (CQ 0)) [.ref (CQ 7),.ref (CQ 1),.ref (CQ 2),.ref (CQ 3),.ref (CQ 4)]=some false
 any2:PySem.W.kitAny K (.ref (CQ 0)) [.ref (CQ 5),.ref (CQ 6),.ref (CQ 8),.ref (CQ 9)]=some false
 ss:PySem.W.kitOne K (.type "str") (.type "str")=some true
 tt:PySem.W.kitOne K (.type "tuple") (.type "tuple")=some true
 ib:PySem.W.kitOne K (.type "int") (.type "bool")=some false
 ns:∀ T∈["NoneType", "int", "bool", "list", "tuple"],PySem.W.kitOne K (.type T) (.type "str")=some false
def zkO (G:Hw) (w:W):Prop:=∃ T∈["NoneType", "int", "bool", "list", "tuple"],tyO G w=some T
def za4:nQ:=fun ws G Q _=>(∃ w,ws=[w]/\zkO G w/\K0 .non G Q)\/∃ x:Str,ws=[.str x]/\x.length<=20000/\K0 (opW (rdX x)) G Q
def N0 (sp:SpX):nQ:=fun ws G Q _=>sp ws G Q fun _ _=>False
section
variable (K:yS) (CQ:Nat->Addr)
def xT:W:=.exc (CQ 0) [] []
def Rs (o:Option W) (G:Hw) (Q:Q3) (E:X3):Prop:=∀ G',zV [] G G'->match o with
 |some w=>Q w G'
 |none=>E (xT CQ) G'
def sM:SpX:=fun ws G Q E=>∃ x:Str,ws=[.str x,.int 3]/\x.length<=20000/\Rs CQ (if wL x=true then some (.int (kK x:Nat)) else none) G Q E
def spRR:SpX:=fun ws G Q E=>∃ (k:Nat) (x:Str),ws=[.int k,.str x]/\k<=20000/\x.length<=20000/\Rs CQ ((rdR k (Txt.split x " ")).map Wd.w) G Q E
def fE:SpX:=fun ws G Q E=>(∃ w,ws=[w]/\zkO G w/\Rs CQ none G Q E)\/∃ x:Str,ws=[.str x]/\x.length<=20000/\Rs CQ ((rdX x).map wY) G Q E
def fnL:List Fn3:=[eMax,nU,eAll,eLst,eIsx K,zh5,eTup,zfx,eStr,zkx,tM,⟨"_law_names", nP⟩,⟨"_law_changed", zem⟩,⟨"_law_text", vW⟩,⟨"_law_web", zek⟩,⟨"_law_other_words", spOw⟩,⟨"_law_other_text", spOt⟩,⟨"_law_name_is", spNI⟩,⟨"_law_number_is", spNu⟩,⟨"_law_due", zel⟩,⟨"is_name", spNI⟩,
 ⟨"read_number", N0 (sM CQ)⟩,⟨"read_world", N0 (spRR CQ)⟩,⟨"read_web", N0 (fE CQ)⟩,⟨"_law_read", za4⟩,⟨"_law_same", mL⟩,⟨"show_world", spSr⟩,⟨"show_web", vW⟩]
def GamL (l:List Fn3):Ctx3:=⟨l,[("LONGEST_NAME", .int 6),("NO_NAMES", .tup (sQ.map .str)),("MOST_FIGURES", .int 3),("bool", .ty "bool"),("str", .ty "str"),("tuple", .ty "tuple"),("NoText", .ref (CQ 0)),("NoBook", .ref (CQ 1)),("NotLet", .ref (CQ 2)),("NoMove", .ref (CQ 3)),("NoPlan", .ref (CQ 4)),("NoTalker", .ref (CQ 5)),("NoPaper", .ref (CQ 6)),("NoWeb", .ref (CQ 7)),("NoRow", .ref (CQ 8)),("NoName", .ref (CQ 9))],
 [ePop,tN,eApp,sV,eCnt,eIdx],[dR,eEn],[],[eRev,⟨rvM,rvS⟩,⟨emM,emS⟩,⟨trM,trS⟩,⟨fstM [none,some ":"],fstS [none,some ":"]⟩],[]⟩
def yX (n:Nat):Ctx3:=GamL CQ ((fnL K CQ).take n)
def qS (l:List Fx3) (T:Addr):CtxX:=⟨l,[⟨"NoText", CQ 0,none⟩],[⟨"TalkError", T,[CQ 0]⟩]⟩
end
theorem at_0 {a:W} {l:List W}:sS (a::l) 0=some a:=by
 unfold sS;have:nH (a::l).length 0=some 0:=by simp[nH]
 rw[this];rfl
theorem at_1 {a b:W} {l:List W}:sS (a::b::l) 1=some b:=by
 unfold sS;have:nH (a::b::l).length 1=some 1:=by simp[nH];omega
 rw[this];rfl
theorem sz (n:Nat) (h:n<=100000):n<=sizeLine:=by rw[Zt];omega
theorem gZ {α:Type} {a:α} {l:List α}:(a::l)[0]?=some a:=rfl
theorem gS {α:Type} {a:α} {l:List α} {i:Nat}:(a::l)[i+1]?=l[i]?:=rfl
theorem tZ {α:Type} {a b:α} {l:List α}:(a::l).set 0 b=b::l:=rfl
theorem tS {α:Type} {a b:α} {l:List α} {i:Nat}:(a::l).set (i+1) b=a::l.set i b:=rfl
theorem yR {Γ:Ctx3} {E:XQ} {s:IS} {ss:ISs} {D:End3} {σ:xE} {G:Hw} (h:zQ Γ E s { D with nx:=zC Γ E ss D } σ G):zC Γ E (.cons s ss) D σ G:=h
theorem qP {Γ:Ctx3} {E:XQ} {D:End3} {σ:xE} {G:Hw} (h:D.nx σ G):zC Γ E .nil D σ G:=h
theorem tyL {G:Hw} {o:Addr} {l:List W} (e:G o=some (.lst l)):tyW G (.ref o) "list" := by simp only[tyW,e]
theorem appL {G:Hw} {o:Addr} {l:List W} {y:W} {Q:Q3} (e:G o=some (.lst l)) (hl:l.length<1000) (h:Q .non (put G o (.lst (l++[y])))):nS (.ref o) [y] G Q:=by
 simp only[nS,e];exact ⟨by rw[Zt];omega,h⟩
theorem ixL {G:Hw} {t:Addr} {xs:List W} {i:Int} {Q:Q3} (e:yU G t=some xs) (h:match sS xs i with|some w=>Q w G|none=>False):nW (.ref t) (.int i) G Q:=by
 unfold yU at e
 split at e
 .rename_i q;cases e;simp only[nW,q];exact h
 .rename_i q;cases e;simp only[nW,q];exact h
 .cases e
theorem xC {G:Hw} {t:Addr} {xs:List W} (e:G t=some (.lst xs)):yU G t=some xs:=by unfold yU;rw[e]
theorem seqL {G:Hw} {t:Addr} {xs:List W} (e:G t=some (.lst xs)):wT G (.ref t)=some xs:=by simp only[wT,xC e]
theorem uC {S:List Addr} {G G':Hw} {d l:Addr} (k:zV S G G') (hd:d∉S) (hl:l∉S) (D:yA G d l):yA G' d l:=by
 obtain ⟨x,y,z,D⟩:=D;exact ⟨x,y,z,k _ _ hd D.dic,k _ _ hl D.lst,D.s0,D.s1,D.n0,D.lf,D.len,D.ne⟩
theorem qV {G:Hw} {d l p:Addr} {o:O} (h:G p=none) (D:yA G d l):yA (put G p o) d l:=uC (S:=[]) (zV.new h) (by simp) (by simp) D
theorem bR {G G':Hw} {d l:Addr} (k:zV [] G G') (D:yA G d l):yA G' d l:=uC k (by simp) (by simp) D
theorem ze8 {S:List Addr} {G G':Hw} (k:zV [] G G'):zV S G G':=fun a u _ e=>k a u (by simp) e
theorem k0 {G G':Hw} (k:zV [] G G') {p:Addr} {o:O} (h:G p=some o):G' p=some o:=k _ _ (by simp) h
theorem tG {G:Hw} {p r:Addr} {o u:O} (hr:G r=none) (h:G p=some o):put G r u p=some o:=k0 (zV.new hr) h
theorem pE {G:Hw} {a p:Addr} {o:O} (e:G a=some o) (h:G p=none):a≠p:=fun z=>by rw[z,h] at e;cases e
theorem vA {G:Hw} {d l p:Addr} (D:yA G d l) (h:G p=none):p∉[d,l]:=by
 obtain ⟨_,_,_,D⟩:=D;simp only[Zp,ZL,or_false,not_or];exact ⟨fun e=>(by rw[e,D.dic] at h;cases h),fun e=>(by rw[e,D.lst] at h;cases h)⟩
theorem uF {S:List Addr} {G G':Hw} {p:Addr} {o:O} (k:zV S G G') (h:G p=none):zV S G (put G' p o):=fun a u ha e=>by
 rw[xJ (pE e h)];exact k a u ha e
theorem vN {G:Hw} {d l p:Addr} {o:O} (h:p∉[d,l]) (D:yA G d l):yA (put G p o) d l:=by
 simp only[Zp,ZL,or_false,not_or] at h;exact uC (S:=[p]) (zV.put (by simp)) (by simpa using Ne.symm h.1) (by simpa using Ne.symm h.2) D
theorem addS {a b:Str} {G:Hw} {Q:Q3} (h:a.length+b.length<=100000) (q:Q (.str (a++b)) G):wK .Add (.str a) (.str b) G Q:=⟨sz _ h,q⟩
def qD:ISs->ISs
 | .cons _ ss=>ss
 | .nil=>.nil
theorem vO {G:Hw} {a b:Str}:eqG G (.str a) (.str b)=some (a==b):=by simp[eqG,kR,uD,jB]
theorem addL {G:Hw} {p q:Addr} {xs ys:List W} {Q:Q3} (hp:G p=some (.lst xs)) (hq:G q=some (.lst ys)) (hl:xs.length+ys.length<=100000) (h:∀ r,G r=none->Q (.ref r) (put G r (.lst (xs++ys)))):wK .Add (.ref p) (.ref q) G Q:=by
 simp only[wK,hp,hq];exact ⟨sz _ hl,h⟩
section
variable {K:yS} {CQ:Nat->Addr}
theorem fnAt {n:Nat} (i:Nat) (hi:i<n) {e:Fn3} (h:(fnL K CQ)[i]?=some e):(yX K CQ n).fn[i]?=some e:=by
 show ((fnL K CQ).take n)[i]?=_;rw[List.getElem?_take_of_lt hi];exact h
theorem jD {n m:Nat} (i:Nat) (hn:m<=n) {e:Fn3} (h:(fnL K CQ)[i]?=some e) (hi:i<m:=by decide):(yX K CQ n).fn[i]?=some e:=fnAt i (Ze hi hn) h
end
abbrev abc:Str := "abcdefghijklmnopqrstuvwxyz"
theorem zaX:abc.cps.toList.length=26:=by decide +kernel
theorem zgs:∀ c∈abc.cps.toList,ltB c=true:=by decide +kernel
theorem zjR (c:Nat):decide (c∈abc.cps.toList)=ltB c:=by
 by_cases h:c<123
 .revert c
  decide +kernel
 .have h1:ltB c=false:=by simp[ltB];omega
  rw[h1,decide_eq_false_iff_not];intro hc;rw[zgs c hc] at h1;cases h1
theorem vI {a b:Str}:xY (a++b)=(xY a&&xY b):=by
 unfold xY;rw[ZaW,Zae,List.all_append]
theorem zj6 {i:Int} {G:Hw} {Q:Q3} (h0:0<=i) (h1:i<26) (h:∀ x:Str,x.length=1->xY x=true->Q (.str x) G):nW (.str abc) (.int i) G Q:=by
 have hi:i.toNat<abc.cps.toList.length:=by rw[zaX];omega
 have e:sS abc.cps.toList i=some abc.cps.toList[i.toNat]:=by
  unfold sS nH;rw[if_pos h0,zaX,if_pos (show i<((26:Nat):Int) from h1)];exact Zl hi
 simp only[nW,e];refine ⟨?_,h _ rfl ?_⟩
 .have:abc.length=26:=by rw[← zaX];rfl
  rw[this];exact sz _ (by decide)
 .show [abc.cps.toList[i.toNat]].all ltB=true;rw[Zax,zgs _ (ZJ hi)];rfl
theorem bB {x:Str} {j:Int} (h0:0<=j) (h1:j<=x.length):(Txt.slice x none (some j)).cps.toList=x.cps.toList.take j.toNat:=by
 have e:Txt.slice x none (some j)=StrLaws.sliceText x none (some j):=rfl;rw[e,StrLaws.sliceText_to ⟨h0,by rw[ZB];exact h1⟩];simp
theorem pU {x:Str} {j:Int} (h0:0<=j) (h1:j<=x.length):(Txt.slice x (some j) none).cps.toList=x.cps.toList.drop j.toNat:=by
 have e:Txt.slice x (some j) none=StrLaws.sliceText x (some j) none:=rfl;rw[e,StrLaws.sliceText_from ⟨h0,by rw[ZB];exact h1⟩];have h2:j<=(x.cps.toList.length:Int):=by rw[ZB];exact h1
 show (((x.cps.toList.drop j.toNat).take _).toArray).toList=_;rw[List.toList_toArray];exact Zad (by rw[Z0];omega)
theorem xU (x:Str):x.cps.toList.length=x.length:=by rw[ZB];rfl
theorem wB {G:Hw} {a b:Int}:eqG G (.int a) (.int b)=some (decide (a=b)):=by
 simp[eqG,kR,uD,jB,Bool.beq_eq_decide_eq]
theorem zib {x:Str} {j:Int} {G:Hw} {Q:Q3} (h0:0<=j) (h1:j<=x.length) (hx:x.length<=1000) (a:xY x=true) (q:∀ y:Str,y.length<=j.toNat->xY y=true->Q (.str y) G):fF (.str x) none (some j) G Q:=by
 refine ⟨sz _ (by omega),q _ ?_ ?_⟩
 .rw[← xU,bB h0 h1,Z5];omega
 .unfold xY;rw[bB h0 h1,ZC];exact fun c hc=>ZC.mp a c (ZbC hc)
theorem zfC {x:Str} {j:Int} {G:Hw} {Q:Q3} (h0:0<=j) (h1:j<=x.length) (hx:x.length<=1000) (a:xY x=true) (q:∀ y:Str,y.length<=x.length-j.toNat->xY y=true->Q (.str y) G):fF (.str x) (some j) none G Q:=by
 refine ⟨sz _ (by omega),q _ ?_ ?_⟩
 .rw[← xU,pU h0 h1,Z0,xU];omega
 .unfold xY;rw[pU h0 h1,ZC];exact fun c hc=>ZC.mp a c (ZaF hc)
theorem zjQ:xY "" = true:=by decide +kernel
theorem zde:∀ {ts:List Str},(∀ x∈ts,xY x=true)->xY (Str.join "" ts)=true
 | [],_=>by decide +kernel
 | [x],h=>h x zzT
 |x::y::r,h=>by
  show xY (x ++ "" ++ Str.join "" (y::r))=true;rw[vI,vI,h x zzT,zjQ,zde fun z hz=>h z (Zk _ hz)];rfl
theorem ze9 {ts:List Str} (h:∀ x∈ts,x.length<=1) (g:∀ x∈ts,xY x=true) (hn:ts.length<=4):JoinOk "" ts=true/\(Txt.join "" ts).length<=4/\xY (Txt.join "" ts)=true:=by
 have e:("" : Str).length=0:=by decide +kernel
 refine ⟨?_,?_,?_⟩
 .unfold JoinOk;rw[StrLaws.joinFits h (by rw[e];omega)];rfl
 .have h1:=StrLaws.join_length_le "" ts;have h2:=StrLaws.sumLen_le ts h;rw[e] at h1;rw[show Txt.join "" ts=Str.join "" ts from ZaA "" ts];refine Zn h1 ?_;omega
 .rw[show Txt.join "" ts=Str.join "" ts from ZaA "" ts];exact zde g
theorem zhm {x:Str} (h1:1<=x.length) (h6:x.length<=6) (a:xY x=true) (n:x∉sQ):vY x=true:=by
 unfold vY;rw[decide_eq_true h1,decide_eq_true h6,a,show sQ.contains x=false by simpa using n];rfl
theorem no_q {x:Str} (h:x∈sQ):x ++ "q" ∉ sQ:=by
 revert h;have:∀ y∈sQ,y ++ "q" ∉ sQ:=by decide +kernel
 exact this x
theorem no_len {x:Str} (h:x∈sQ):x.length<=4:=by
 have:∀ y∈sQ,y.length<=4:=by decide +kernel
 exact this x h
theorem no_z {x:Str}:x ++ "z" ∉ sQ:=fun h=>by
 have l:∀ y∈sQ,y.cps.toList.getLast?≠some 122:=by decide +kernel
 refine l _ h ?_;rw[ZaW,Zae,show ("z" : Str).cps.toList=[122] by decide +kernel];simp
theorem zdZ {x:Str}:((sQ.map W.str).any fun w=>jB w (.str x))=sQ.contains x:=by
 rw[Zcm,List.contains_eq_any_beq];congr 1
 funext y
 simp only[Function.comp,jB];exact Bool.beq_comm
section
variable {K:yS} {CQ:Nat->Addr}
theorem zcX {n:Nat} (hn:11<=n) {ws:List W} {G:Hw} {Q:Q3} (h:nP ws G Q XN):zC (yX K CQ n) XN wQ { nx:=fun _ G'=>Q .non G',rt:=Q } (yG uW ws) G:=by
 obtain ⟨d,l,m,rfl,D,m1,m4,h⟩:=h;have e1:(yX K CQ n).fn[1]?=some nU:=jD 1 hn rfl;have e6:(yX K CQ n).fn[10]?=some tM:=jD 10 hn rfl;have t1:(yX K CQ n).mt[1]?=some tN:=rfl;have t2:(yX K CQ n).mt[2]?=some eApp:=rfl;have i0:(yX K CQ n).it[0]?=some dR:=rfl;have z0:=sz 0 (by decide);have z4:=sz 4 (by decide);have q1:("q" : Str).length=1:=by decide +kernel
 have q2:xY "q" = true:=by decide +kernel
 have w1:("z" : Str).length=1:=by decide +kernel
 have w2:xY "z" = true:=by decide +kernel
 show zC (yX K CQ n) XN wQ { nx:=fun _ G'=>Q .non G',rt:=Q } [some (.ref d),some (.int m),none,none,none,none,none,none,none] G
 have go:∀ (G1:Hw) (p:Addr) (core:Str),core.length<=4->xY core=true->G p=none->p∉[d,l]->zV [d,l] G G1->yA G1 d l->G1 p=some (.lst []) ->
   zC (yX K CQ n) XN (qD (qD (qD wQ))) { nx:=fun _ G'=>Q .non G',rt:=Q } [some (.ref d),some (.int m),some (.str abc),some (.ref p),some (.str core),none,none,none,none] G1:=by
  intro G1 p core hc hg hpn hp k1 D1 gp;simp only[wQ,qD];refine yR ?_
  erw[e1,e6,vD,vE,sz _ (show core.length<=100000 by omega),if_true,wK]
  refine ⟨d,l,core.length+1,rfl,D1,⟨by omega,by omega⟩,fun at' G2 a0 a1 k2 D2=>?_⟩;have gp2:=k2 _ _ hp gp;refine yR ?_
  erw[e6]
  refine ⟨d,l,26,rfl,D2,by decide,fun tn G3 tn0 tn1 k3 D3=>?_⟩;have gp3:=k3 _ _ hp gp2;have kG:=(k1.trans k2).trans k3;refine yR ?_
  erw[zR,i0]
  refine ⟨⟨by omega,by omega⟩,?_⟩;have len:((List.range m.toNat).map fun i:Nat=>W.int (i:Int)).length=m.toNat:=by simp
  refine ⟨fun i σ G'=>∃ (xs:List Str) (v7 v8:Option W),σ=[some (.ref d),some (.int m),some (.str abc),some (.ref p),some (.str core),some (.int at'),some (.int tn),v7,v8]/\G' p=some (.lst (xs.map .str))/\xs.length=i/\(∀ x∈xs,vY x=true/\x.length<=5/\xY x=true)/\zV [d,l] G G'/\yA G' d l,
   ⟨[],none,none,rfl,gp3,rfl,by simp,kG,D3⟩,fun _ _ _ _ _=>trivial,?_,?_⟩
  .rintro i w σ G' hw ⟨xs,v7,v8,rfl,gx,hl,hs,kp,D'⟩;rw[Zm] at hw;obtain ⟨i',hi',rfl⟩:=Zs.mp hw;have him:i<m.toNat:=by have:=(Zi.mp hi').1;simpa using this
   have hii:i'=i:=by
    have:=(Zi.mp hi').2;rw[Zbj] at this;exact this.symm
   subst hii;have him:i' < 5:=by omega
   refine yR ?_
   erw[]
   refine zib a0 (by omega) (by omega) hg fun y1 h1 s1=>?_;refine ⟨.inl ⟨by omega,by omega⟩,by decide,?_⟩;refine zj6 (Int.emod_nonneg _ (by decide)) (Int.emod_lt_of_pos _ (by decide)) fun y2 h2 s2=>?_;refine addS (by omega) (zfC a0 (by omega) (by omega) hg fun y3 h3 s3=>addS (by rw[Zz];omega) ?_);have hlen:((y1++y2)++y3).length<=5:=by rw[Zz,Zz];omega
   have hlen1:1<=((y1++y2)++y3).length:=by rw[Zz,Zz];omega
   have hsg:xY ((y1++y2)++y3)=true:=by rw[vI,vI,s1,s2,s3];rfl
   generalize (y1++y2)++y3=nm at hlen hlen1 hsg ⊢;refine yR ?_
   erw[yI,tB,L3.inR,zzB,if_false,zzC,zzL,zzA,Nat.reduceAdd,z4,true_and]
   refine ⟨⟨by simp[kR],by simp[xF,kR],by simp[jQ,uD]⟩,?_⟩
   have app:∀ x:Str,vY x=true->x.length<=5->xY x=true->tyW G' (.ref p) "list" /\ nS (.ref p) [.str x] G' (fun _ G1=>∃ (xs':List Str) (v7 v8:Option W),[some (W.ref d),some (.int m),some (.str abc),some (.ref p),some (.str core),some (.int at'),some (.int tn),some (.int i'),some (.str x)]=[some (.ref d),some (.int m),some (.str abc),some (.ref p),some (.str core),some (.int at'),some (.int tn),v7,v8]/\G1 p=some (.lst (xs'.map .str))/\xs'.length=i'+1/\(∀ x∈xs',vY x=true/\x.length<=5/\xY x=true)/\zV [d,l] G G1/\yA G1 d l):=by
    intro x hx hx5 hxs;refine ⟨tyL gx,appL gx (by rw[zzM];omega) ⟨xs++[x],_,_,rfl,by rw[zW];simp,by simp[hl],fun y hy=>?_,uF kp hpn,vN hp D'⟩⟩;rcases ZE.mp hy with hy|hy
    .exact hs y hy
    .rw[zzO hy];exact ⟨hx,hx5,hxs⟩
   have en:([W.str "and", .str "or", .str "not", .str "then"].any fun w=>jB w (.str nm))=sQ.contains nm:=zdZ;rw[en]
   by_cases hno:nm∈sQ
   .rw[if_pos (by simpa using hno)];refine yR ?_
    erw[]
    refine addS (by omega) ?_;refine qP ?_;refine yR ?_
    erw[t2]
    have:=no_len hno;exact app _ (zhm (by rw[Zz];omega) (by rw[Zz];omega) (by rw[vI,hsg,q2];rfl) (no_q hno)) (by rw[Zz];omega) (by rw[vI,hsg,q2];rfl)
   .rw[if_neg (by simpa using hno)];refine qP ?_;refine yR ?_
    erw[t2]
    exact app _ (zhm hlen1 (by omega) hsg hno) hlen hsg
  .rintro σ G' ⟨xs,v7,v8,rfl,gx,hl,hs,kp,D'⟩;rw[len] at hl
   obtain ⟨x,r,rfl⟩:∃ x r,xs=x::r:=by
    cases xs with
    |nil=>simp at hl;omega
    |cons x r=>exact ⟨x,r,rfl⟩
   have hlr:r.length+1=m.toNat:=by simpa using hl
   have fin:∀ (ys:List Str) (G2:Hw),ys.length=m.toNat->(∀ y∈ys,vY y=true)->zV [d,l] G G2->yA G2 d l->G2 p=some (.lst (ys.map .str))->∀ v7 v8:Option W,zC (yX K CQ n) XN (.cons (.ret (.var 3)) .nil) { nx:=fun _ G'=>Q .non G',rt:=Q } [some (.ref d),some (.int m),some (.str abc),some (.ref p),some (.str core),some (.int at'),some (.int tn),v7,v8] G2:=by
    intro ys G2 hy hs2 k4 D4 g4 v7 v8;refine yR ?_
    erw[]
    refine h p ys G2 ⟨?_,by omega,hs2⟩ hp g4 k4 D4;rintro rfl;simp at hy;omega
   refine yR ?_
   erw[yI,rJ]
   by_cases hm:1<m
   .rw[if_pos (by simpa using hm)]
    erw[e6]
    refine ⟨d,l,2,rfl,D',by decide,fun b G4 b0 b1 k4 D4=>?_⟩;have gx4:=k4 _ _ hp gx;simp only[wB]
    by_cases hb:b=1
    .rw[decide_eq_true hb,if_pos rfl];refine yR ?_
     erw[]
     refine ixL (yV gx4) ?_;rw[zzU,at_0];have hx:=hs x (by simp);refine addS (by omega) ?_;rw[zzU] at gx4;simp only[sL,gx4];have e0:nH (W.str x::r.map W.str).length 0=some 0:=by simp[nH]
     rw[e0];refine qP ?_;refine fin ((x ++ "z")::r) _ (by simpa using hlr) (fun y hy=>?_) (uF (kp.trans k4) hpn) (vN hp D4) (by rw[zW];rfl) v7 v8;rcases Zp.mp hy with rfl|hy
     .exact zhm (by rw[Zz];omega) (by rw[Zz];omega) (by rw[vI,hx.2.2,w2];rfl) no_z
     .exact (hs y (Zk _ hy)).1
    .rw[decide_eq_false hb,if_neg zzN];refine qP ?_;exact fin (x::r) _ hl (fun y hy=>(hs y hy).1) (kp.trans k4) D4 gx4 v7 v8
   .rw[if_neg (by simpa using hm),if_neg zzN];refine qP ?_;exact fin (x::r) _ hl (fun y hy=>(hs y hy).1) kp D' gx v7 v8
 simp only[wQ,qD] at go;simp only[wQ];refine yR ?_
 erw[]
 refine yR ?_
 erw[Zo,z0,true_and]
 intro p hp;have hpd:=vA D hp;have D1:=qV (o:=.lst []) hp D;have k1:zV [d,l] G (put G p (.lst [])):=zV.new hp;have gp:(put G p (.lst [])) p=some (.lst []):=zW;generalize put G p (.lst [])=G1 at D1 k1 gp ⊢;refine yR ?_
 erw[t1,e6,zR,zO,i0]
 refine ⟨rfl,d,l,5,rfl,D1,by decide,fun j G2 j0 j5 k2 D2=>?_⟩;have gp2:=k2 _ _ hpd gp;refine ⟨⟨by omega,by omega⟩,?_⟩;have len:((List.range j.toNat).map fun i:Nat=>W.int (i:Int)).length=j.toNat:=by simp
 refine ⟨fun i acc G'=>∃ ts:List Str,acc=ts.map .str/\ts.length=i/\(∀ x∈ts,x.length<=1/\xY x=true)/\zV [d,l] G2 G'/\yA G' d l,⟨[],rfl,rfl,by simp,zV.refl,D2⟩,?_,by rw[len];exact sz _ (by omega),?_,?_⟩
 .rintro i acc G' ⟨ts,rfl,rfl,_,_,_⟩ _;exact ⟨trivial,by simp⟩
 .rintro i w acc G' hw ⟨ts,rfl,hl,hs,kp,D'⟩;simp only[qT,Zf,Zo,List.replicate,zzU,zzV,Zau,Za1,Zw]
  erw[Zbb,if_true,e6]
  refine ⟨d,l,26,rfl,D',by decide,fun r G'' r0 r1 kp' D''=>zj6 r0 r1 fun x hx sx=>?_⟩;refine ⟨ts++[x],by simp,by simp[hl],fun y hy=>?_,kp.trans kp',D''⟩;rcases ZE.mp hy with hy|hy
  .exact hs y hy
  .rw[zzO hy,hx];exact ⟨zzR _,sx⟩
 .rintro acc G' ⟨ts,rfl,hl,hs,kp,D'⟩ r hr;have hl4:ts.length<=4:=by rw[hl,len];omega
  obtain ⟨jo,jl,js⟩:=ze9 (fun x hx=>(hs x hx).1) (fun x hx=>(hs x hx).2) hl4;refine ⟨ts,yV zW,jo,?_⟩;have k3:zV [d,l] G' (put G' r (.lst (ts.map .str))):=zV.new hr;exact go _ p _ jl js hp hpd (((k1.trans k2).trans kp).trans k3) (qV hr D') (k3 _ _ hpd (kp _ _ hpd gp2))
end
theorem zc8 {items:List W} {stab:Hw->Prop} {G:Hw} {turn:W->Hw->(Option W->Hw->Prop)->Prop} {Q:Q3} (g:Nat->Option W) (hl:items.length<=100000) (st:∀ G',zV [] G G'->stab G')
  (step:∀ i w G' (k:Option W->Hw->Prop),items[i]?=some w->zV [] G G'->(∀ G'',zV [] G G''->k (g i) G'')->turn w G' k)
  (fin:∀ G' r,zV [] G G'->G' r=none->Q (.ref r) (put G' r (.lst ((List.range items.length).filterMap g)))):lcR items stab G turn Q:=by
 refine ⟨fun i acc G'=>zV [] G G'/\acc=(List.range i).filterMap g,⟨zV.refl,rfl⟩,?_,sz _ hl,?_,?_⟩
 .rintro i acc G' ⟨k,rfl⟩ _;exact ⟨st G' k,Zn (ZaI _ _) (Nat.le_of_eq Zbr)⟩
 .rintro i w acc G' hw ⟨k,rfl⟩;refine step i w G' _ hw k fun G'' k'=>?_
  have e:(List.range (i+1)).filterMap g=(List.range i).filterMap g++(g i).toList:=by
   rw[List.range_succ,Zaz];cases h:g i<;>simp[h]
  cases hg:g i with
  |some x=>exact ⟨k',by rw[e,hg];rfl⟩
  |none=>exact ⟨k',by rw[e,hg];simp⟩
 .rintro acc G' ⟨k,rfl⟩ r hr;exact fin G' r k hr
theorem zds {f:Nat->W} {n:Nat}:(List.range n).filterMap (fun i=>some (f i))=(List.range n).map f:=by
 show List.filterMap (some ∘ f) _=_;rw[List.filterMap_eq_map]
theorem zjP {α β:Type} (f:α->β) (d:α) (l:List α):(List.range l.length).map (fun i=>f (l.getD i d))=l.map f:=by
 apply List.ext_getElem?;intro i
 by_cases hi:i<l.length
 .simp[hi,List.getD]
 .simp[hi]
theorem atN {l:List W} {i:Nat} {w:W} (h:l[i]?=some w):sS l ((i:Nat):Int)=some w:=by
 have hi:=(Zi.mp h).1;unfold sS nH;rw[if_pos (by omega),if_pos (by omega)];exact h
theorem gD {α:Type} {l:List α} {i:Nat} {d x:α} (h:l[i]?=some x):l.getD i d=x:=by simp[List.getD,h]
theorem qW:∀ ns:List Str,xF (ns.map W.str)=true
 | []=>rfl
 |x::ns=>by simp[xF,kR,qW ns]
theorem uP:∀ ns:List Str,jQ (ns.map W.str)=0
 | []=>rfl
 |x::ns=>by simp[jQ,uD,uP ns]
theorem nE {ns:List Str} {x:Str}:((ns.map W.str).any fun w=>jB w (.str x))=ns.contains x:=by
 rw[Zcm,List.contains_eq_any_beq];congr 1
 funext y
 simp only[Function.comp,jB];exact Bool.beq_comm
theorem inS {x:Str} {ns:List Str} {G:Hw} {Q:Q3} {neg:Bool} (h:Q (.bl (if neg then !ns.contains x else ns.contains x)) G):L3.inR neg (.str x) (ns.map .str) G Q:=by
 refine ⟨⟨by simp[kR],qW ns,by rw[uP];simp⟩,?_⟩;rw[nE];exact h
theorem zfa {ws:List W} {G:Hw} {R:List W->(Hw->Prop)->Hw->Prop} (h:R ws (fun _=>True) G):qI (.tup ws) G R:=h
theorem zgd {α:Type} {items:List W} {stab:Hw->Prop} {G:Hw} {turn:W->Hw->(Option W->Hw->Prop)->Prop} {Q:Q3} (l:List α) (c:α->W) (f:α->Bool) (hi:items=l.map c) (hl:l.length<=100000) (st:∀ G',zV [] G G'->stab G')
  (step:∀ x∈l,∀ G' (k:Option W->Hw->Prop),zV [] G G'->(∀ G'',zV [] G G''->k (some (.bl (f x))) G'')->turn (c x) G' k)
  (fin:∀ G' r,zV [] G G'->G' r=none->Q (.ref r) (put G' r (.lst ((l.map f).map .bl)))):lcR items stab G turn Q:=by
 subst hi
 have e:(List.range (l.map c).length).filterMap (fun i=>(l[i]?).map fun x=>W.bl (f x))=(l.map f).map .bl:=by
  rw[zzM,ZO]
  have:(fun i:Nat=>(l[i]?).map fun x=>W.bl (f x))=fun i=>(l.map (W.bl ∘ f))[i]?:=by
   funext i;rw[Zm];rfl
  rw[this];have:=Zap (l.map (W.bl ∘ f))
  rwa[zzM] at this
 refine zc8 (fun i=>(l[i]?).map fun x=>W.bl (f x)) (by rw[zzM];exact hl) st (fun i w G' k hw kp hk=>?_) (fun G' r kp hr=>by rw[e];exact fin G' r kp hr);rw[Zm] at hw;obtain ⟨x,hx,rfl⟩:=Zs.mp hw;rw[hx] at hk;exact step x (Zr hx) G' k kp hk
def hdS:ISs->IS
 | .cons s _=>s
 | .nil=>.pass
theorem zf7 {α:Type} [DecidableEq α]:∀ {a b:List α},a.Nodup->(∀ x∈a,x∈b)->a.length<=b.length
 | [],b,_,_=>Zan _
 |x::a,b,nd,h=>by
  obtain ⟨n1,n2⟩:=Za2.mp nd;have hx:x∈b:=h x zzT
  have ih:=zf7 (a:=a) (b:=b.erase x) n2 fun y hy=>by
   have hne:y≠x:=fun e=>n1 (e▸hy);exact (List.mem_erase_of_ne hne).mpr (h y (Zk _ hy))
  rw[List.length_erase_of_mem hx] at ih;have:=List.length_pos_of_mem hx;rw[Zf];omega
def wW (lk:List (yM×W)) (S:List Nat):Prop:=lk.map (·.1)=S.map fun n:Nat=>Sum.inl (n:Int)
theorem zbj {lk:List (yM×W)} {S:List Nat} (h:wW lk S) (n:Nat):hasK lk (.inl (n:Int))=true↔n∈S:=by
 unfold hasK;rw[show (lk.any fun p=>decide (p.1=Sum.inl (n:Int)))=(lk.map (·.1)).any fun k=>decide (k=Sum.inl (n:Int)) by rw[Zcm];rfl,h,Zcm,Zcc]
 constructor
 .rintro ⟨m,hm,e⟩;simp only[Function.comp,decide_eq_true_eq,Sum.inl.injEq] at e;rw[show n=m by omega];exact hm
 .intro hm;exact ⟨n,hm,by simp⟩
theorem zbi {lk:List (yM×W)} {S:List Nat} (h:wW lk S) (n:Nat) (v:W):wW (qH lk (.inl (n:Int)) v) (if n∈S then S else S++[n]):=by
 have hm:=zbj h n;unfold hasK at hm;unfold qH wW
 by_cases hs:n∈S
 .rw[if_pos (hm.mpr hs),if_pos hs,ZO];unfold wW at h;rw[← h];apply Zaf;intro p hp;show (if p.1=Sum.inl (n:Int) then (p.1,v) else p).1=p.1
  split<;>rfl
 .rw[if_neg (fun z=>hs (hm.mp z)),if_neg hs,ZaJ,ZaJ];unfold wW at h;rw[h];rfl
theorem zbk {lk:List (yM×W)} {S:List Nat} (h:wW lk S):lk.length=S.length:=by
 have:=congrArg List.length h;simpa using this
theorem zbU {lk:List (yM×W)} {S:List Nat} (h:wW lk S):(lk.map fun kv=>kW kv.1)=wG S:=by
 rw[show (lk.map fun kv=>kW kv.1)=(lk.map (·.1)).map kW by rw[ZO];rfl,h,ZO];rfl
def add (S:List Nat) (n:Nat):List Nat:=if n∈S then S else S++[n]
theorem zd1 {S:List Nat} {n m:Nat}:m∈add S n↔m∈S\/m=n:=by
 unfold add
 split
 .rename_i h
  constructor
  .exact .inl
  .rintro (h'|rfl)
   .exact h'
   .exact h
 .simp
theorem zgr {S:List Nat} {n:Nat} (h:S.Nodup):(add S n).Nodup:=by
 unfold add
 split
 .exact h
 .rename_i hn;rw[List.nodup_append];exact ⟨h,by simp,fun a ha b hb e=>hn (by rw[zzO hb] at e;exact e▸ha)⟩
structure Fw (f:Nat->Wd) (M lo:Nat):Prop where
 nx:∀ j,lo<=j->j<M->∀ m∈(f j).ls,j<m/\m<M
 ok:∀ j,lo<=j->j<M->(f j).ok 5 12
def Rows (f:Nat->Wd) (kvs:List (yM×W)) (M lo:Nat):Prop:=∀ j:Nat,lo<=j->j<M->uQ kvs (.inl (j:Int))=some (f j).w
structure Lat (M a:Nat) (S:List Nat):Prop where
 nd:S.Nodup
 rg:∀ m∈S,a<m/\m<M
theorem Lat.len {M a:Nat} {S:List Nat} (h:Lat M a S) (hM:M<=12):S.length<=12:=by
 have:=zf7 (b:=List.range M) h.nd fun x hx=>ZH.mpr (h.rg x hx).2;rw[Zbr] at this;omega
def forB:IS->ISs
 | .for _ _ b=>b
 |_=>.nil
def at3:ISs->IS:=fun b=>hdS (qD (qD b))
section
variable {K:yS} {CQ:Nat->Addr}
theorem zb8 {n:Nat} (hn:14<=n) {d l r pr ld:Addr} {m:Int} {M a:Nat} {f:Nat->Wd} {kvs:List (yM×W)} {G:Hw} {v7 v8 v9:Option W} (hM:M<=12) (ha:a<M) (D0:yA G d l) (np:pr∉[d,l]) (nl:ld∉[d,l]) (npl:ld≠pr) (gp:G pr=some (.dic kvs)) (rw':Rows f kvs M (a+1)) (fw:Fw f M (a+1)) (gl:G ld=some (.dic []))
  (D:End3) (hD:∀ (G':Hw) (lk:List (yM×W)) (S:List Nat) (v7 v8:Option W),zV [d,l,ld] G G'->yA G' d l->G' pr=some (.dic kvs)->G' ld=some (.dic lk)->wW lk S->Lat M a S->D.nx [some (.ref d),some (.ref r),some (.int m),some (.int (M:Nat)),some (.ref pr),some (.int (a:Nat)),some (.ref ld),v7,v8,v9] G') :
  zQ (yX K CQ n) XN (hdS (qD (forB (at3 xG)))) D [some (.ref d),some (.ref r),some (.int m),some (.int (M:Nat)),some (.ref pr),some (.int (a:Nat)),some (.ref ld),v7,v8,v9] G:=by
 have e10:(yX K CQ n).fn[10]?=some tM:=jD 10 hn rfl;have i0:(yX K CQ n).it[0]?=some dR:=rfl;simp only[xG,at3,hdS,qD,forB]
 erw[i0,wK]
 refine ⟨⟨by omega,by omega⟩,⟨by omega,by omega⟩,?_⟩;have len:((List.range ((M:Int)-((a:Int)+1)).toNat).map fun k:Nat=>W.int ((a:Int)+1+(k:Nat))).length=M-(a+1):=by simp;omega
 refine ⟨fun i σ G'=>∃ (lk:List (yM×W)) (S:List Nat) (v7 v8:Option W),σ=[some (.ref d),some (.ref r),some (.int m),some (.int (M:Nat)),some (.ref pr),some (.int (a:Nat)),some (.ref ld),v7,v8,v9]/\zV [d,l,ld] G G'/\yA G' d l/\G' pr=some (.dic kvs)/\G' ld=some (.dic lk)/\wW lk S/\Lat M a S,
  ⟨[],[],v7,v8,rfl,zV.refl,D0,gp,gl,rfl,⟨List.nodup_nil,(fun _ z=>nomatch z)⟩⟩,fun _ _ _ _ _=>trivial,?_,?_⟩
 .rintro i w σ G1 hw ⟨lk,S,v7,v8,rfl,k1,D1,gp1,gl1,ks,la⟩;have hi:i<M-(a+1):=by have:=(Zi.mp hw).1;rwa[len] at this
  have ew:w=.int ((a+1+i:Nat):Int):=by
   rw[Zm] at hw;obtain ⟨q,hq,rfl⟩:=Zs.mp hw
   have:q=i:=by
    have:=(Zi.mp hq).2;rw[Zbj] at this;exact this.symm
   subst this;congr 1
  subst ew;have hj:a+1<=a+1+i/\a+1+i<M:=by omega
  generalize a+1+i=j at hj ⊢
  have stay:∀ (G2:Hw) (v7 v8:Option W),zV [d,l,ld] G G2->yA G2 d l->G2 pr=some (.dic kvs)->G2 ld=some (.dic lk)->∃ (lk:List (yM×W)) (S:List Nat) (v7' v8':Option W),[some (W.ref d),some (.ref r),some (.int m),some (.int (M:Nat)),some (.ref pr),some (.int (a:Nat)),some (.ref ld),v7,v8,v9]=[some (.ref d),some (.ref r),some (.int m),some (.int (M:Nat)),some (.ref pr),some (.int (a:Nat)),some (.ref ld),v7',v8',v9]/\zV [d,l,ld] G G2/\yA G2 d l/\G2 pr=some (.dic kvs)/\G2 ld=some (.dic lk)/\wW lk S/\Lat M a S :=
   fun G2 v7 v8 k2 D2 gp2 gl2=>⟨lk,S,_,_,rfl,k2,D2,gp2,gl2,ks,la⟩
  refine yR ?_
  erw[yI,tB,gl1,vZ,if_true]
  cases hk:hasK lk (.inl (j:Int)) with
  |true =>
   simp only[Zu,zzB,if_false];refine qP ?_;exact stay G1 _ _ k1 D1 gp1 gl1
  |false =>
   simp only[ZA,if_true,e10];refine ⟨d,l,3,rfl,D1,by decide,fun b G2 b0 b1 k2 D2=>?_⟩;have kk:zV [d,l,ld] G G2:=k1.trans (k2.mono (by intro x hx;simp at hx ⊢;rcases hx with h|h<;>simp[h]));have gp2:=k2 _ _ np gp1;have gl2:=k2 _ _ nl gl1;simp only[wB]
   by_cases hb:b=0
   .rw[decide_eq_true hb,if_pos rfl];have hll:=la.len hM;have hkl:=zbk ks;have hjS:j∉S:=fun z=>by rw[(zbj ks j).mpr z] at hk;cases hk
    have rj:=rw' j hj.1 hj.2;refine yR ?_
    erw[sL,gl2,vZ]
    refine ⟨by rw[Zt];omega,?_⟩;have k3:zV [d,l,ld] G (put G2 ld (.dic (qH lk (.inl (j:Int)) (.bl true)))):=kk.trans (zV.put (by simp));have D3:=vN (o:=.dic (qH lk (.inl (j:Int)) (.bl true))) nl D2;have gp3:(put G2 ld (.dic (qH lk (.inl (j:Int)) (.bl true)))) pr=some (.dic kvs):=by rw[xJ (Ne.symm npl)];exact gp2
    have gl3:(put G2 ld (.dic (qH lk (.inl (j:Int)) (.bl true)))) ld=some (.dic (qH lk (.inl (j:Int)) (.bl true))):=zW;generalize put G2 ld (.dic (qH lk (.inl (j:Int)) (.bl true)))=G3 at k3 D3 gp3 gl3 ⊢;refine yR ?_
    erw[nW,gp3,vZ,rj,Wd.w,at_1,qI]
    have ks3:=zbi ks j (.bl true)
    refine ⟨fun i σ G'=>∃ (lk:List (yM×W)) (S':List Nat) (v8:Option W),σ=[some (.ref d),some (.ref r),some (.int m),some (.int (M:Nat)),some (.ref pr),some (.int (a:Nat)),some (.ref ld),some (.int (j:Nat)),v8,v9]/\zV [d,l,ld] G G'/\yA G' d l/\G' pr=some (.dic kvs)/\G' ld=some (.dic lk)/\wW lk S'/\Lat M a S',
     ⟨_,add S j,v8,rfl,k3,D3,gp3,gl3,ks3,zgr la.nd,fun q hq=>?_⟩,fun _ _ _ _ _=>trivial,?_,?_⟩
    .rcases zd1.mp hq with hq|rfl
     .exact la.rg q hq
     .exact ⟨by omega,hj.2⟩
    .rintro i2 w2 σ2 G4 hw2 ⟨lk4,S4,v8',rfl,k4,D4,gp4,gl4,ks4,la4⟩;simp only[wG,Zm] at hw2;obtain ⟨q,hq,rfl⟩:=Zs.mp hw2;have hql:=fw.nx j hj.1 hj.2 q (Zr hq);have sl4:=la4.len hM;have hkl4:=zbk ks4;refine yR ?_
     erw[sL,gl4,vZ]
     refine ⟨by rw[Zt];omega,?_⟩;refine qP ?_;refine ⟨_,add S4 q,_,rfl,k4.trans (zV.put (by simp)),vN nl D4,by rw[xJ (Ne.symm npl)];exact gp4,zW,zbi ks4 q _,zgr la4.nd,fun x hx=>?_⟩;rcases zd1.mp hx with hx|rfl
     .exact la4.rg x hx
     .exact ⟨by omega,hql.2⟩
    .rintro σ2 G4 ⟨lk4,S4,v8',rfl,k4,D4,gp4,gl4,ks4,la4⟩;exact ⟨lk4,S4,_,_,rfl,k4,D4,gp4,gl4,ks4,la4⟩
   .rw[decide_eq_false hb,if_neg zzN];refine qP ?_;exact stay G2 _ _ kk D2 gp2 gl2
 .rintro σ G1 ⟨lk,S,v7,v8,rfl,k1,D1,gp1,gl1,ks,la⟩;exact hD G1 lk S v7 v8 k1 D1 gp1 gl1 ks la
end
theorem zfj {G:Hw} {ld:Addr} {lk:List (yM×W)} {S:List Nat} {R:List W->(Hw->Prop)->Hw->Prop} (h:jK G ld=some lk) (ks:wW lk S) (q:R (wG S) (fun G'=>G' ld=some (.fzd lk)) (put G ld (.fzd lk))):qI (.ref ld) G R:=by
 have hl:yU G ld=none:=by
  unfold jK at h;unfold yU
  cases e:G ld with
  |none=>rfl
  |some o =>
   rw[e] at h;cases o<;>first|rfl|cases h
 simp only[qI,hl,h];rw[zbU ks];exact q
theorem fV {G:Hw} {p:Addr} {ws:List W} {R:List W->(Hw->Prop)->Hw->Prop} (h:G p=some (.lst ws)) (q:R ws (fun G'=>yU G' p=some ws) G):qI (.ref p) G R:=by
 simp only[qI,yV h];exact q
theorem zeP {ns:List Int} {S:List Nat} (h:ns.Perm (S.map fun n:Nat=>(n:Int))):∃ ls:List Nat,ns=ls.map (fun n:Nat=>(n:Int))/\ls.Perm S:=by
 refine ⟨ns.map Int.toNat,?_,?_⟩
 .rw[ZO]
  have:∀ x∈ns,((fun n:Nat=>(n:Int)) ∘ Int.toNat) x=x:=fun x hx=>by
   obtain ⟨n,_,rfl⟩:=zzP (h.mem_iff.mp hx);simp
  rw[Zaf this,List.map_id']
 .have:=h.map Int.toNat;rw[ZO] at this
  have e:S.map (Int.toNat ∘ fun n:Nat=>(n:Int))=S:=by
   have:∀ x∈S,(Int.toNat ∘ fun n:Nat=>(n:Int)) x=x:=fun x _=>by simp
   rw[Zaf this,List.map_id']
  rwa[e] at this
theorem zfm {α:Type} (p:α->Bool) (l:List α) (x:α):(l++[x]).find? p=(l.find? p).or (if p x=true then some x else none):=by
 rw[List.find?_append];congr 1;cases h:p x<;>simp[h]
theorem zky {k q:yM} {v:W} (h:q≠k):∀ kvs:List (yM×W),uQ (kvs.map fun kv=>if kv.1=k then (kv.1,v) else kv) q=uQ kvs q
 | []=>rfl
 |x::r=>by
  have ih:=zky (v:=v) h r;unfold uQ at ih ⊢;rw[zzU,ZZ,ZZ]
  by_cases hx:x.1=k
  .rw[if_pos hx];have n2:decide (x.1=q)=false:=decide_eq_false fun z=>h (z▸hx);simp only[n2];exact ih
  .rw[if_neg hx]
   cases decide (x.1=q) with
   |true=>rfl
   |false=>exact ih
theorem zkz {k:yM} {v:W}:∀ kvs:List (yM×W),(kvs.any fun kv=>decide (kv.1=k))=true->uQ (kvs.map fun kv=>if kv.1=k then (kv.1,v) else kv) k=some v
 | [],h=>by cases h
 |x::r,h=>by
  have ih:=zkz (k:=k) (v:=v) r;unfold uQ at ih ⊢;rw[zzU,ZZ]
  by_cases hx:x.1=k
  .rw[if_pos hx];simp only[decide_eq_true hx];rfl
  .rw[if_neg hx];rw[Zay,decide_eq_false hx,Zcz] at h;simp only[decide_eq_false hx];exact ih h
theorem zfA {kvs:List (yM×W)} {k q:yM} {v:W}:uQ (qH kvs k v) q=if q=k then some v else uQ kvs q:=by
 unfold qH
 split
 .rename_i h
  by_cases hq:q=k
  .subst hq;rw[if_pos rfl,zkz _ h]
  .rw[if_neg hq,zky hq]
 .rename_i h;unfold uQ;rw[zfm]
  by_cases e:q=k
  .subst e
   have:kvs.find? (fun kv=>decide (kv.1=q))=none:=by
    rw[List.find?_eq_none];intro x hx z;exact h (Zcc.mpr ⟨x,hx,z⟩)
   rw[this,if_pos rfl];simp
  .rw[if_neg e,if_neg (by simpa using fun z=>e z.symm)];simp
theorem zfz (kvs:List (yM×W)) (k:yM) (v:W):(qH kvs k v).length<=kvs.length+1:=by
 unfold qH
 split
 .rw[zzM];omega
 .rw[zzW];simp
section
variable {K:yS} {CQ:Nat->Addr}
def zi2:ISs->ISs:=fun b=>qD (qD (forB (at3 b)))
theorem zgz {n:Nat} (hn:14<=n) {d l r pr ld:Addr} {m:Int} {M a:Nat} {f:Nat->Wd} {xs:List Str} {kvs lk:List (yM×W)} {S:List Nat} {G:Hw} {v7 v8 v9:Option W} (hM:M<=12) (ha:a<M) (D0:yA G d l) (nr:r∉[d,l]) (np:pr∉[d,l]) (nl:ld∉[d,l]) (npl:ld≠pr) (gr:G r=some (.lst (xs.map .str))) (hx:xs.length<=5) (gp:G pr=some (.dic kvs)) (hkv:kvs.length<=100) (rw':Rows f kvs M (a+1)) (gl:G ld=some (.dic lk)) (ks:wW lk S) (la:Lat M a S)
  (D:End3) (hD:∀ (G':Hw) (us:List Str) (ls:List Nat) (v9:Option W),zV [d,l,ld,pr] G G'->yA G' d l->us.length<=5->(∀ x∈us,x∈xs)->ls.Perm S->G' pr=some (.dic (qH kvs (.inl (a:Int)) (Wd.w ⟨us,ls⟩)))->D.nx [some (.ref d),some (.ref r),some (.int m),some (.int (M:Nat)),some (.ref pr),some (.int (a:Nat)),some (.ref ld),v7,v8,v9] G') :
  zC (yX K CQ n) XN (zi2 xG) D [some (.ref d),some (.ref r),some (.int m),some (.int (M:Nat)),some (.ref pr),some (.int (a:Nat)),some (.ref ld),v7,v8,v9] G:=by
 have e2:(yX K CQ n).fn[2]?=some eAll:=jD 2 hn rfl;have e5:(yX K CQ n).fn[5]?=some zh5:=jD 5 hn rfl;have e6:(yX K CQ n).fn[6]?=some eTup:=jD 6 hn rfl;have e10:(yX K CQ n).fn[10]?=some tM:=jD 10 hn rfl;have z2:=sz 2 (by decide);have hS:=la.len hM;simp only[xG,zi2,at3,hdS,qD,forB];refine yR ?_
 erw[]
 refine fV gr ?_;refine ⟨fun i acc G'=>∃ ts:List Str,acc=ts.map .str/\ts.length<=i/\(∀ x∈ts,x∈xs)/\zV [d,l] G G'/\yA G' d l,⟨[],rfl,zzR _,by simp,zV.refl,D0⟩,?_,sz _ (by rw[zzM];omega),?_,?_⟩
 .rintro i acc G' ⟨ts,rfl,h1,_,k,_⟩ _;exact ⟨yV (k _ _ nr gr),by simpa using h1⟩
 .rintro i w acc G' hw ⟨ts,rfl,h1,h2,k,D'⟩;rw[Zm] at hw;obtain ⟨x,hx',rfl⟩:=Zs.mp hw;simp only[qT,List.replicate,zzU,zzV,Zau,Za1,gZ,gS,Zbb,Zf,Zo]
  erw[e10]
  refine ⟨d,l,2,rfl,D',by decide,fun b G2 b0 b1 k2 D2=>?_⟩;simp only[yI,wB]
  by_cases hb:b=1
  .rw[decide_eq_true hb,if_pos rfl];refine ⟨ts++[x],by simp,by simp;omega,fun y hy=>?_,k.trans k2,D2⟩;rcases ZE.mp hy with hy|hy
   .exact h2 y hy
   .rw[zzO hy];exact Zr hx'
  .rw[decide_eq_false hb,if_neg zzN];exact ⟨ts,rfl,by omega,h2,k.trans k2,D2⟩
 rintro acc G1 ⟨ts,rfl,h1,h2,k1,D1⟩ p9 hp9;rw[zzM] at h1;have n9:=vA D1 hp9;have k2:zV [d,l] G (put G1 p9 (.lst (ts.map .str))):=k1.trans (zV.new hp9);have D2:=qV (o:=.lst (ts.map .str)) hp9 D1;have g9:(put G1 p9 (.lst (ts.map .str))) p9=some (.lst (ts.map .str)):=zW;generalize put G1 p9 (.lst (ts.map .str))=G2 at k2 D2 g9 ⊢;have gp2:=k2 _ _ np gp;have gl2:=k2 _ _ nl gl;have n9l:p9≠ld:=fun e=>by rw[e,gl2] at g9;cases g9
 refine yR ?_
 erw[]
 refine fV g9 ?_;refine ⟨fun i acc G'=>∃ us:List Str,acc=us.map .str/\us.length<=i/\(∀ x∈us,x∈xs)/\zV [ld] G2 G'/\jK G' ld=some lk,⟨[],rfl,zzR _,by simp,zV.refl,by unfold jK;rw[gl2]⟩,?_,sz _ (by rw[zzM];omega),?_,?_⟩
 .rintro i acc G' ⟨us,rfl,h3,_,k,_⟩ _;exact ⟨yV (k _ _ (by simpa using n9l) g9),by simpa using h3⟩
 .rintro i w acc G' hw ⟨us,rfl,h3,h4,k,hd⟩;rw[Zm] at hw;obtain ⟨x,hx',rfl⟩:=Zs.mp hw;simp only[qT,List.replicate,zzU,zzV,Zau,Za1,gZ,gS,Zbb,Zf,Zo]
  erw[e2]
  refine zfj hd ks ?_;have k3:zV [ld] G2 (put G' ld (.fzd lk)):=k.trans (zV.put (by simp));have g3:(put G' ld (.fzd lk)) ld=some (.fzd lk):=zW;generalize put G' ld (.fzd lk)=G3 at k3 g3 ⊢;have gp3:=k3 _ _ (by simpa using Ne.symm npl) gp2;refine zc8 (fun q=>some (.bl ((f (S.getD q 0)).ns.contains x))) (by simp only[wG,zzM];omega) (fun G'' k4=>k4 _ _ (by simp) g3) (fun q u G4 kk hu k4 hk=>?_) (fun G4 r4 k4 hr4=>?_)
  .simp only[wG,Zm] at hu;obtain ⟨j,hj,rfl⟩:=Zs.mp hu;rw[gD hj] at hk;have hjr:=la.rg j (Zr hj);simp only[qT,List.replicate,zzU,zzV,Zau,Za1,gZ,gS,tZ,tS,Zbb,Zf,Zo]
   erw[if_true]
   simp only[nW,k4 _ _ (by simp) gp3,vZ,rw' j (by omega) hjr.2,Wd.w,at_0,yI,tB];refine inS ?_;simp only[zzB,if_false];exact hk G4 k4
  .refine ⟨S.map fun j=>(f j).ns.contains x,?_,?_⟩
   .rw[yV zW,zds];congr 1;simp only[wG,zzM];rw[zjP (fun j=>W.bl ((f j).ns.contains x)) 0 S,ZO];rfl
   .simp only[vX];have k5:zV [ld] G2 (put G4 r4 (.lst ((List.range (wG S).length).filterMap fun q=>some (W.bl ((f (S.getD q 0)).ns.contains x))))):=(k3.trans (ze8 k4)).trans (zV.new hr4)
    have d5:jK (put G4 r4 (.lst ((List.range (wG S).length).filterMap fun q=>some (W.bl ((f (S.getD q 0)).ns.contains x))))) ld=some lk:=by
     unfold jK;have e:=(k4.trans (zV.new (o:=.lst ((List.range (wG S).length).filterMap fun q=>some (W.bl ((f (S.getD q 0)).ns.contains x)))) hr4)) _ _ (by simp) g3;rw[e]
    cases hall:(S.map fun j=>(f j).ns.contains x).all id with
    |true =>
     rw[if_pos rfl];refine ⟨us++[x],by simp,by simp;omega,fun y hy=>?_,k5,d5⟩;rcases ZE.mp hy with hy|hy
     .exact h4 y hy
     .rw[zzO hy];exact h2 x (Zr hx')
    |false =>
     rw[if_neg zzN];exact ⟨us,rfl,by omega,h4,k5,d5⟩
 rintro acc G3 ⟨us,rfl,h3,h4,k3,hd⟩ p10 hp10;rw[zzM] at h3;have k4:zV [ld] G2 (put G3 p10 (.lst (us.map .str))):=k3.trans (zV.new hp10);have g10:(put G3 p10 (.lst (us.map .str))) p10=some (.lst (us.map .str)):=zW
 have n10:p10≠ld:=fun e=>by
  unfold jK at hd;rw[← e,hp10] at hd;cases hd
 have d4:jK (put G3 p10 (.lst (us.map .str))) ld=some lk:=by
  unfold jK at hd ⊢;rw[xJ (Ne.symm n10)];exact hd
 generalize put G3 p10 (.lst (us.map .str))=G4 at k4 g10 d4 ⊢;refine yR ?_
 erw[e5,e6]
 refine .inr ⟨us,yV g10,by omega,fun us' pu hs5 r5 hr5=>?_⟩;have k5:zV [] G4 (put G4 r5 (.lst (us'.map .str))):=zV.new hr5;have g5:(put G4 r5 (.lst (us'.map .str))) r5=some (.lst (us'.map .str)):=zW
 have n5:r5≠ld:=fun e=>by
  unfold jK at d4;rw[← e,hr5] at d4;cases d4
 have d5:jK (put G4 r5 (.lst (us'.map .str))) ld=some lk:=by
  unfold jK at d4 ⊢;rw[xJ (Ne.symm n5)];exact d4
 generalize put G4 r5 (.lst (us'.map .str))=G5 at k5 g5 d5 ⊢;simp only[rS,wT,yV g5];refine .inl ⟨S.map fun n:Nat=>(n:Int),.inr ⟨ld,lk,rfl,d5,by rw[ks,ZO];rfl⟩,by rw[zzM];omega,fun ns' pn hs6 r6 hr6=>?_⟩;obtain ⟨ls,rfl,pl⟩:=zeP pn;have k6:zV [] G5 (put G5 r6 (.lst ((ls.map fun n:Nat=>(n:Int)).map .int))):=zV.new hr6;have g6:(put G5 r6 (.lst ((ls.map fun n:Nat=>(n:Int)).map .int))) r6=some (.lst ((ls.map fun n:Nat=>(n:Int)).map .int)):=zW;generalize put G5 r6 (.lst ((ls.map fun n:Nat=>(n:Int)).map .int))=G6 at k6 g6 ⊢;simp only[yV g6];refine ⟨z2,?_⟩;have kq:zV [ld] G2 G6:=k4.trans (ze8 (k5.trans k6));have gp6:=kq _ _ (by simpa using Ne.symm npl) gp2;simp only[sL,gp6,vZ];refine ⟨by rw[Zt];omega,?_⟩;refine qP ?_;have D6:yA G6 d l:=uC kq (by simp;intro z;exact nl (by simp[z])) (by simp;intro z;exact nl (by simp[z])) D2
 have ew:(W.tup [.tup (us'.map .str),.tup ((ls.map fun n:Nat=>(n:Int)).map .int)])=Wd.w ⟨us',ls⟩:=by
  simp only[Wd.w,wG,ZO];rfl
 rw[ew];refine hD _ us' ls _ ?_ (vN np D6) (by rw[pu.length_eq];omega) (fun x hx=>h4 x (pu.mem_iff.mp hx)) pl zW;exact (((k2.mono (by intro x hx;simp at hx ⊢;rcases hx with h|h<;>simp[h])).trans (kq.mono (by intro x hx;simp at hx ⊢;simp[hx]))).trans (zV.put (by simp)))
theorem zgy {n:Nat} (hn:14<=n) {ws:List W} {G:Hw} {Q:Q3} (h:zek ws G Q XN):zC (yX K CQ n) XN xG { nx:=fun _ G'=>Q .non G',rt:=Q } (yG rE ws) G:=by
 obtain ⟨d,l,r,m,xs,rfl,D0,nr,gr,nx,m1,m12,h⟩:=h;have hx:=nx.len;have e6:(yX K CQ n).fn[6]?=some eTup:=jD 6 hn rfl;have e10:(yX K CQ n).fn[10]?=some tM:=jD 10 hn rfl;have i0:(yX K CQ n).it[0]?=some dR:=rfl;have s4:(yX K CQ n).sx[2]?=some ⟨emM,emS⟩:=rfl;show zC (yX K CQ n) XN xG { nx:=fun _ G'=>Q .non G',rt:=Q } [some (.ref d),some (.ref r),some (.int m),none,none,none,none,none,none,none] G
 have loop:∀ (G2:Hw) (M:Nat) (pr:Addr),1<=M->M<=12->zV [d,l] G G2->yA G2 d l->pr∉[d,l]->G pr=none->G2 pr=some (.dic [])->G2 r=some (.lst (xs.map .str)) ->
   zC (yX K CQ n) XN (qD (qD xG)) { nx:=fun _ G'=>Q .non G',rt:=Q } [some (.ref d),some (.ref r),some (.int m),some (.int (M:Nat)),some (.ref pr),none,none,none,none,none] G2:=by
  intro G2 M pr M1 M12 k2 D2 np hpr gp2 gr2;simp only[xG,qD];refine yR ?_
  erw[i0,wK]
  refine ⟨rfl,⟨by omega,by omega⟩,⟨by decide,by decide⟩,?_⟩;have len:((List.range ((M:Int)-1 - -1).toNat).map fun k:Nat=>W.int ((M:Int)-1-(k:Nat))).length=M:=by simp
  refine ⟨fun i σ G'=>∃ (f:Nat->Wd) (kvs:List (yM×W)) (v5 v6 v7 v8 v9:Option W),σ=[some (.ref d),some (.ref r),some (.int m),some (.int (M:Nat)),some (.ref pr),v5,v6,v7,v8,v9]/\zV [d,l] G G'/\yA G' d l/\G' pr=some (.dic kvs)/\kvs.length<=i/\Rows f kvs M (M-i)/\Fw f M (M-i),
   ⟨fun _=>⟨[],[]⟩,[],none,none,none,none,none,rfl,k2,D2,gp2,zzR _,fun j h1 h2=>by omega,⟨fun j h1 h2=>by omega,fun j h1 h2=>by omega⟩⟩,fun _ _ _ _ _=>trivial,?_,?_⟩
  .rintro i w σ G3 hw ⟨f,kvs,v5,v6,v7,v8,v9,rfl,k3,D3,gp3,hl3,rw3,fw3⟩;have hi:i<M:=by have:=(Zi.mp hw).1;rwa[len] at this
   have ew:w=.int ((M-1-i:Nat):Int):=by
    rw[Zm] at hw;obtain ⟨q,hq,rfl⟩:=Zs.mp hw
    have:q=i:=by
     have:=(Zi.mp hq).2;rw[Zbj] at this;exact this.symm
    subst this;congr 1;omega
   subst ew;have ha:M-1-i<M:=by omega
   have ha1:M-i=(M-1-i)+1:=by omega
   have ha2:M-(i+1)=M-1-i:=by omega
   rw[ha1] at rw3 fw3;simp only[ha2];generalize M-1-i=a at ha rw3 fw3 ⊢;have gr3:=k3 _ _ nr gr;refine yR ?_
   erw[s4]
   intro ld hld;have nl:=vA D3 hld;have npl:ld≠pr:=fun e=>by rw[e,gp3] at hld;cases hld
   have hldG:G ld=none:=k3.none nl hld;have k4:zV [d,l] G (put G3 ld (.dic [])):=k3.trans (zV.new hld);have D4:=qV (o:=.dic []) hld D3;have gl4:(put G3 ld (.dic [])) ld=some (.dic []):=zW;have gp4:(put G3 ld (.dic [])) pr=some (.dic kvs):=by rw[xJ (Ne.symm npl)];exact gp3
   generalize put G3 ld (.dic [])=G4 at k4 D4 gl4 gp4 ⊢;refine yR ?_;refine zb8 hn M12 ha D4 np nl npl gp4 rw3 fw3 gl4 _ fun G5 lk S v7' v8' k5 D5 gp5 gl5 ks5 la5=>?_
   have gr5:G5 r=some (.lst (xs.map .str)):=by
    have e4:=k4 _ _ nr gr
    exact k5 _ _ (by
     simp at nr ⊢;refine ⟨nr.1,nr.2,fun e=>?_⟩;rw[e,hldG] at gr;cases gr) e4
   refine zgz hn M12 ha D5 nr np nl npl gr5 hx gp5 (by omega) rw3 gl5 ks5 la5 _ fun G6 us ls v9' k6 D6 u1 u2 pl gp6=>?_;refine ⟨fun j=>if j=a then ⟨us,ls⟩ else f j,_,_,_,_,_,_,rfl,?_,D6,gp6,?_,?_,?_⟩
   .intro x o hx' e;have e4:=k4 x o hx' e;have nld:x≠ld:=fun z=>by rw[z,hldG] at e;cases e
    have npr:x≠pr:=fun z=>by rw[z,hpr] at e;cases e
    simp at hx';exact k6 x o (by simp;exact ⟨hx'.1,hx'.2,nld,npr⟩) (k5 x o (by simp;exact ⟨hx'.1,hx'.2,nld⟩) e4)
   .have:=zfz kvs (.inl (a:Int)) (Wd.w ⟨us,ls⟩);omega
   .intro j h1 h2;rw[zfA]
    by_cases hj:j=a
    .subst hj;rw[if_pos rfl];show _=some (if j=j then (⟨us,ls⟩:Wd) else f j).w;rw[if_pos rfl]
    .rw[if_neg (fun z=>hj (by have:=Sum.inl.inj z;omega))];show _=some (if j=a then (⟨us,ls⟩:Wd) else f j).w;rw[if_neg hj];exact rw3 j (by omega) h2
   .have old:∀ j,a+1<=j->(if j=a then (⟨us,ls⟩:Wd) else f j)=f j:=fun j hj=>if_neg (by omega);refine ⟨fun j h1 h2 q hq=>?_,fun j h1 h2=>?_⟩
    .by_cases hj:j=a
     .subst hj;simp only[if_true] at hq;exact la5.rg q (pl.mem_iff.mp hq)
     .have hj':a+1<=j:=by omega
      simp only[old j hj'] at hq;exact fw3.nx j hj' h2 q hq
    .by_cases hj:j=a
     .subst hj;simp only[if_true];refine ⟨fun x hx'=>nx.nm x (u2 x hx'),fun q hq=>?_,u1,?_⟩
      .have:=la5.rg q (pl.mem_iff.mp hq);omega
      .rw[pl.length_eq];exact la5.len M12
     .simp only[old j (by omega)];exact fw3.ok j (by omega) h2
  .rintro σ G3 ⟨f,kvs,v5,v6,v7,v8,v9,rfl,k3,D3,gp3,hl3,rw3,fw3⟩;rw[len,Nat.sub_self] at rw3 fw3;refine yR ?_
   erw[e6,i0]
   refine ⟨⟨by omega,by omega⟩,?_⟩;have lenr:((List.range ((M:Nat):Int).toNat).map fun i:Nat=>W.int (i:Int)).length=M:=by simp
   refine zc8 (fun i=>some (f i).w) (by rw[lenr];omega) (fun _ _=>trivial) (fun i w G4 k hw k4 hk=>?_) (fun G4 r4 k4 hr4=>?_)
   .have hi:i<M:=by have:=(Zi.mp hw).1;rwa[lenr] at this
    have ew:w=.int (i:Nat):=by
     simp[hi] at hw;exact hw.symm
    subst ew;simp only[qT,List.replicate,zzU,zzV,Zau,Za1,gZ,gS,tZ,tS,Zbb,Zf,Zo]
    erw[if_true]
    simp only[nW,k4 _ _ (by simp) gp3,vZ,rw3 i (Zan _) hi];exact hk G4 k4
   .simp only[rS,wT,yV zW];rw[lenr,zds];have ew:(List.range M).map (fun i=>(f i).w)=((List.range M).map f).map Wd.w:=by rw[ZO];rfl
    rw[ew];have k5:zV [] G3 (put G4 r4 (.lst (((List.range M).map f).map Wd.w))):=k4.trans (zV.new hr4)
    have mem_:∀ v∈(List.range M).map f,∃ k,k<M/\v=f k:=fun v hv=>by
     obtain ⟨k,hk,rfl⟩:=zzP hv;exact ⟨k,ZH.mp hk,rfl⟩
    refine h ((List.range M).map f) _ ⟨by simp;exact M1,by simp;exact M12,fun v hv=>?_⟩ (k3.trans (ze8 k5)) (bR k5 D3);obtain ⟨k,hk,rfl⟩:=mem_ v hv;exact fw3.ok k (Zan _) hk
 simp only[xG,qD] at loop;simp only[xG];refine yR ?_
 erw[e10,wK]
 refine ⟨d,l,m,rfl,D0,⟨by omega,by omega⟩,fun q G1 q0 q1 k1 D1=>?_⟩;refine yR ?_
 erw[s4]
 intro pr hpr;have np:=vA D1 hpr;obtain ⟨M,eM⟩:∃ M:Nat,1+q=(M:Int):=⟨(1+q).toNat,by omega⟩;rw[eM];have k2:zV [d,l] G (put G1 pr (.dic [])):=k1.trans (zV.new hpr);exact loop _ M pr (by omega) (by omega) k2 (qV hpr D1) np (k1.none np hpr) zW (k2 _ _ nr gr)
end
theorem zdX {xs:List Str} {i:Int} (h0:0<=i) (h1:i<xs.length):∃ x∈xs,sS (xs.map W.str) i=some (.str x):=by
 have hi:i.toNat<xs.length:=by omega
 refine ⟨xs[i.toNat],ZJ hi,?_⟩;unfold sS nH;rw[if_pos h0,zzM,if_pos h1];show (xs.map W.str)[i.toNat]?=_;rw[Zm,Zl hi];rfl
theorem zkJ {xs:List Nat} {i:Int} (h0:0<=i) (h1:i<xs.length):∃ x∈xs,sS (wG xs) i=some (.int (x:Nat)):=by
 have hi:i.toNat<xs.length:=by omega
 refine ⟨xs[i.toNat],ZJ hi,?_⟩;unfold sS nH wG;rw[if_pos h0,zzM,if_pos h1];show (xs.map _)[i.toNat]?=_;rw[Zm,Zl hi];rfl
theorem addT {a b:List W} {G:Hw} {Q:Q3} (h:a.length+b.length<=100000) (q:Q (.tup (a++b)) G):wK .Add (.tup a) (.tup b) G Q:=⟨sz _ h,q⟩
theorem map_set {α β:Type} (f:α->β) (l:List α) (i:Nat) (x:α):(l.map f).set i (f x)=(l.set i x).map f:=(List.map_set).symm
section
variable {K:yS} {CQ:Nat->Addr}
theorem zif {n:Nat} (hn:12<=n) {ws:List W} {G:Hw} {Q:Q3} (h:zem ws G Q XN):zC (yX K CQ n) XN qZ { nx:=fun _ G'=>Q .non G',rt:=Q } (yG kP ws) G:=by
 obtain ⟨d,l,r,xs,web,rfl,D,nr,gr,nx,wo,h⟩:=h;have e1:(yX K CQ n).fn[1]?=some nU:=jD 1 hn rfl;have e3:(yX K CQ n).fn[3]?=some eLst:=jD 3 hn rfl;have e6:(yX K CQ n).fn[6]?=some eTup:=jD 6 hn rfl;have e10:(yX K CQ n).fn[10]?=some tM:=jD 10 hn rfl;have i0:(yX K CQ n).it[0]?=some dR:=rfl;have s3:(yX K CQ n).sx[3]?=some ⟨trM,trS⟩:=rfl;have z1:=sz 1 (by decide);have z2:=sz 2 (by decide);have z5:=sz 5 (by decide);have hz:=wo.few;have hz1:=wo.one;have hx5:=nx.len;have hxl:1<=xs.length:=by have:=nx.ne;cases xs with|nil=>exact absurd rfl this|cons _ _=>simp
 show zC (yX K CQ n) XN qZ { nx:=fun _ G'=>Q .non G',rt:=Q } [some (.ref d),some (.ref r),some (wY web),none,none,none,none,none,none] G;simp only[qZ];refine yR ?_
 erw[e3,lstS,wY,wT]
 intro p hp;have np:=vA D hp;have D1:=qV (o:=.lst (web.map Wd.w)) hp D;have k1:zV [d,l] G (put G p (.lst (web.map Wd.w))):=zV.new hp;have gp1:(put G p (.lst (web.map Wd.w))) p=some (.lst (web.map Wd.w)):=zW;generalize put G p (.lst (web.map Wd.w))=G1 at D1 k1 gp1 ⊢;refine yR ?_
 erw[i0,e10,wK]
 refine ⟨d,l,3,rfl,D1,by decide,fun b G2 b0 b1 k2 D2=>?_⟩;have gp2:=k2 _ _ np gp1;refine ⟨⟨by omega,by omega⟩,?_⟩;have len:((List.range b.toNat).map fun i:Nat=>W.int (i:Int)).length=b.toNat:=by simp
 refine ⟨fun i σ G'=>∃ (web':List Wd) (v4 v5 v6 v7 v8:Option W),σ=[some (.ref d),some (.ref r),some (wY web),some (.ref p),v4,v5,v6,v7,v8]/\web'.length=web.length/\(∀ v∈web',v.ok (5+i) (12+i))/\G' p=some (.lst (web'.map Wd.w))/\zV [d,l] G G'/\yA G' d l,
  ⟨web,none,none,none,none,none,rfl,rfl,wo.ok,gp2,k1.trans k2,D2⟩,fun _ _ _ _ _=>trivial,?_,?_⟩
 .rintro i w σ G3 hw ⟨web',v4,v5,v6,v7,v8,rfl,hl',hb',gp3,k3,D3⟩;have hi:i<2:=by have:=(Zi.mp hw).1;rw[len] at this;omega
  refine yR ?_
  erw[e10,e1,vD,vE,gp3,zzM]
  refine ⟨d,l,web'.length,rfl,D3,by omega,fun at' G4 a0 a1 k4 D4=>?_⟩;have gp4:=k4 _ _ np gp3;obtain ⟨an,rfl⟩:∃ an:Nat,at'=an:=⟨at'.toNat,by omega⟩;have han:an<web'.length:=by omega
  refine yR ?_
  erw[]
  refine ixL (yV gp4) ?_;rw[atN (w:=web'[an].w) (by rw[Zm,Zl han];rfl)];have hm:=ZJ han;have hv:=hb' _ hm;generalize hvd:web'[an]=v at *;simp only[Wd.w]
  erw[unl]
  refine yR ?_
  erw[e10]
  refine ⟨d,l,4,rfl,D4,by decide,fun way G5 c0 c1 k5 D5=>?_⟩;have gp5:=k5 _ _ np gp4;have k5:=(k3.trans k4).trans k5;have gr5:=k5 _ _ nr gr
  have fin:∀ (D':End3) (ss:List Str) (ls:List Nat) (G6:Hw),(∀ σ G',(∃ (web':List Wd) (v4 v5 v6 v7 v8:Option W),σ=[some (.ref d),some (.ref r),some (wY web),some (.ref p),v4,v5,v6,v7,v8]/\web'.length=web.length/\(∀ v∈web',v.ok (5+(i+1)) (12+(i+1)))/\G' p=some (.lst (web'.map Wd.w))/\zV [d,l] G G'/\yA G' d l)->D'.nx σ G') ->
    (⟨ss,ls⟩:Wd).ok (5+(i+1)) (12+(i+1))->zV [d,l] G G6->yA G6 d l->G6 p=some (.lst (web'.map Wd.w)) ->
    zC (yX K CQ n) XN (.cons (.asgI (.var 3) (.var 5) (.tup (.cons (.var 6) (.cons (.var 7) .nil)))) .nil) D' [some (.ref d),some (.ref r),some (wY web),some (.ref p),some w,some (.int an),some (.tup (ss.map .str)),some (.tup (wG ls)),some (.int way)] G6:=by
   intro D' ss ls G6 hD hok k6 D6 gp6;refine yR ?_
   erw[zzC,zzL,zzA,Nat.reduceAdd,z2,true_and]
   simp only[sL,gp6]
   have ei:nH (web'.map Wd.w).length (an:Int)=some an:=by
    unfold nH;rw[if_pos (by omega),zzM,if_pos (by omega)];rfl
   rw[ei];refine qP (hD _ _ ⟨web'.set an ⟨ss,ls⟩,_,_,_,_,_,rfl,by rw[ZbI];exact hl',fun u hu=>?_,by rw[zW];exact congrArg (fun z=>some (O.lst z)) (map_set Wd.w web' an ⟨ss,ls⟩),uF k6 hp,vN np D6⟩);rcases List.mem_or_eq_of_mem_set hu with hu|rfl
   .exact (hb' u hu).mono (by omega) (by omega)
   .exact hok
  by_cases hc:way=0
  .subst hc;refine yR ?_
   erw[yI,wB,decide_true,if_true]
   refine yR ?_
   erw[s3,trS,e10,e1,vD,vE,gr5,zzM]
   refine ⟨d,l,xs.length,rfl,D5,by omega,fun j G6 j0 j1 k6 D6=>?_⟩;have gr6:=k6 _ _ nr gr5;obtain ⟨x,hx,ex⟩:=zdX j0 j1;refine ixL (yV gr6) ?_;rw[ex];refine ⟨z1,addT (by simp only[Z7,zzM,Zf,Zo];have:=hv.nl;omega) ?_⟩;have es:(v.ns.map W.str).reverse++[W.str x]=(v.ns.reverse++[x]).map W.str:=by simp
   rw[es];refine qP (yR ?_)
   erw[yI,wB,decide_false,zzB,if_false]
   rw[if_neg (by decide)];refine qP (yR ?_)
   erw[yI,rJ]
   rw[if_neg (by decide)];refine qP (fin _ _ v.ls G6 (fun _ _ z=>z) ⟨fun y hy=>?_,hv.lt,?_,by have:=hv.ll;show v.ls.length<=_;omega⟩ (k5.trans k6) D6 (k6 _ _ np gp5))
   .rcases ZE.mp hy with hy|hy
    .exact hv.nm y (Zce.mp hy)
    .rw[zzO hy];exact nx.nm x hx
   .show (v.ns.reverse++[x]).length<=_;have:=hv.nl;simp;omega
  refine yR ?_
  erw[yI,wB]
  rw[if_neg (by simpa using hc)];refine qP (yR ?_)
  erw[yI,wB]
  by_cases hc1:way=1
  .subst hc1;rw[if_pos (by decide)];refine yR ?_
   erw[s3,trS]
   refine qP (yR ?_)
   erw[yI,rJ]
   rw[if_neg (by decide)];have es:(wG v.ls).reverse=wG v.ls.reverse:=by simp[wG]
   rw[es];exact qP (fin _ v.ns _ G5 (fun _ _ z=>z) ⟨hv.nm,fun y hy=>hv.lt y (Zce.mp hy),(by have:=hv.nl;show v.ns.length<=_;omega),by rw[Z7];have:=hv.ll;omega⟩ k5 D5 gp5)
  rw[if_neg (by simpa using hc1)];refine qP (yR ?_)
  erw[yI,rJ]
  rw[if_pos (by simp;omega)];refine yR ?_
  erw[e10,e1,vD,vE,gp5,zzM,zzC,zzL,zzA,Nat.reduceAdd,z5,true_and]
  intro q hq;refine ⟨d,l,5,rfl,qV hq D5,by decide,fun j G6 j0 j1 k6 D6=>?_⟩;have gq6:G6 q=some (.lst (wG [0,an,web'.length,999,10])):=k6 _ _ (vA D5 hq) zW;obtain ⟨x,hx,ex⟩:=zkJ (xs:=[0,an,web'.length,999,10]) j0 (by simpa using j1);refine ixL (yV gq6) ?_;rw[ex];refine ⟨z1,addT (by simp only[wG,zzM,Zf,Zo];have:=hv.ll;omega) ?_⟩;have es:wG v.ls++[W.int (x:Nat)]=wG (v.ls++[x]):=by simp[wG]
  rw[es];have kq:=(k5.trans (zV.new (o:=.lst (wG [0,an,web'.length,999,10])) hq)).trans k6;refine qP (fin _ v.ns _ G6 (fun _ _ z=>z) ⟨hv.nm,fun y hy=>?_,(by have:=hv.nl;show v.ns.length<=_;omega),?_⟩ kq D6 (k6 _ _ np (tG hq gp5)))
  .rcases ZE.mp hy with hy|hy
   .exact hv.lt y hy
   .rw[zzO hy];simp at hx;omega
  .have:=hv.ll;simp;omega
 .rintro σ G3 ⟨web',v4,v5,v6,v7,v8,rfl,hl',hb',gp3,k3,D3⟩;refine yR ?_
  erw[e6,rS,wT,yV gp3]
  rw[len] at hb';exact h web' G3 ⟨by omega,by omega,fun v hv=>(hb' v hv).mono (by omega) (by omega)⟩ k3 D3
end
theorem qN {n:Nat} (h:n<=20000):((n:Int)).natAbs.log2<1920:=by
 rw[Int.natAbs_natCast]
 by_cases h0:n=0
 .subst h0;decide
 .exact Nat.lt_trans ((Nat.log2_lt (k:=15) h0).mpr (by show n<32768;omega)) (by decide)
theorem nK {n:Nat} (h:n<1000):(jR n).length<=3:=by
 have:=(tH n h).1;simp only[wL,Zh,decide_eq_true_eq] at this;exact this.1.1.2
theorem zgi {n:Nat} (h:n<1000):(hd n).length<=4:=by
 have:=nK h;unfold hd;rw[Zz,show (":" : Str).length=1 from by decide +kernel];omega
theorem dI {k:Nat} {v:Wd} (hk:k<1000) (o:v.ok 7 14):qE (wF k v)<=200:=by
 have h1:=zgi hk;have h2:=bD (l:=v.ns) (B:=6) fun x hx=>zcV (o.nm x hx)
 have h3:=bD (l:=v.ls.map jR) (B:=3) fun x hx=>by
  obtain ⟨n,hn,rfl⟩:=zzP hx;exact nK (o.lt n hn)
 rw[zzM] at h3;have h4:=o.nl;have h5:=o.ll;have h6:gt.length=1:=by decide +kernel
 unfold wF;rw[yE,yE,yH,yH,show qE []=0 from rfl];have:v.ns.length * (6+1)<=7 * 7:=ZbX h4 (zzR _);have:v.ls.length * (3+1)<=14 * 4:=ZbX h5 (zzR _);omega
theorem zbd:(" " : Str).length=1:=by decide +kernel
theorem gX:("\n" : Str).length=1:=by decide +kernel
theorem zgV {k:Nat} {v:Wd} (hk:k<1000) (o:v.ok 7 14):(nY k v).length<=200:=Zn (sC " " _ zbd) (dI hk o)
theorem hG {web:List Wd} (hl:web.length<=12) (o:∀ v∈web,v.ok 7 14):qE (xX web)<=2412:=by
 have h:=bD (l:=xX web) (B:=200) fun x hx=>by
  simp only[xX,ZbU,ZH] at hx;obtain ⟨k,hk,rfl⟩:=hx;have hv:web.getD k ⟨[],[]⟩=web[k]:=by simp[List.getD,hk]
  rw[hv];exact zgV (by omega) (o _ (ZJ hk))
 have e:(xX web).length=web.length:=by simp[xX]
 rw[e] at h;have:web.length * (200+1)<=12 * 201:=ZbX hl (zzR _);omega
theorem zgA {web:List Wd} (hl:web.length<=12) (o:∀ v∈web,v.ok 7 14):(nA web).length<=2412:=Zn (sC "\n" _ gX) (hG hl o)
theorem pX {α:Type} {items:List W} {stab:Hw->Prop} {G:Hw} {turn:W->Hw->(Option W->Hw->Prop)->Prop} {Q:Q3} (l:List α) (c g:α->W) (hi:items=l.map c) (hl:l.length<=100000) (st:∀ G',zV [] G G'->stab G')
  (step:∀ x∈l,∀ G' (k:Option W->Hw->Prop),zV [] G G'->(∀ G'',zV [] G G''->k (some (g x)) G'')->turn (c x) G' k)
  (fin:∀ G' r,zV [] G G'->G' r=none->Q (.ref r) (put G' r (.lst (l.map g)))):lcR items stab G turn Q:=by
 subst hi
 have e:(List.range (l.map c).length).filterMap (fun i=>(l[i]?).map g)=l.map g:=by
  rw[zzM]
  have:(fun i:Nat=>(l[i]?).map g)=fun i=>(l.map g)[i]?:=by
   funext i;rw[Zm]
  rw[this];have:=Zap (l.map g)
  rwa[zzM] at this
 refine zc8 (fun i=>(l[i]?).map g) (by rw[zzM];exact hl) st (fun i w G' k hw kp hk=>?_) (fun G' r kp hr=>by rw[e];exact fin G' r kp hr);rw[Zm] at hw;obtain ⟨x,hx,rfl⟩:=Zs.mp hw;rw[hx] at hk;exact step x (Zr hx) G' k kp hk
theorem zfG {G:Hw} {p q:Addr} {xs ys:List Str} {Q:Q3} (hp:G p=some (sW xs)) (hq:G q=some (sW ys)) (hl:xs.length+ys.length<=100000) (h:∀ r,G r=none->Q (.ref r) (put G r (sW (xs++ys)))):wK .Add (.ref p) (.ref q) G Q:=by
 refine addL hp hq (by simpa using hl) fun r hr=>?_;rw[← ZaJ];exact h r hr
theorem zdv {Γ:Ctx3} {σ:xE} {G:Hw} {D:End3} {p:Addr} {ws:List W} {i:Nat} {e:IE} (t2:Γ.mt[2]?=some eApp) (s:σ[i]?=some (some (.ref p))) (g:G p=some (.lst ws)) (h:zS Γ XN e σ G fun y G1=>nS (.ref p) [y] G1 fun _ G2=>D.nx σ G2):zQ Γ XN (.ex (.mth 2 (.var i) (.cons e .nil))) D σ G:=by
 dsimp only[zQ,zS,zH,zD,zU];rw[s,t2];exact ⟨tyL g,h⟩
section
variable {K:yS} {CQ:Nat->Addr}
theorem zfW {n:Nat} (hn:9<=n) {k:Nat} {v:Wd} (hk:k<1000) (o:v.ok 7 14) {G:Hw} {Q:Q3} {σ:xE} {eh en el:IE} (heh:∀ R:Q3,R (.str (hd k)) G->zS (yX K CQ n) XN eh σ G R) (hen:∀ G' (R:Q3),R (.tup (v.ns.map .str)) G'->zS (yX K CQ n) XN en σ G' R) (hel:∀ G' (R:Q3),R (.tup (wG v.ls)) G'->zS (yX K CQ n) XN el σ G' R) (nmj:Str)
  (h:∀ G',zV [] G G'->Q (.str (nY k v)) G') :
  zS (yX K CQ n) XN (.mth 1 (.con (.str " ")) (.cons (.bin .Add (.bin .Add (.bin .Add (.lst (.cons eh .nil)) (.call 3 (.cons en .nil))) (.lst (.cons (.con (.str ">")) .nil))) (.lc (.nm 0) [nmj] [] (.val el) .no (.call 8 (.cons (.var 0) .nil)))) .nil)) σ G Q:=by
 have e3:(yX K CQ n).fn[3]?=some eLst:=jD 3 hn rfl;have e8:(yX K CQ n).fn[8]?=some eStr:=jD 8 hn rfl;have z1:=sz 1 (by decide);have h4:=o.nl;have h5:=o.ll;have t1:(yX K CQ n).mt[1]?=some tN:=rfl;dsimp only[zS,zH,zD,zU,zN];rw[t1];refine ⟨rfl,heh _ ⟨z1,fun p hp=>?_⟩⟩;have k00:zV [] G (put G p (.lst [.str (hd k)])):=zV.new hp;have gp:(put G p (.lst [.str (hd k)])) p=some (sW [hd k]):=zW;generalize put G p (.lst [.str (hd k)])=G00 at k00 gp ⊢;refine hen _ _ ?_
 erw[e3,lstS,wT]
 intro q hq;have gp1:=tG (u:=sW v.ns) hq gp;refine zfG gp1 zW (by simp;omega) fun r1 hr1=>?_;have k1:zV [] G (put (put G00 q (sW v.ns)) r1 (sW ([hd k]++v.ns))):=(k00.trans (zV.new hq)).trans (zV.new hr1);have g1:(put (put G00 q (sW v.ns)) r1 (sW ([hd k]++v.ns))) r1=some (sW ([hd k]++v.ns)):=zW;generalize put (put G00 q (sW v.ns)) r1 (sW ([hd k]++v.ns))=G1 at k1 g1 ⊢;refine ⟨z1,fun q2 hq2=>?_⟩;refine zfG (ys:=[gt]) (tG hq2 g1) zW (by simp;omega) fun r2 hr2=>?_;have k2:zV [] G (put (put G1 q2 (.lst [.str ">"])) r2 (sW ([hd k]++v.ns++[gt]))):=k1.trans ((zV.new hq2).trans (zV.new hr2));have g2:(put (put G1 q2 (.lst [.str ">"])) r2 (sW ([hd k]++v.ns++[gt]))) r2=some (sW ([hd k]++v.ns++[gt])):=zW;generalize put (put G1 q2 (.lst [.str ">"])) r2 (sW ([hd k]++v.ns++[gt]))=G2 at k2 g2 ⊢
 try dsimp only[zR]
 refine hel _ _ (zfa (pX v.ls (fun j:Nat=>.int (j:Int)) (fun j=>.str (jR j)) rfl (by omega) (fun _ _=>trivial) ?_ ?_))
 .intro j hj G' κ kp hκ;have:=o.lt j hj;simp only[qT,Zf,Zo,List.replicate,zzV,Zw,Z9]
  erw[e8,if_true]
  exact ⟨qN (by omega),hκ G' kp⟩
 .intro G3 r3 k3 hr3;have e:v.ls.map (fun j=>W.str (jR j))=(v.ls.map jR).map W.str:=by rw[ZO];rfl
  rw[e];refine zfG (ys:=v.ls.map jR) (tG hr3 (k0 k3 g2)) zW (by simp;omega) fun r4 hr4=>?_;refine ⟨wF k v,xC zW,vP zbd (by have:=dI hk o;omega),?_⟩;exact h _ (((k2.trans k3).trans (zV.new hr3)).trans (zV.new hr4))
theorem zeh {n:Nat} (hn:13<=n) {ws:List W} {G:Hw} {Q:Q3} (h:vW ws G Q XN):zC (yX K CQ n) XN vL { nx:=fun _ G'=>Q .non G',rt:=Q } (yG tF ws) G:=by
 obtain ⟨web,rfl,hl,o,h⟩:=h;have e1:(yX K CQ n).fn[1]?=some nU:=jD 1 hn rfl;have e8:(yX K CQ n).fn[8]?=some eStr:=jD 8 hn rfl;have i0:(yX K CQ n).it[0]?=some dR:=rfl;have t1:(yX K CQ n).mt[1]?=some tN:=rfl;have t2:(yX K CQ n).mt[2]?=some eApp:=rfl;have z0:=sz 0 (by decide);have z1:=sz 1 (by decide);show zC (yX K CQ n) XN vL { nx:=fun _ G'=>Q .non G',rt:=Q } [some (wY web),none,none] G;simp only[vL];refine yR ?_
 erw[Zo,z0,true_and]
 intro p hp;have k1:zV [] G (put G p (.lst [])):=zV.new hp;have gp1:(put G p (.lst [])) p=some (sW []):=zW;generalize put G p (.lst [])=G1 at k1 gp1 ⊢;refine yR ?_
 erw[i0,e1,vD,wY,vE,zzM]
 refine ⟨⟨by omega,by omega⟩,?_⟩;have len:((List.range (web.length:Int).toNat).map fun i:Nat=>W.int (i:Int)).length=web.length:=by simp
 refine ⟨fun i σ G'=>∃ v2:Option W,σ=[some (wY web),some (.ref p),v2]/\G' p=some (sW ((xX web).take i))/\zV [] G G',⟨none,rfl,gp1,k1⟩,fun _ _ _ _ _=>trivial,?_,?_⟩
 .rintro i w σ G2 hw ⟨v2,rfl,gp2,k2⟩;have hi:i<web.length:=by have:=(Zi.mp hw).1;rwa[len] at this
  have ew:w=.int (i:Nat):=by
   simp[hi] at hw;exact hw.symm
  subst ew;have hv:=o _ (ZJ hi)
  have eR:(xX web).take (i+1)=(xX web).take i++[nY i web[i]]:=by
   have:i<(xX web).length:=by simp[xX];exact hi
   rw[ZS this];congr 1;simp[xX,List.getD,hi]
  have ix:∀ {G':Hw} {R:Q3},R web[i].w G'->nW (wY web) (.int (i:Nat)) G' R:=fun q=>by
   simp only[nW,wY];rw[atN (w:=web[i].w) (by rw[Zm,Zl hi];rfl)];exact q
  generalize web[i]=v at *;have eL:(xX web).length=web.length:=by simp[xX]
  have lt:((xX web).take i).length<=12:=by
   rw[Z5];omega
  refine yR (zdv t2 rfl gp2 ?_);refine zfW (by omega) (show i<1000 by omega) hv (eh:=.bin .Add (.call 8 (.cons (.var 2) .nil)) (.con (.str ":"))) (en:=.ix (.ix (.var 0) (.var 2)) (.con (.int 0))) (el:=.ix (.ix (.var 0) (.var 2)) (.con (.int 1))) (fun R hR=>?_) (fun G' R hR=>?_) (fun G' R hR=>?_) "_law_j" fun G4 k4=>?_
  ·erw[e8]
   exact ⟨qN (by omega),addS (by have:=nK (show i<1000 by omega);rw[show (":" : Str).length=1 from by decide +kernel];show (jR i).length+1<=_;omega) hR⟩
  ·erw[]
   refine ix ?_;simp only[nW,Wd.w,at_0];exact hR
  ·erw[]
   refine ix ?_;simp only[nW,Wd.w,at_1];exact hR
  .refine appL (k0 k4 gp2) (by rw[zzM];omega) ⟨_,rfl,?_,uF (k2.trans k4) hp⟩;rw[zW,eR,sW,ZaJ];rfl
 .rintro σ G2 ⟨v2,rfl,gp2,k2⟩;rw[len] at gp2;have e:(xX web).take web.length=xX web:=Zad (by simp[xX]);rw[e] at gp2;refine yR ?_
  erw[t1]
  exact ⟨rfl,xX web,xC gp2,vP gX (by have:=hG hl o;omega),h _ k2⟩
theorem ziJ {n:Nat} (hn:26<=n) {ws:List W} {G:Hw} {Q:Q3} (h:spSr ws G Q XN):zC (yX K CQ n) XN kX { nx:=fun _ G'=>Q .non G',rt:=Q } (yG uY ws) G:=by
 obtain ⟨k,v,rfl,hk,o,h⟩:=h;have s4:(yX K CQ n).sx[4]?=some ⟨fstM [none,some ":"],fstS [none,some ":"]⟩:=rfl;have t1:(yX K CQ n).mt[1]?=some tN:=rfl;have z1:=sz 1 (by decide);have nl:=nK hk;show zC (yX K CQ n) XN kX { nx:=fun _ G'=>Q .non G',rt:=Q } [some (.int k),some v.w,none,none] G;simp only[kX];refine yR ?_
 erw[Wd.w,unl]
 have ef:tW [none,some ":"] [jR k]=hd k:=by
  simp only[tW];rfl
 refine yR ?_;dsimp only[zQ];refine zfW (by omega) hk o (eh:=.spc 4 (.cons (.var 0) .nil)) (en:=.var 2) (el:=.var 3) (fun R hR=>?_) (fun G' R hR=>?_) (fun G' R hR=>?_) "other" fun G4 k4=>h _ k4
 rotate_left
 .exact hR
 .exact hR
 erw[s4]
 refine ⟨[jR k],by simp only[zzU,zzV,txW,if_pos (qN (show k<=20000 by omega))];rfl,by rw[ef];have:=zgi hk;omega,?_⟩;rw[ef];exact hR
theorem ziP {n:Nat} (hn:27<=n) {ws:List W} {G:Hw} {Q:Q3} (h:vW ws G Q XN):zC (yX K CQ n) XN uB { nx:=fun _ G'=>Q .non G',rt:=Q } (yG rH ws) G:=by
 obtain ⟨web,rfl,hl,o,h⟩:=h;have e26:(yX K CQ n).fn[26]?=some ⟨"show_world", spSr⟩:=jD 26 hn rfl;have i1:(yX K CQ n).it[1]?=some eEn:=rfl;have t1:(yX K CQ n).mt[1]?=some tN:=rfl;show zC (yX K CQ n) XN uB { nx:=fun _ G'=>Q .non G',rt:=Q } [some (wY web)] G;simp only[uB];refine yR ?_
 erw[t1,i1]
 refine ⟨rfl,web.map Wd.w,rfl,pX (List.range web.length) (fun k=>.tup [.int ((k:Nat)+0),(web.map Wd.w).getD k .non]) (fun k=>.str (nY k (web.getD k ⟨[],[]⟩))) (by simp[enW]) (by simp;omega) (fun _ _=>rfl) ?_ ?_⟩
 .intro k hk G' κ kp hκ;have hk:=ZH.mp hk;have e:(web.map Wd.w).getD k .non=(web.getD k ⟨[],[]⟩).w:=by simp[List.getD,hk]
  have e2:web.getD k ⟨[],[]⟩=web[k]:=by simp[List.getD,hk]
  have hv:=o _ (ZJ hk);rw[← e2] at hv;simp only[qT,Zf,Zo,List.replicate,zzV,Zw,Z9,Nat.reduceAdd]
  erw[e26,if_true]
  refine ⟨k,web.getD k ⟨[],[]⟩,by rw[e,Int.add_zero],by omega,hv,fun G'' k'=>hκ _ (kp.trans k')⟩
 .intro G' r k' hr;have e:(List.range web.length).map (fun k=>W.str (nY k (web.getD k ⟨[],[]⟩)))=(xX web).map W.str:=by unfold xX;rw[ZO];rfl
  rw[e];exact ⟨xX web,xC zW,vP gX (by have:=hG hl o;omega),h _ (k'.trans (zV.new hr))⟩
end
theorem zfp:∀ {xs:List W},jU xs []=xs.isEmpty
 | []=>by simp[jU]
 |_::_=>by simp[jU]
theorem zdw {G:Hw} {p q:Addr} {xs:List W} (hp:G p=some (.lst xs)) (hq:G q=some (.lst [])) (px:xF xs=true):eqG G (.ref p) (.ref q)=some xs.isEmpty:=by
 simp only[eqG,yV hp,yV hq,px];rw[if_pos (by simp[xF,jQ]),zfp]
theorem zdt {α:Type} (c:α->W) (f:α->Bool):∀ l:List α,l.filterMap (fun x=>if f x=true then some (c x) else none)=(l.filter f).map c
 | []=>rfl
 |x::l=>by
  rw[Zas,Zbz];cases h:f x<;>simp[h,zdt c f l]
theorem zgc {α:Type} {items:List W} {stab:Hw->Prop} {G:Hw} {turn:W->Hw->(Option W->Hw->Prop)->Prop} {Q:Q3} (l:List α) (c:α->W) (f:α->Bool) (hi:items=l.map c) (hl:l.length<=100000) (st:∀ G',zV [] G G'->stab G')
  (step:∀ x∈l,∀ G' (k:Option W->Hw->Prop),zV [] G G'->(∀ G'',zV [] G G''->k (if f x=true then some (c x) else none) G'')->turn (c x) G' k)
  (fin:∀ G' r,zV [] G G'->G' r=none->Q (.ref r) (put G' r (.lst ((l.filter f).map c)))):lcR items stab G turn Q:=by
 subst hi
 have e:(List.range (l.map c).length).filterMap (fun i=>(l[i]?).bind fun x=>if f x=true then some (c x) else none)=(l.filter f).map c:=by
  rw[zzM,← zdt];have h:=Zap l
  conv=>rhs;rw[← h]
  rw[List.filterMap_filterMap]
 refine zc8 (fun i=>(l[i]?).bind fun x=>if f x=true then some (c x) else none) (by rw[zzM];exact hl) st (fun i w G' k hw kp hk=>?_) (fun G' r kp hr=>by rw[e];exact fin G' r kp hr);rw[Zm] at hw;obtain ⟨x,hx,rfl⟩:=Zs.mp hw;rw[hx] at hk;exact step x (Zr hx) G' k kp hk
theorem zhu {c:Bool} {k:Option W->Hw->Prop} {a:W} {G:Hw} (h:k (if c=true then some a else none) G):if c=true then k (some a) G else k none G:=by
 cases c
 .exact h
 .exact h
theorem le_a (c:Nat):leS "a" ⟨#[c]⟩=decide (97<=c):=by
 unfold leS;show (!decide ([c]<("a" : Str).cps.toList))=_;rw[show ("a" : Str).cps.toList=[97] by decide +kernel,Za6]
 by_cases h:c<97
 .simp[h]
 .simp[h,Zba h]
theorem le_z (c:Nat):leS ⟨#[c]⟩ "z" = decide (c<=122):=by
 unfold leS;show (!decide (("z" : Str).cps.toList<[c]))=_;rw[show ("z" : Str).cps.toList=[122] by decide +kernel,Za6]
 by_cases h:122<c
 .simp[h]
 .simp[h,Zba h]
theorem le_0 (c:Nat):leS "0" ⟨#[c]⟩=decide (48<=c):=by
 unfold leS;show (!decide ([c]<("0" : Str).cps.toList))=_;rw[show ("0" : Str).cps.toList=[48] by decide +kernel,Za6]
 by_cases h:c<48
 .simp[h]
 .simp[h,Zba h]
theorem le_9 (c:Nat):leS ⟨#[c]⟩ "9" = decide (c<=57):=by
 unfold leS;show (!decide (("9" : Str).cps.toList<[c]))=_;rw[show ("9" : Str).cps.toList=[57] by decide +kernel,Za6]
 by_cases h:57<c
 .simp[h]
 .simp[h,Zba h]
theorem zkn (c:Nat):zfg false ⟨#[c]⟩ abc=ltB c:=by
 unfold zfg;rw[if_neg zzN,StrLaws.found_one,zjR]
theorem zhH (c:Nat):zfg true ⟨#[c]⟩ abc=!ltB c:=by rw[← zkn];rfl
theorem pP {Γ:Ctx3} {Δ:CtxX} {E:xE->X3} {s:RT} {ss:RTs} {D:End3} {σ:xE} {G:Hw} (h:jS Γ Δ s E { D with nx:=xZ Γ Δ ss E D } σ G):xZ Γ Δ (.cons s ss) E D σ G:=by rw[xZ];exact h
theorem xtn {Γ:Ctx3} {Δ:CtxX} {E:xE->X3} {D:End3} {σ:xE} {G:Hw} (h:D.nx σ G):xZ Γ Δ .nil E D σ G:=by rw[xZ];exact h
section
variable {K:yS} {CQ:Nat->Addr} {T:Addr}
theorem zgq {n:Nat} (hn:3<=n) {x:Str} {G:Hw} {Q:Q3} {σ:xE} {lo hi nm:Str} {f:Nat->Bool} (s0:σ[0]?=some (some (.str x))) (hf:∀ c,(leS lo ⟨#[c]⟩&&leS ⟨#[c]⟩ hi)=f c) (xl:x.length<=20000) (h:K0 (.bl (x.cps.toList.all f)) G Q) :
  zS (yX K CQ n) XN (.call 2 (.cons (.lc (.nm 0) [nm] [] (.val (.var 0)) .no (.chn .LtE .LtE (.con (.str lo)) (.var 0) (.con (.str hi)))) .nil)) σ G Q:=by
 have e2:(yX K CQ n).fn[2]?=some eAll:=jD 2 hn rfl
 erw[s0,e2,qI]
 refine zgd x.cps.toList (fun c=>.str ⟨#[c]⟩) f rfl (by rw[xU];omega) (fun _ _=>trivial) ?_ ?_
 .intro c hc G' κ kp hκ;simp only[qT,Zf,Zo,List.replicate,zzV,Zw,Z9]
  erw[yI,leR,if_true]
  have e:=hf c;have:=hκ G' kp;rw[← e] at this;revert this;cases leS lo ⟨#[c]⟩<;>simp
 .intro G' r kp hr;refine ⟨_,xC zW,?_⟩;dsimp only;rw[List.all_map];exact h _ (kp.trans (zV.new hr))
theorem zhv {n:Nat} (hn:20<=n) (cl:Cl K CQ) {ws:List W} {G:Hw} {Q:Q3} (h:spNI ws G Q XN):zC (yX K CQ n) XN rZ { nx:=fun _ G'=>Q .non G',rt:=Q } (yG gQ ws) G:=by
 obtain ⟨x,rfl,xl,h⟩:=h;have e1:(yX K CQ n).fn[1]?=some nU:=jD 1 hn rfl;have e4:(yX K CQ n).fn[4]?=some (eIsx K):=jD 4 hn rfl;have g0:(yX K CQ n).gl[0]?=some (("LONGEST_NAME" : Str),W.int 6):=rfl;have g1:(yX K CQ n).gl[1]?=some (("NO_NAMES" : Str),W.tup (sQ.map .str)):=rfl;have g4:(yX K CQ n).gl[4]?=some (("str" : Str),W.ty "str"):=rfl;show zC (yX K CQ n) XN rZ { nx:=fun _ G'=>Q .non G',rt:=Q } [some (.str x)] G;simp only[rZ];refine yR ?_
 erw[e4,g4]
 refine ⟨"str", true,rfl,cl.ss,?_⟩;have c1:decide ((1:Int)<=(x.length:Int))=decide (1<=x.length):=by rw[decide_eq_decide];omega
 have c2:decide ((x.length:Int)<=6)=decide (x.length<=6):=by rw[decide_eq_decide];omega
 erw[vX,Zu,zzB,if_false,yI,leR,e1,g0,vD,vE,sz _ (show x.length<=100000 by omega),if_true,c1,c2]
 have no:vY x=false->∀ {D:End3} {σ:xE},D.rt=Q->zC (yX K CQ n) XN (.cons (.ret (.con (.bool false))) .nil) D σ G:=fun e D σ eD=>by
  refine yR ?_
  erw[eD]
  have:=h G zV.refl
  rwa[e] at this
 by_cases h1:1<=x.length
 .by_cases h6:x.length<=6
  .simp only[decide_eq_true h1,decide_eq_true h6,if_true,Zu,zzB,if_false];refine qP (yR ?_);dsimp only[zQ,zS,zH]
   erw[yI,tB,L3.inR,g1,if_true]
   refine ⟨⟨by simp[kR],by decide,Zn (Zcg _ _) (by simp[uD])⟩,?_⟩;rw[zdZ]
   cases hno:sQ.contains x with
   |true =>
    have e:vY x=false:=by simp only[vY,hno,Zu,Z4,Z6]
    simp only[Zu,zzB,if_false];have:=h G zV.refl
    rwa[e] at this
   |false =>
    have e:vY x=xY x:=by simp only[vY,hno,decide_eq_true h1,decide_eq_true h6,ZA,Bool.and_true,ZaP]
    rw[e] at h;simp only[ZA,if_true];exact zgq (n:=n) (σ:=[some (.str x)]) (nm := "sign") (lo := "a") (hi := "z") (f:=ltB) (by omega) rfl (fun c=>by rw[le_a,le_z];rfl) xl h
  .simp only[decide_eq_true h1,decide_eq_false h6,if_true,ZA];exact no (by simp only[vY,decide_eq_false h6,Z4,Z6]) rfl
 .simp only[decide_eq_false h1,zzB,if_false,ZA,if_true];exact no (by simp only[vY,decide_eq_false h1,Z6]) rfl
theorem zjK {n:Nat} (hn:17<=n) {ws:List W} {G:Hw} {Q:Q3} (h:spNI ws G Q XN):zC (yX K CQ n) XN jA { nx:=fun _ G'=>Q .non G',rt:=Q } (yG kQ ws) G:=by
 obtain ⟨x,rfl,xl,h⟩:=h;have e1:(yX K CQ n).fn[1]?=some nU:=jD 1 hn rfl;have z0:=sz 0 (by decide);have z4:=sz 4 (by decide);show zC (yX K CQ n) XN jA { nx:=fun _ G'=>Q .non G',rt:=Q } [some (.str x)] G;simp only[jA];refine yR ?_;have c1:decide ((1:Int)<=(x.length:Int))=decide (1<=x.length):=by rw[decide_eq_decide];omega
 have c2:decide ((x.length:Int)<=6)=decide (x.length<=6):=by rw[decide_eq_decide];omega
 erw[yI,leR,e1,vD,vE,sz _ (show x.length<=100000 by omega),if_true,c1,c2]
 have no:vY x=false->∀ {D:End3} {σ:xE},D.rt=Q->zC (yX K CQ n) XN (.cons (.ret (.con (.bool false))) .nil) D σ G:=fun e D σ eD=>by
  refine yR ?_
  erw[eD]
  have:=h G zV.refl
  rwa[e] at this
 by_cases h1:1<=x.length
 .by_cases h6:x.length<=6
  .simp only[decide_eq_true h1,decide_eq_true h6,if_true,Zu,zzB,if_false,tB,L3.inR,zzC,zzL,zzA,Nat.reduceAdd,z4,true_and];refine ⟨⟨by simp[kR],by simp[xF,kR],by simp[jQ,uD]⟩,?_⟩;have en:([W.str "and", .str "or", .str "not", .str "then"].any fun w=>jB w (.str x))=sQ.contains x:=zdZ;rw[en]
   cases hno:sQ.contains x with
   |true =>
    rw[if_pos rfl];exact no (by simp only[vY,hno,Zu,Z4,Z6]) rfl
   |false =>
    rw[if_neg zzN];have e:vY x=xY x:=by simp only[vY,hno,decide_eq_true h1,decide_eq_true h6,ZA,Bool.and_true,ZaP]
    rw[e] at h;refine qP (yR ?_)
    erw[qI]
    refine zgc x.cps.toList (fun c=>.str ⟨#[c]⟩) (fun c=>!ltB c) rfl (by rw[xU];omega) (fun _ _=>trivial) ?_ ?_
    .intro c hc G' κ kp hκ;simp only[qT,Zf,Zo,List.replicate,zzV,Zw,Z9]
     erw[yI,tB]
     rw[zhH];exact zhu (hκ G' kp)
    .intro G' r kp hr;simp only[Zo,z0,true_and];intro p hp;have g1:(put (put G' r (.lst ((x.cps.toList.filter fun c=>!ltB c).map fun c=>W.str ⟨#[c]⟩))) p (.lst [])) r=some (.lst ((x.cps.toList.filter fun c=>!ltB c).map fun c=>W.str ⟨#[c]⟩)):=tG hp zW;simp only[yI]
     have pu:∀ l:List Nat,xF (l.map fun c=>W.str ⟨#[c]⟩)=true:=fun l=>by
      have:=qW (l.map fun c=>(⟨#[c]⟩:Str))
      rwa[ZO] at this
     rw[zdw g1 zW (pu _)]
     have ee:((x.cps.toList.filter fun c=>!ltB c).map fun c=>W.str ⟨#[c]⟩).isEmpty=xY x:=by
      rw[Zcd];unfold xY
      induction x.cps.toList with
      |nil=>rfl
      |cons a t ih=>rw[Zbz,Zax];cases ltB a<;>simp[ih]
     dsimp only;rw[ee];exact h _ ((kp.trans (zV.new hr)).trans (zV.new hp))
  .simp only[decide_eq_true h1,decide_eq_false h6,if_true,ZA];exact no (by simp only[vY,decide_eq_false h6,Z4,Z6]) rfl
 .simp only[decide_eq_false h1,zzB,if_false,ZA,if_true];exact no (by simp only[vY,decide_eq_false h1,Z6]) rfl
theorem zjF {n:Nat} (hn:18<=n) {ws:List W} {G:Hw} {Q:Q3} (h:spNu ws G Q XN):zC (yX K CQ n) XN wA { nx:=fun _ G'=>Q .non G',rt:=Q } (yG qU ws) G:=by
 obtain ⟨x,rfl,h⟩:=h;have e8:(yX K CQ n).fn[8]?=some eStr:=jD 8 hn rfl;have i0:(yX K CQ n).it[0]?=some dR:=rfl;show zC (yX K CQ n) XN wA { nx:=fun _ G'=>Q .non G',rt:=Q } [some (.str x)] G;simp only[wA];refine yR ?_
 erw[i0]
 refine ⟨⟨by decide,by decide⟩,pX (List.range 1000) (fun i:Nat=>.int (i:Int)) (fun i=>.str (jR i)) rfl (by simp) (fun _ _=>trivial) ?_ ?_⟩
 .intro i hi G' κ kp hκ;have:=ZH.mp hi;simp only[qT,Zf,Zo,List.replicate,zzV,Zw,Z9]
  erw[e8,if_true]
  exact ⟨qN (by omega),hκ G' kp⟩
 .intro G' r kp hr;have e:(List.range 1000).map (fun i=>W.str (jR i))=((List.range 1000).map jR).map W.str:=by rw[ZO];rfl
  rw[e];simp only[yI,tB,zW];refine inS ?_;have:((List.range 1000).map jR).contains x=wL x:=zhl x;rw[this];exact h _ (kp.trans (zV.new hr))
theorem zi0 {n:Nat} (hn:21<=n) {l:List Fx3} {ws:List W} {G:Hw} {Q:Q3} {E:X3} (h:sM CQ ws G Q E):xZ (yX K CQ n) (qS CQ l T) qR (fun _=>E) { nx:=fun _ G'=>Q .non G',rt:=Q } (yG vV ws) G:=by
 obtain ⟨x,rfl,xl,h⟩:=h;have e1:(yX K CQ n).fn[1]?=some nU:=jD 1 hn rfl;have e7:(yX K CQ n).fn[7]?=some zfx:=jD 7 hn rfl;have c0:(qS CQ l T).cl[0]?=some ⟨"NoText", CQ 0,none⟩:=rfl
 have no:wL x=false->∀ {G':Hw} {D:End3} {σ:xE},zV [] G G'->xZ (yX K CQ n) (qS CQ l T) (.cons (.rse 0 .nil) .nil) (fun _=>E) D σ G':=fun e G' D σ k=>by
  refine pP ?_;simp only[jS]
  erw[c0,clR]
  have:=h G' k;rw[e] at this;exact ⟨trivial,this⟩
 show xZ (yX K CQ n) (qS CQ l T) qR (fun _=>E) { nx:=fun _ G'=>Q .non G',rt:=Q } [some (.str x),some (.int 3)] G;simp only[qR];refine pP ?_;simp only[jS];have c1:decide ((1:Int)<=(x.length:Int))=decide (1<=x.length):=by rw[decide_eq_decide];omega
 have c2:decide ((x.length:Int)<=3)=decide (x.length<=3):=by rw[decide_eq_decide];omega
 dsimp only[zP,zH,zA,zD,yZ,zU,zN,gZ,gS];simp only[e1,yI,leR,vD,vE,sz _ (show x.length<=100000 by omega),if_true,c1,c2,zB]
 by_cases h1:1<=x.length
 case neg =>
  simp only[decide_eq_false h1,zzB,if_false,ZA,if_true];exact no (by simp only[wL,decide_eq_false h1,Z6]) zV.refl
 by_cases h3:x.length<=3
 case neg =>
  simp only[decide_eq_true h1,decide_eq_false h3,if_true,ZA];exact no (by simp only[wL,decide_eq_false h3,Z4,Z6]) zV.refl
 simp only[decide_eq_true h1,decide_eq_true h3,if_true,Zu,zzB,if_false];refine zgq (K:=K) (CQ:=CQ) (n:=n) (σ:=[some (.str x),some (.int 3)]) (nm := "sign") (lo := "0") (hi := "9") (f:=dgB) (by omega) rfl (fun c=>by rw[le_0,le_9];rfl) xl fun G1 k1=>?_;simp only[vX]
 cases ha:x.cps.toList.all dgB with
 |false =>
  simp only[ZA,if_true];exact no (by simp only[wL,ha,Z4,Z6]) k1
 |true =>
 simp only[Zu,zzB,if_false];refine xtn (pP ?_);simp only[jS]
 obtain ⟨c,r,ec⟩:∃ c r,x.cps.toList=c::r:=by
  cases hx:x.cps.toList with
  |nil=>have:=xU x;rw[hx] at this;simp at this;omega
  |cons c r=>exact ⟨c,r,rfl⟩
 have ix:sS x.cps.toList 0=some c:=by
  rw[ec];unfold sS nH;simp
 have eD:wL x=!(decide (c=48)&&!(x == "0")):=by
  have ha':=ha;rw[ec] at ha';simp only[wL,decide_eq_true h1,decide_eq_true h3,ec,ha',List.head?_cons,ZaP,Option.some.injEq]
 have ez:((⟨#[c]⟩:Str) == "0")=decide (c=48):=by
  rw[Zci,beq_iff_eq,decide_eq_true_eq]
  constructor
  .intro z;have:=congrArg (fun s:Str=>s.cps.toList) z;have z2:("0" : Str).cps.toList=[48]:=by decide +kernel
   simp only[z2] at this;simpa using this
  .rintro rfl
   decide +kernel
 dsimp only[zP,zH,zA,zD,yZ,zU,zN,gZ,gS];simp only[nW,ix,yI,vO,ez,zB];refine ⟨sz _ (by omega),?_⟩
 have tail:wL x=true->xZ (yX K CQ n) (qS CQ l T) (.cons (.pl (.ret (.call 7 (.cons (.var 0) .nil)))) .nil) (fun _=>E) { nx:=fun _ G'=>Q .non G',rt:=Q } [some (.str x),some (.int 3)] G1:=fun d=>by
  refine pP ?_;simp only[jS]
  erw[e7]
  obtain ⟨v1,v2⟩:=zca d;refine ⟨_,v1,by omega,?_⟩;have:=h G1 k1;rw[if_pos d] at this;exact this
 cases hc:decide (c=48) with
 |false =>
  simp only[zzB,if_false];exact xtn (tail (by rw[eD,hc];rfl))
 |true =>
  simp only[if_true]
  cases hx:(x == "0") with
  |true =>
   simp only[Zu,zzB,if_false];exact xtn (tail (by rw[eD,hc,hx];rfl))
  |false =>
   simp only[ZA,if_true];exact no (by rw[eD,hc,hx];rfl) k1
end
theorem kY {α β:Type} (f:α->β) (l:List α) (lo hi:Option Int):tL (l.map f) lo hi=(tL l lo hi).map f:=by
 unfold tL;rw[zzM,← List.map_drop,← List.map_take]
theorem zkC {α:Type} (l:List α) (i:Nat):tL l (some (i:Int)) none=l.drop i:=by
 unfold tL HT.wJ;dsimp only;rw[if_neg (by omega),Za4];rw[Zad (by rw[Z0];omega)]
 by_cases h:i<=l.length
 .rw[Zcp h]
 .rw[Nat.min_eq_right (by omega),List.drop_length,List.drop_of_length_le (by omega)]
theorem zkD {α:Type} (l:List α) (a b:Nat) (ha:a<=l.length) (hb:b<=l.length):tL l (some (a:Int)) (some (b:Int))=(l.take b).drop a:=by
 unfold tL HT.wJ;dsimp only;rw[if_neg (by omega),if_neg (by omega),Za4,Za4,Zcp ha,Zcp hb,List.drop_take]
theorem zaI {us:List Str} {x:Str}:((us.map W.str).findIdx fun w=>jB w (.str x))=us.idxOf x:=by
 rw[List.findIdx_map];unfold List.idxOf;congr 1
theorem zid {us:List Str} {x:Str}:((us.map W.str).countP fun w=>jB w (.str x))=us.count x:=by
 rw[List.countP_map];unfold List.count;congr 1
theorem zga {α:Type} {items:List W} {stab:Hw->Prop} {G:Hw} {turn:W->Hw->(Option W->Hw->Prop)->Prop} {Q:Q3} (l:List α) (c:α->W) (f:α->Option W) (hi:items=l.map c) (hl:l.length<=100000) (st:∀ G',zV [] G G'->stab G')
  (step:∀ x∈l,∀ G' (k:Option W->Hw->Prop),zV [] G G'->(∀ y,f x=some y->∀ G'',zV [] G G''->k (some y) G'')->turn (c x) G' k)
  (fin:∀ G' r,zV [] G G'->G' r=none->(∀ x∈l,∃ y,f x=some y)->Q (.ref r) (put G' r (.lst (l.filterMap f)))):lcR items stab G turn Q:=by
 subst hi;refine ⟨fun i acc G'=>zV [] G G'/\acc=(l.take i).filterMap f/\∀ x∈l.take i,∃ y,f x=some y,⟨zV.refl,rfl,by simp⟩,?_,sz _ (by rw[zzM];exact hl),?_,?_⟩
 .rintro i acc G' ⟨k,rfl,_⟩ _;exact ⟨st G' k,Zn (ZaI _ _) (by rw[Z5];omega)⟩
 .rintro i w acc G' hw ⟨k,rfl,ha⟩;rw[Zm] at hw;obtain ⟨x,hx,rfl⟩:=Zs.mp hw;obtain ⟨hi,rfl⟩:=Zi.mp hx;refine step _ (ZJ hi) G' _ k fun y hy G'' k'=>⟨k',?_,fun z hz=>?_⟩
  .rw[ZS hi,Zaz];simp[hy]
  .rw[ZS hi] at hz;rcases ZE.mp hz with hz|hz
   .exact ha z hz
   .rw[zzO hz];exact ⟨y,hy⟩
 .rintro acc G' ⟨k,rfl,ha⟩ r hr;rw[zzM,ZbA] at ha ⊢;exact fin G' r k hr ha
theorem zgk:∀ {ls:List Str},(∀ u∈ls,wL u=true)->ls.filterMap (fun u=>if wL u=true then some (W.int (kK u:Nat)) else none)=wG (ls.map kK)
 | [],_=>rfl
 |a::l,h=>by
  have e:(if wL a=true then some (W.int (kK a:Nat)) else none)=some (W.int (kK a:Nat)):=if_pos (h a zzT);rw[Zas,e,zgk fun u hu=>h u (Zk _ hu)];rfl
theorem num5 {k:Nat} (h:k<=20000):(jR k).length<=5:=by
 rw[← xU,jR,PySem.W.KIN.signs_num,zzM,Nat.length_toDigits_le_iff (by decide) (by decide)];omega
theorem za3 (x:Str):∃ u r,Txt.split x " " = u::r:=by
 have:=vB x 32;rw[← zcr] at this
 cases h:Txt.split x " " with
 |nil=>exact absurd h this
 |cons u r=>exact ⟨u,r,rfl⟩
theorem zco (x:Str) {u:Str} (h:u∈Txt.split x " "):u.length<=x.length:=by
 have:=zaD h;rw[zcr,qO] at this;omega
theorem zap (x:Str) {u:Str} (h:u∈Txt.split x "\n"):u.length<=x.length:=by
 have:=zaD h;rw[pM,qO] at this;omega
section
variable {K:yS} {CQ:Nat->Addr} {T:Addr}
theorem Rs.to {o:Option W} {G G':Hw} {Q:Q3} {E:X3} (h:Rs CQ o G Q E) (k:zV [] G G'):Rs CQ o G' Q E:=fun G'' k'=>h G'' (k.trans k')
theorem thr {n:Nat} {l:List Fx3} {G:Hw} {E:X3} {D:End3} {σ:xE} (h:E (xT CQ) G):xZ (yX K CQ n) (qS CQ l T) (.cons (.rse 0 .nil) .nil) (fun _=>E) D σ G:=by
 have c0:(qS CQ l T).cl[0]?=some ⟨"NoText", CQ 0,none⟩:=rfl;refine pP ?_;simp only[jS]
 erw[c0,clR]
 exact ⟨trivial,h⟩
theorem ziZ {n:Nat} (hn:22<=n) {ws:List W} {G:Hw} {Q:Q3} {E:X3} (h:spRR CQ ws G Q E):xZ (yX K CQ n) (qS CQ [rV,⟨"read_number", sM CQ⟩] T) kU (fun _=>E) { nx:=fun _ G'=>Q .non G',rt:=Q } (yG uX ws) G:=by
 obtain ⟨k,x,rfl,hk,xl,h⟩:=h;have e2:(yX K CQ n).fn[2]?=some eAll:=jD 2 hn rfl;have e6:(yX K CQ n).fn[6]?=some eTup:=jD 6 hn rfl;have e20:(yX K CQ n).fn[20]?=some ⟨"is_name", spNI⟩:=jD 20 hn rfl;have t3:(yX K CQ n).mt[3]?=some sV:=rfl;have t5:(yX K CQ n).mt[5]?=some eIdx:=rfl;have s4:(yX K CQ n).sx[4]?=some ⟨fstM [none,some ":"],fstS [none,some ":"]⟩:=rfl;have g2:(yX K CQ n).gl[2]?=some (("MOST_FIGURES" : Str),W.int 3):=rfl;have f0:(qS CQ [rV,⟨"read_number", sM CQ⟩] T).fx[0]?=some rV:=rfl;have f1:(qS CQ [rV,⟨"read_number", sM CQ⟩] T).fx[1]?=some ⟨"read_number", sM CQ⟩:=rfl
 have ef:tW [none,some ":"] [jR k]=hd k:=by
  simp only[tW];rfl
 show xZ (yX K CQ n) (qS CQ [rV,⟨"read_number", sM CQ⟩] T) kU (fun _=>E) { nx:=fun _ G'=>Q .non G',rt:=Q } [some (.int k),some (.str x),none,none,none] G;simp only[kU];refine pP ?_;simp only[jS]
 erw[t3]
 refine ⟨rfl,by decide +kernel,by omega,fun r hr=>?_⟩;have wl:∀ u∈Txt.split x " ", u.length<=20000:=fun u hu=>Zn (zco x hu) xl;have ul:(Txt.split x " ").length<=20002:=Zn (uI x " ") (by omega);obtain ⟨u0,ur,eu⟩:=za3 x;have k1:zV [] G (put G r (sW (Txt.split x " "))):=zV.new hr;have g1:(put G r (sW (Txt.split x " "))) r=some (sW (Txt.split x " ")):=zW;show xZ _ _ _ _ _ _ (put G r (sW (Txt.split x " ")));generalize put G r (sW (Txt.split x " "))=G1 at k1 g1 ⊢
 have hR:rdR k (Txt.split x " ")=if (decide (u0=hd k)&&(Txt.split x " ").contains gt&&((((Txt.split x " ").take ((Txt.split x " ").idxOf gt)).drop 1).all vY&&((Txt.split x " ").drop ((Txt.split x " ").idxOf gt+1)).all wL))=true then some ⟨((Txt.split x " ").take ((Txt.split x " ").idxOf gt)).drop 1,((Txt.split x " ").drop ((Txt.split x " ").idxOf gt+1)).map kK⟩ else none:=by
  unfold rdR;have:(decide ((Txt.split x " ").head?=some (hd k)))=decide (u0=hd k):=by rw[eu];simp
  rw[this]
 have h1l:1<=(Txt.split x " ").length:=by rw[eu];simp
 have e0:sS ((Txt.split x " ").map W.str) 0=some (.str u0):=by rw[eu];exact at_0
 generalize Txt.split x " " = us at *
 have no:rdR k us=none->∀ {G':Hw},zV [] G G'->E (xT CQ) G':=fun e G' k'=>by
  have:=h G' k';rw[e] at this;exact this
 refine pP ?_;simp only[jS];dsimp only[zP,zH,zA,zD,yZ,zU,zN,gZ,gS];refine ixL (xC g1) ?_;rw[e0,s4]
 refine ⟨[jR k],by simp only[zzU,zzV,txW,if_pos (qN hk)];rfl,by
  rw[ef];unfold hd;rw[Zz,show (":" : Str).length=1 from by decide +kernel];have:=num5 hk;omega,?_⟩
 rw[ef];simp only[yI,vO,zB]
 by_cases hu:u0=hd k
 case neg =>
  simp only[beq_eq_false_iff_ne.mpr hu,ZA,if_true];refine thr (no ?_ k1);rw[hR,decide_eq_false hu];rfl
 simp only[beq_iff_eq.mpr hu,Zu,zzB,if_false,tB,g1];refine inS ?_;simp only[if_true,zB]
 by_cases hm:gt∈us
 case neg =>
  have hc:us.contains gt=false:=by simpa using hm
  simp only[show us.contains (">" : Str)=false from hc,ZA,if_true];refine thr (no ?_ k1);rw[hR,hc,Z4,Z6,if_neg zzN]
 have hc:us.contains gt=true:=by simpa using hm
 simp only[show us.contains (">" : Str)=true from hc,Zu,zzB,if_false];rw[hc,decide_eq_true hu,ZaP,ZaP] at hR;refine xtn (pP ?_);simp only[jS];have pg:kR (.str gt)=true/\xF (us.map W.str)=true/\min (jQ (us.map W.str)) (uD (.str gt))<=150:=⟨by simp[kR],qW us,by rw[uP];simp⟩
 erw[t5]
 refine ⟨tyL g1,us.map .str,xC g1,pg,by rw[nE];exact hc,?_⟩;rw[show ((us.map W.str).findIdx fun w=>jB w (.str ">"))=us.idxOf gt from zaI];have il:us.idxOf gt<us.length:=List.idxOf_lt_length_of_mem hm;refine pP ?_;simp only[jS]
 erw[fF,xC g1]
 intro p hp;rw[show tL (us.map W.str) (some 1) (some ((us.idxOf gt:Nat):Int))=((us.take (us.idxOf gt)).drop 1).map W.str by rw[kY];exact congrArg _ (zkD us 1 _ h1l (ZaO il))];have k2:zV [] G (put G1 p (sW ((us.take (us.idxOf gt)).drop 1))):=k1.trans (zV.new hp);have g2':=tG (u:=sW ((us.take (us.idxOf gt)).drop 1)) hp g1;have gp:(put G1 p (sW ((us.take (us.idxOf gt)).drop 1))) p=some (sW ((us.take (us.idxOf gt)).drop 1)):=zW;show xZ _ _ _ _ _ _ (put G1 p (sW ((us.take (us.idxOf gt)).drop 1)));generalize put G1 p (sW ((us.take (us.idxOf gt)).drop 1))=G2 at k2 g2' gp ⊢;have nl:((us.take (us.idxOf gt)).drop 1).length<=20002:=by rw[Z0,Z5];omega
 have nw:∀ u∈(us.take (us.idxOf gt)).drop 1,u.length<=20000:=fun u hu=>wl u (ZbC (ZaF hu));have nw2:∀ u∈us.drop (us.idxOf gt+1),u.length<=20000:=fun u hu=>wl u (ZaF hu);generalize hns:(us.take (us.idxOf gt)).drop 1=ns at *;refine pP ?_;simp only[jS]
 erw[e2]
 refine fV gp (zgd ns .str vY rfl (by omega) (fun G' k'=>xC (k0 k' gp)) ?_ ?_)
 .intro u hu' G' κ kp hκ;simp only[qT,Zf,Zo,List.replicate,zzV,Zw,Z9]
  erw[e20,if_true]
  exact ⟨u,rfl,nw u hu',fun G'' k''=>hκ _ (kp.trans k'')⟩
 intro G3 r3 k3 hr3;refine ⟨_,xC zW,?_⟩;have ea:(ns.map vY).all id=ns.all vY:=by rw[List.all_map];rfl
 dsimp only[vX];rw[ea];have k4:zV [] G (put G3 r3 (.lst ((ns.map vY).map .bl))):=(k2.trans k3).trans (zV.new hr3);have g4:=tG (u:=.lst ((ns.map vY).map .bl)) hr3 (k0 k3 g2');have gp4:=tG (u:=.lst ((ns.map vY).map .bl)) hr3 (k0 k3 gp);generalize put G3 r3 (.lst ((ns.map vY).map .bl))=G4 at k4 g4 gp4 ⊢
 cases ha:ns.all vY with
 |false =>
  simp only[ZA,if_true];refine thr (no ?_ k4);rw[hR,ha];rfl
 |true =>
 rw[ha,ZaP] at hR;simp only[Zu,zzB,if_false];refine xtn (pP ?_);simp only[jS,sK]
 erw[e6,rS,wT,xC gp4,f0,f1,g2,wK,fF,xC g4]
 intro q hq;rw[show tL (us.map W.str) (some ((us.idxOf gt:Nat)+1:Int)) none=(us.drop (us.idxOf gt+1)).map W.str by rw[kY];exact congrArg _ (zkC us (us.idxOf gt+1))];have k5:zV [] G (put G4 q (sW (us.drop (us.idxOf gt+1)))):=k4.trans (zV.new hq);have gq:(put G4 q (sW (us.drop (us.idxOf gt+1)))) q=some (sW (us.drop (us.idxOf gt+1))):=zW;generalize put G4 q (.lst ((us.drop (us.idxOf gt+1)).map .str))=G5 at k5 gq ⊢;have dl:(us.drop (us.idxOf gt+1)).length<=20002:=by rw[Z0];omega
 generalize us.drop (us.idxOf gt+1)=ls at *;refine fV gq (zga ls .str (fun u=>if wL u=true then some (.int (kK u:Nat)) else none) rfl (by omega) (fun G' k'=>xC (k0 k' gq)) ?_ ?_)
 .intro u hu' G' κ kp hκ;simp only[qT,Zf,Zo,List.replicate,zzV,Zw,Z9];refine ⟨u,rfl,nw2 u hu',fun G'' k''=>?_⟩
  cases hd':wL u with
  |true =>
   rw[if_pos rfl];exact hκ _ (by rw[hd',if_pos rfl]) G'' (kp.trans k'')
  |false =>
   rw[if_neg zzN];refine no ?_ ((k5.trans kp).trans k'');rw[hR,if_neg];rw[Zbx,Zb4];exact ⟨u,hu',by rw[hd'];simp⟩
 .intro G6 r6 k6 hr6 hall
  have hd':∀ u∈ls,wL u=true:=fun u hu'=>by
   obtain ⟨y,hy⟩:=hall u hu'
   cases hh:wL u with
   |true=>rfl
   |false=>rw[hh] at hy;cases hy
  rw[zgk hd'];simp only[xC zW];have:=h _ ((k5.trans k6).trans (zV.new (o:=.lst (wG (ls.map kK))) hr6));rw[hR,if_pos (ZC.mpr hd')] at this;exact this
end
theorem zkv {rows:List Str} {i:Nat} {w:W} (h:(enW 0 (rows.map W.str))[i]?=some w):i<rows.length/\w=.tup [.int (i:Nat),.str (rows.getD i "")]:=by
 unfold enW at h;rw[Zm] at h;obtain ⟨k,hk,rfl⟩:=Zs.mp h;have h1:=(Zi.mp hk).1;have h2:=(Zi.mp hk).2;rw[Zbj] at h2;rw[Zbr,zzM] at h1;subst h2;refine ⟨h1,?_⟩;simp[List.getD,h1]
theorem zku (rows:List Str):(enW 0 (rows.map W.str)).length=rows.length:=by simp[enW]
theorem fR {rows:List Str} {i:Nat} (h:i<rows.length):rows.getD i "" ∈ rows:=by
 have:rows.getD i "" = rows[i]:=by simp[List.getD,h]
 rw[this];exact ZJ h
theorem zhO {α:Type} (f:α->Bool) (l:List α):(l.filter fun x=>!f x).isEmpty=l.all f:=by
 induction l with
 |nil=>rfl
 |cons a t ih=>rw[Zbz,Zax];cases f a<;>simp[ih]
theorem zkM {G:Hw} {o:Addr} {l:List W} {y:W} {Q:Q3} (e:G o=some (.lst l)) (hl:l.length<100000) (h:Q .non (put G o (.lst (l++[y])))):nS (.ref o) [y] G Q:=by
 simp only[nS,e];exact ⟨by rw[Zt];omega,h⟩
section
variable {K:yS} {CQ:Nat->Addr} {T:Addr}
abbrev fx2 (CQ:Nat->Addr):List Fx3:=[rV,⟨"read_number", sM CQ⟩,⟨"read_world", spRR CQ⟩]
theorem zi9 {n:Nat} (hn:23<=n) (cl:Cl K CQ) {ws:List W} {G:Hw} {Q:Q3} {E:X3} (h:fE CQ ws G Q E):xZ (yX K CQ n) (qS CQ (fx2 CQ) T) qM (fun _=>E) { nx:=fun _ G'=>Q .non G',rt:=Q } (yG rG ws) G:=by
 have e4:(yX K CQ n).fn[4]?=some (eIsx K):=jD 4 hn rfl;have t3:(yX K CQ n).mt[3]?=some sV:=rfl;have i1:(yX K CQ n).it[1]?=some eEn:=rfl;have g4:(yX K CQ n).gl[4]?=some (("str" : Str),W.ty "str"):=rfl;have f0:(qS CQ (fx2 CQ) T).fx[0]?=some rV:=rfl;have f2:(qS CQ (fx2 CQ) T).fx[2]?=some ⟨"read_world", spRR CQ⟩:=rfl;have z0:=sz 0 (by decide);rcases h with ⟨w,rfl,⟨Ty,hT,ty⟩,h⟩|⟨x,rfl,xl,h⟩
 .show xZ (yX K CQ n) (qS CQ (fx2 CQ) T) qM (fun _=>E) { nx:=fun _ G'=>Q .non G',rt:=Q } [some w] G;simp only[qM];refine pP ?_;simp only[jS]
  erw[e4,g4]
  have is:∀ {Q':Q3},Q' (.bl false) G->isxS K [w,.ty "str"] G Q':=fun q=>by
   cases w with
   |exc C a b=>cases ty
   |_=>exact ⟨Ty,false,ty,cl.ns Ty hT,q⟩
  refine is ?_;simp only[vX,ZA,if_true];exact thr (h G zV.refl)
 .show xZ (yX K CQ n) (qS CQ (fx2 CQ) T) qM (fun _=>E) { nx:=fun _ G'=>Q .non G',rt:=Q } [some (.str x)] G;simp only[qM];refine pP ?_;simp only[jS]
  erw[e4,g4]
  refine ⟨"str", true,rfl,cl.ss,?_⟩;simp only[vX,Zu,zzB,if_false];refine xtn (pP ?_);simp only[jS]
  erw[yI,vO]
  by_cases hx:x = ""
  .rw[beq_iff_eq.mpr hx,if_pos rfl];refine yR ?_
   erw[Zo,z0,true_and]
   have:=h G zV.refl;rw[rdX,if_pos hx] at this;exact this
  .rw[beq_eq_false_iff_ne.mpr hx,if_neg zzN];have hX:rdX x=rdW (Txt.split x "\n"):=by rw[rdX,if_neg hx]
   rw[hX] at h;refine qP (pP ?_);simp only[jS,sK]
   erw[t3,i1,f0,f2]
   refine ⟨rfl,by decide +kernel,by omega,fun q hq=>?_⟩;have rl:∀ r∈Txt.split x "\n", r.length<=20000:=fun r hr=>Zn (zap x hr) xl
   have ln:(Txt.split x "\n").length<=20001:=by
    have:=uG (Txt.split x "\n");rw[pM,qO] at this;rw[pM];omega
   have ne:∀ k,k<(Txt.split x "\n").length->k<=20000:=fun k hk=>by omega
   generalize Txt.split x "\n" = rows at *;have gq:(put G q (sW rows)) q=some (sW rows):=zW;have k1:zV [] G (put G q (sW rows)):=zV.new hq;generalize put G q (.lst (rows.map .str))=G1 at k1 gq ⊢;refine ⟨rows.map .str,seqL gq,zga (List.range rows.length) (fun k=>.tup [.int (k:Nat),.str (rows.getD k "")]) (fun k=>(rdK rows k).map Wd.w) ?_ (by simp;omega) (fun G' k'=>seqL (k0 k' gq)) ?_ ?_⟩
   .unfold enW;rw[zzM];refine Zaf fun k hk=>?_;have:=ZH.mp hk;simp[List.getD,this]
   .intro k hk G' κ kp hκ;have hk:=ZH.mp hk;simp only[qT,Zf,Zo,List.replicate,zzV,Zw,Z9,Nat.reduceAdd]
    erw[]
    refine ⟨k,rows.getD k "", rfl,ne k hk,rl _ (fR hk),fun G'' k''=>?_⟩;show match (rdK rows k).map Wd.w with|some w=>κ (some w) G''|none=>E (xT CQ) G''
    cases hr:rdK rows k with
    |some v=>exact hκ v.w (by rw[hr];rfl) G'' (kp.trans k'')
    |none =>
     have:=h G'' ((k1.trans kp).trans k'');rw[zi4 hk hr] at this;exact this
   .intro G' r kp hr hall
    have hs:∀ k,k<rows.length->∃ v,rdK rows k=some v:=fun k hk=>by
     obtain ⟨y,hy⟩:=hall k (ZH.mpr hk);obtain ⟨v,hv,_⟩:=Zs.mp hy;exact ⟨v,hv⟩
    have e:(List.range rows.length).filterMap (fun k=>(rdK rows k).map Wd.w)=(rdL rows rows.length).map Wd.w:=by
     unfold rdL;rw[List.map_filterMap]
    rw[e];simp only[rS,wT,xC zW];have:=h _ ((k1.trans kp).trans (zV.new (o:=.lst ((rdL rows rows.length).map Wd.w)) hr));rw[zcJ hs] at this;exact this
theorem zh6 {n:Nat} (hn:19<=n) {ws:List W} {G:Hw} {Q:Q3} (h:zel ws G Q XN):zC (yX K CQ n) XN uA { nx:=fun _ G'=>Q .non G',rt:=Q } (yG rD ws) G:=by
 obtain ⟨x,rfl,xl,h⟩:=h;have e6:(yX K CQ n).fn[6]?=some eTup:=jD 6 hn rfl;have e7:(yX K CQ n).fn[7]?=some zfx:=jD 7 hn rfl;have e8:(yX K CQ n).fn[8]?=some eStr:=jD 8 hn rfl;have e17:(yX K CQ n).fn[17]?=some ⟨"_law_name_is", spNI⟩:=jD 17 hn rfl;have e18:(yX K CQ n).fn[18]?=some ⟨"_law_number_is", spNu⟩:=jD 18 hn rfl;have t2:(yX K CQ n).mt[2]?=some eApp:=rfl;have t3:(yX K CQ n).mt[3]?=some sV:=rfl;have t4:(yX K CQ n).mt[4]?=some eCnt:=rfl;have t5:(yX K CQ n).mt[5]?=some eIdx:=rfl;have i1:(yX K CQ n).it[1]?=some eEn:=rfl;have z0:=sz 0 (by decide);have z2:=sz 2 (by decide);show zC (yX K CQ n) XN uA { nx:=fun _ G'=>Q .non G',rt:=Q } [some (.str x),none,none,none,none,none,none] G;simp only[uA];refine yR ?_
 erw[Zo,z0,true_and]
 intro p hp;have k1:zV [] G (put G p (.lst [])):=zV.new hp;have gp1:(put G p (.lst [])) p=some (.lst []):=zW;generalize put G p (.lst [])=G1 at k1 gp1 ⊢;refine yR ?_
 erw[t3,i1]
 refine ⟨rfl,by decide +kernel,by omega,fun q hq=>?_⟩;have rl:∀ r∈Txt.split x "\n", r.length<=20000:=fun r hr=>Zn (zap x hr) xl
 have ln:(Txt.split x "\n").length<=20001:=by
  have:=uG (Txt.split x "\n");rw[pM,qO] at this;rw[pM];omega
 generalize Txt.split x "\n" = rows at *;have npq:p≠q:=pE gp1 hq;have hqG:G q=none:=k1.none (by simp) hq;have gq:(put G1 q (sW rows)) q=some (sW rows):=zW;have gp2:=tG (u:=sW rows) hq gp1;have k2:zV [] G (put G1 q (sW rows)):=k1.trans (zV.new hq);generalize put G1 q (.lst (rows.map .str))=G2 at k2 gp2 gq ⊢;refine ⟨rows.map .str,seqL gq,?_⟩
 refine ⟨fun i σ G'=>∃ v2 v3 v4 v5 v6:Option W,σ=[some (.str x),some (.ref p),v2,v3,v4,v5,v6]/\G' p=some (.lst ((rdL rows i).map Wd.w))/\G' q=some (sW rows)/\(∀ k,k<i->∃ v,rdK rows k=some v)/\zV [] G G',
  ⟨none,none,none,none,none,rfl,gp2,gq,fun k hk=>absurd hk (Zcq _),k2⟩,?_,?_,?_⟩
 .rintro i σ G' ⟨v2,v3,v4,v5,v6,rfl,g1,g2,_,_⟩ _;exact seqL g2
 .rintro i w σ G3 hw ⟨v2,v3,v4,v5,v6,rfl,gp3,gq3,hs,k3⟩;obtain ⟨hi,rfl⟩:=zkv hw;have row:=rl _ (fR hi)
  have no:∀ {G':Hw},rdK rows i=none->zV [] G G'->Q .non G':=fun e k=>by
   have:=h _ k;rw[zi4 hi e] at this;exact this
  have hK:rdK rows i=rdR i (Txt.split (rows.getD i "") " "):=rfl;have ll:(rdL rows i).length<=i:=by unfold rdL;exact Zn (ZaI _ _) (by rw[Zbr];exact zzR _)
  generalize rows.getD i "" = y at *;refine yR ?_
  erw[t3]
  refine ⟨rfl,by decide +kernel,by omega,fun r hr=>?_⟩;have wl:∀ u∈Txt.split y " ", u.length<=20000:=fun u hu=>Zn (zco y hu) row;have ul:(Txt.split y " ").length<=20002:=Zn (uI y " ") (by omega);obtain ⟨u0,ur,eu⟩:=za3 y;have k4:zV [] G3 (put G3 r (sW (Txt.split y " "))):=zV.new hr;have g4:(put G3 r (sW (Txt.split y " "))) r=some (sW (Txt.split y " ")):=zW;show zC _ _ _ _ _ (put G3 r (sW (Txt.split y " ")));generalize put G3 r (sW (Txt.split y " "))=G4 at k4 g4 ⊢;rw[zi5] at hK;have:(decide ((Txt.split y " ").head?=some (hd i)))=decide (u0=hd i):=by rw[eu];simp
  rw[this] at hK;have h1l:1<=(Txt.split y " ").length:=by rw[eu];simp
  have e0:sS ((Txt.split y " ").map W.str) 0=some (.str u0):=by rw[eu];exact at_0
  generalize Txt.split y " " = us at *;have pg:kR (.str gt)=true/\xF (us.map W.str)=true/\min (jQ (us.map W.str)) (uD (.str gt))<=150:=⟨by simp[kR],qW us,by rw[uP];simp⟩;refine yR ?_
  erw[e8,t4]
  refine ixL (xC g4) ?_;rw[e0];have n5:=num5 (show i<=20000 by omega);refine ⟨qN (by omega),addS (by rw[show (":" : Str).length=1 from by decide +kernel];show (jR i).length+1<=_;omega) ?_⟩;simp only[yI,vO];rw[show (Str.ofString (toString ((i:Nat):Int)) ++ ":")=hd i from rfl]
  have nn:∀ {G':Hw} {D:End3} {σ:xE},rdK rows i=none->zV [] G G'->D.rt=Q->zC (yX K CQ n) XN (.cons (.ret (.con .none)) .nil) D σ G':=fun e k eD=>by
   refine yR ?_
   erw[eD]
   exact no e k
  have k4':=k3.trans k4
  by_cases hu:u0=hd i
  case neg =>
   simp only[beq_eq_false_iff_ne.mpr hu,ZA,if_true];exact nn (by rw[hK,decide_eq_false hu];rfl) k4' rfl
  simp only[beq_iff_eq.mpr hu,Zu,zzB,if_false];refine ⟨tyL g4,us.map .str,xC g4,pg,?_⟩;rw[show ((us.map W.str).countP fun w=>jB w (.str ">"))=us.count gt from zid];simp only[wB];have ec:decide (((us.count gt:Nat):Int)=1)=decide (us.count gt=1):=by rw[decide_eq_decide];omega
  rw[ec]
  by_cases hc:us.count gt=1
  case neg =>
   simp only[decide_eq_false hc,ZA,if_true];exact nn (by rw[hK,decide_eq_false hc,Z4,if_neg zzN]) k4' rfl
  simp only[decide_eq_true hc,Zu,zzB,if_false];rw[decide_eq_true hu,decide_eq_true hc,Zcy,if_pos rfl] at hK;have hm:gt∈us:=ZbR.mp (by omega);have hcn:us.contains gt=true:=by simpa using hm
  have il:us.idxOf gt<us.length:=List.idxOf_lt_length_of_mem hm;refine qP (yR ?_)
  erw[t5]
  refine ⟨tyL g4,us.map .str,xC g4,pg,by rw[nE];exact hcn,?_⟩;rw[show ((us.map W.str).findIdx fun w=>jB w (.str ">"))=us.idxOf gt from zaI];simp only[fF,xC g4];intro a ha;rw[show tL (us.map W.str) (some 1) (some ((us.idxOf gt:Nat):Int))=((us.take (us.idxOf gt)).drop 1).map W.str by rw[kY];exact congrArg _ (zkD us 1 _ h1l (ZaO il))];have nl:((us.take (us.idxOf gt)).drop 1).length<=20002:=by rw[Z0,Z5];omega
  have nw:∀ u∈(us.take (us.idxOf gt)).drop 1,u.length<=20000:=fun u hu=>wl u (ZbC (ZaF hu));have ga:(put G4 a (sW ((us.take (us.idxOf gt)).drop 1))) a=some (sW ((us.take (us.idxOf gt)).drop 1)):=zW;have g5:=tG (u:=sW ((us.take (us.idxOf gt)).drop 1)) ha g4;have k5:zV [] G3 (put G4 a (sW ((us.take (us.idxOf gt)).drop 1))):=k4.trans (zV.new ha);show zC _ _ _ _ _ (put G4 a (sW ((us.take (us.idxOf gt)).drop 1)));generalize put G4 a (sW ((us.take (us.idxOf gt)).drop 1))=G5 at ga g5 k5 ⊢;refine yR ?_
  erw[t5]
  refine ⟨tyL g5,us.map .str,xC g5,pg,by rw[nE];exact hcn,?_⟩;rw[show ((us.map W.str).findIdx fun w=>jB w (.str ">"))=us.idxOf gt from zaI];simp only[wK,fF,xC g5];intro b hb;rw[show tL (us.map W.str) (some ((us.idxOf gt:Nat)+1:Int)) none=(us.drop (us.idxOf gt+1)).map W.str by rw[kY];exact congrArg _ (zkC us (us.idxOf gt+1))];have dl:(us.drop (us.idxOf gt+1)).length<=20002:=by rw[Z0];omega
  have dw:∀ u∈us.drop (us.idxOf gt+1),u.length<=20000:=fun u hu=>wl u (ZaF hu);have gb:(put G5 b (sW (us.drop (us.idxOf gt+1)))) b=some (sW (us.drop (us.idxOf gt+1))):=zW;have ga6:=tG (u:=sW (us.drop (us.idxOf gt+1))) hb ga;have k6:zV [] G3 (put G5 b (sW (us.drop (us.idxOf gt+1)))):=k5.trans (zV.new hb);show zC _ _ _ _ _ (put G5 b (sW (us.drop (us.idxOf gt+1))));generalize put G5 b (sW (us.drop (us.idxOf gt+1)))=G6 at gb ga6 k6 ⊢;generalize (us.take (us.idxOf gt)).drop 1=ns at *;generalize us.drop (us.idxOf gt+1)=ls at *
  clear g4 g5 k4 k5 k4'
  have flt:∀ {G7:Hw} {c:Addr} {l:List Str} {f:Str->Bool} {turn:W->Hw->(Option W->Hw->Prop)->Prop} {R:Q3},G7 c=some (sW l)->l.length<=20002->(∀ u∈l,∀ G' (κ:Option W->Hw->Prop),zV [] G7 G'->(∀ G'',zV [] G7 G''->κ (if (!f u)=true then some (.str u) else none) G'')->turn (.str u) G' κ) ->
    (∀ G',zV [] G7 G'->R (.bl (!l.all f)) G')->lcR (l.map .str) (fun G'=>yU G' c=some (l.map .str)) G7 turn fun z G8=>([]:List W).length<=sizeLine/\∀ e,G8 e=none->yI .NotEq z (.ref e) (put G8 e (.lst [])) R:=by
   intro G7 c l f turn R gc hl ht hR;refine zgc l .str (fun u=>!f u) rfl (by omega) (fun G' k'=>xC (k0 k' gc)) ht fun G' r' k' hr'=>⟨z0,fun e he=>?_⟩;have g1:(put (put G' r' (.lst ((l.filter fun u=>!f u).map .str))) e (.lst [])) r'=some (.lst ((l.filter fun u=>!f u).map .str)):=tG he zW;simp only[yI];rw[zdw g1 zW (qW _)]
   have ee:((l.filter fun u=>!f u).map W.str).isEmpty=l.all f:=by
    rw[Zcd];exact zhO f l
   dsimp only;rw[ee];exact hR _ ((k'.trans (zV.new hr')).trans (zV.new he))
  refine yR ?_
  erw[]
  refine fV ga6 (flt (f:=vY) ga6 nl (fun u hu' G' κ kp hκ=>?_) fun G7 k7=>?_)
  .simp only[qT,Zf,Zo,List.replicate,zzV,Zw,Z9]
   erw[e17]
   refine ⟨u,rfl,nw u hu',fun G'' k''=>?_⟩;simp only[vX];exact zhu (hκ _ (kp.trans k''))
  have k7':=k6.trans k7
  cases hn1:ns.all vY with
  |false =>
   simp only[ZA,if_true];exact nn (by rw[hK,hn1];rfl) (k3.trans k7') rfl
  |true =>
  simp only[Zu,zzB,if_false];rw[hn1,ZaP] at hK;refine qP (yR ?_)
  erw[]
  have gb7:=k0 k7 gb;have ga7:=k0 k7 ga6;refine fV gb7 (flt (f:=wL) gb7 dl (fun u hu' G' κ kp hκ=>?_) fun G8 k8=>?_)
  .simp only[qT,Zf,Zo,List.replicate,zzV,Zw,Z9]
   erw[e18]
   refine ⟨u,rfl,fun G'' k''=>?_⟩;simp only[vX];exact zhu (hκ _ (kp.trans k''))
  have k8':=k7'.trans k8
  cases hd1:ls.all wL with
  |false =>
   simp only[ZA,if_true];exact nn (by rw[hK,hd1];rfl) (k3.trans k8') rfl
  |true =>
  simp only[Zu,zzB,if_false];rw[hd1,if_pos rfl] at hK;have hdd:=ZC.mp hd1;have gb8:=k0 k8 gb7;have ga8:=k0 k8 ga7;refine qP (yR (zdv t2 rfl (k0 k8' gp3) ?_))
  erw[e6,rS,wT,xC ga8]
  refine fV gb8 (pX ls .str (fun u=>.int (kK u:Nat)) rfl (by omega) (fun G' k'=>xC (k0 k' gb8)) (fun u hu' G' κ kp hκ=>?_) fun G9 r9 k9 hr9=>?_)
  .simp only[qT,Zf,Zo,List.replicate,zzV,Zw,Z9]
   erw[e7,if_true]
   exact ⟨_,(zca (hdd u hu')).1,by have:=hdd u hu';simp only[wL,Zh,decide_eq_true_eq] at this;omega,hκ G' kp⟩
  .simp only[xC zW];refine ⟨z2,?_⟩;have kA:zV [] G3 (put G9 r9 (.lst (ls.map fun u=>.int (kK u:Nat)))):=(k8'.trans k9).trans (zV.new hr9);have gpA:=k0 kA gp3;have gqA:=k0 kA gq3;generalize put G9 r9 (.lst (ls.map fun u=>W.int (kK u:Nat)))=GA at kA gpA gqA ⊢
   have ew:(W.tup [.tup (ns.map .str),.tup (ls.map fun u=>.int (kK u:Nat))])=Wd.w ⟨ns,ls.map kK⟩:=by
    simp only[Wd.w,wG,ZO];rfl
   rw[ew];refine zkM gpA (by rw[zzM];omega) ⟨_,_,_,_,_,rfl,?_,?_,fun k hk=>?_,uF (k3.trans kA) hp⟩
   .rw[zW,za8 hK,ZaJ];rfl
   .rw[xJ npq.symm];exact gqA
   .by_cases hki:k=i
    .rw[hki];exact ⟨_,hK⟩
    .exact hs k (by omega)
 .rintro σ G3 ⟨v2,v3,v4,v5,v6,rfl,gp3,gq3,hs,k3⟩;rw[zku] at gp3 hs;refine yR ?_
  erw[e6,rS,wT,xC gp3]
  have:=h _ k3;rw[zcJ hs] at this;exact this
end
structure Fk (G0 G:Hw) (d l:Addr) (fs:List (Addr×O)):Prop where
 dl:yA G d l
 kp:zV [d,l] G0 G
 ob:∀ f∈fs,G f.1=some f.2/\f.1∉[d,l]/\G0 f.1=none
section
variable {G0 G G':Hw} {d l:Addr} {fs:List (Addr×O)} {Q:Q3}
theorem Fk.draw (F:Fk G0 G d l fs) (k:zV [d,l] G G') (D:yA G' d l):Fk G0 G' d l fs:=⟨D,F.kp.trans k,fun f hf=>⟨k _ _ (F.ob f hf).2.1 (F.ob f hf).1,(F.ob f hf).2⟩⟩
theorem Fk.keep (F:Fk G0 G d l fs) (k:zV [] G G'):Fk G0 G' d l fs:=F.draw (ze8 k) (bR k F.dl)
theorem Fk.new {p:Addr} {o:O} (F:Fk G0 G d l fs) (h:G p=none):Fk G0 (put G p o) d l ((p,o)::fs):=⟨qV h F.dl,F.kp.trans (zV.new h),fun f hf=>by
 rcases Zp.mp hf with rfl|hf
 .exact ⟨zW,vA F.dl h,F.kp.none (vA F.dl h) h⟩
 .exact ⟨tG h (F.ob f hf).1,(F.ob f hf).2⟩⟩
theorem Fk.set {p:Addr} {o o':O} (F:Fk G0 G d l fs) (h:(p,o)∈fs):Fk G0 (put G p o') d l [(p,o')]:=⟨vN (F.ob _ h).2.1 F.dl,uF F.kp (F.ob _ h).2.2,fun f hf=>by
 rw[zzO hf];exact ⟨zW,(F.ob _ h).2⟩⟩
theorem Fk.sub {gs:List (Addr×O)} (F:Fk G0 G d l fs) (h:∀ f∈gs,f∈fs):Fk G0 G d l gs:=⟨F.dl,F.kp,fun f hf=>F.ob f (h f hf)⟩
theorem Fk.at {p:Addr} {o:O} (F:Fk G0 G d l fs) (h:(p,o)∈fs):G p=some o:=(F.ob _ h).1
theorem Fk.a0 {p:Addr} {o:O} (F:Fk G0 G d l ((p,o)::fs)):G p=some o:=F.at zzT
theorem Fk.a1 {p:Addr} {o:O} {f:Addr×O} (F:Fk G0 G d l (f::(p,o)::fs)):G p=some o:=F.at (Zk _ zzT)
theorem Fk.old {p:Addr} {o:O} (F:Fk G0 G d l fs) (n:p∉[d,l]) (h:G0 p=some o):G p=some o:=F.kp _ _ n h
theorem slK {r:Addr} {R:List Str} {lo hi:Option Int} (F:Fk G0 G d l fs) (g:G r=some (sW R)) (h:∀ z G',Fk G0 G' d l ((z,sW (tL R lo hi))::fs)->Q (.ref z) G'):fF (.ref r) lo hi G Q:=by
 simp only[fF,xC g];intro z hz;rw[kY];exact h z _ (F.new hz)
theorem rX {p q:Addr} {A B:List Str} (F:Fk G0 G d l fs) (hp:G p=some (sW A)) (hq:G q=some (sW B)) (hl:qE A+qE B<=100000) (h:∀ z G',Fk G0 G' d l ((z,sW (A++B))::fs)->Q (.ref z) G'):wK .Add (.ref p) (.ref q) G Q :=
 zfG hp hq (by have:=uG A;have:=uG B;omega) fun r hr=>h r _ (F.new hr)
end
theorem zgE {a b:List Str} (h:a.Sublist b):qE a<=qE b:=by
 induction h with
 |slnil=>exact zzR _
 |cons x _ ih=>rw[yH];omega
 |cons_cons x _ ih=>rw[yH,yH];omega
theorem zck (R:List Str) (lo hi:Option Int):qE (tL R lo hi)<=qE R:=by
 unfold tL;exact zgE ((List.take_sublist _ _).trans (List.drop_sublist _ _))
theorem zcj:∀ (R:List Str) (i:Nat) (y:Str),qE (R.set i y)<=qE R+(y.length+1)
 | [],i,y=>by simp[qE]
 |a::R,0,y=>by rw[Zal,yH,yH];omega
 |a::R,i+1,y=>by rw[ZaX,yH,yH];have:=zcj R i y;omega
theorem bE (R:List Str):qE R.reverse=qE R:=by
 induction R with
 |nil=>rfl
 |cons a R ih=>rw[Zaq,yE,ih,yH,yH];show _+(_+0)=_;omega
theorem tV (y:Str):qE [y]=y.length+1:=by rw[yH];rfl
theorem addI {a b:Int} {G:Hw} {Q:Q3} (h:Q (.int (a+b)) G):wK .Add (.int a) (.int b) G Q:=h
theorem qC {Γ:Ctx3} {G:Hw} {v:Nat} {m y:Int} {body:ISs} {D:End3} {σ:xE} (s5:σ[v]?=some (some (.int y))) (h1:y=m->zC Γ XN body D σ G) (h2:y≠m->D.nx σ G):zQ Γ XN (.ite (.cmp .Eq (.var v) (.con (.int m))) body .nil) D σ G:=by
 erw[s5,yI,wB]
 by_cases e:y=m
 .simp only[decide_eq_true e,if_true];exact h1 e
 .simp only[decide_eq_false e,zzB,if_false];exact qP (h2 e)
theorem zke {Γ:Ctx3} {G:Hw} {v:Nat} {m y:Int} {body:ISs} {D:End3} {σ:xE} (s5:σ[v]?=some (some (.int y))) (h1:y<m->zC Γ XN body D σ G) (h2:¬ y<m->D.nx σ G):zQ Γ XN (.ite (.cmp .Lt (.var v) (.con (.int m))) body .nil) D σ G:=by
 erw[s5,yI,rJ]
 by_cases e:y<m
 .simp only[decide_eq_true e,if_true];exact h1 e
 .simp only[decide_eq_false e,zzB,if_false];exact qP (h2 e)
def pG:List Str:=["", ">", "0", "1", "00", "01", "+1", "-1", "-0", "1_0", "1000", "12", "0:", "1:", ":", "0 :", "and"]
def pH:List Str:=["then", "A", "a1", "sevenab", "a", "b", ">>", "0,", "1.", "x:", "or", "not", "999", "3"]
theorem ze0:(∀ z∈pG++pH,z.length<=7)/\qE (pG++pH)<=500/\qE pG<=300/\qE pH<=300:=by decide +kernel
section
variable {K:yS} {CQ:Nat->Addr}
theorem zjv {n:Nat} (hn:15<=n) {ws:List W} {G:Hw} {Q:Q3} (h:spOw ws G Q XN):zC (yX K CQ n) XN wX { nx:=fun _ G'=>Q .non G',rt:=Q } (yG jN ws) G:=by
 obtain ⟨d,l,p,r,us,xs,rfl,D,np,nr,gp,gr,une,tu,nx,h⟩:=h;have e1:(yX K CQ n).fn[1]?=some nU:=jD 1 hn rfl;have e10:(yX K CQ n).fn[10]?=some tM:=jD 10 hn rfl;have z1:=sz 1 (by decide);have ul:=uG us;have u1:1<=us.length:=by cases us with|nil=>exact absurd rfl une|cons _ _=>simp
 have x5:=nx.len;obtain ⟨ll,lt,l1,l2⟩:=ze0
 have xt:qE xs<=35:=by
  have:=bD (l:=xs) (B:=6) fun x hx=>zcV (nx.nm x hx);have:xs.length * 7<=5 * 7:=ZbX x5 (zzR _);omega
 have F0:Fk G G d l []:=⟨D,zV.refl,(fun f hf=>nomatch hf)⟩;show zC (yX K CQ n) XN wX { nx:=fun _ G'=>Q .non G',rt:=Q } [some (.ref d),some (.ref p),some (.ref r),none,none,none,none] G;simp only[wX];refine yR ?_
 erw[]
 refine ⟨sz _ (by decide),fun a1 h1=>?_⟩;have F1:=F0.new (o:=sW pG) h1;refine yR ?_
 erw[]
 refine ⟨sz _ (by decide),fun a2 h2=>?_⟩;have F2:=F1.new (o:=sW pH) h2;refine rX (A:=pG) (B:=pH) F2 (F2.at (by simp)) (F2.at (by simp)) (by omega) fun a3 G3 F3=>?_;replace F3:=F3.sub (gs:=[(a3,sW (pG++pH))]) (by simp)
 clear F0 F1 F2
 have L31:(pG++pH).length=31:=by decide
 generalize pG++pH=L at *;refine yR ?_
 erw[]
 refine rX (A:=L) (B:=xs) F3 (F3.at (by simp)) (F3.old nr gr) (by omega) fun a4 G4 F4=>?_
 erw[e10,e1,vD,vE,F4.at (p:=a3) (o:=sW L) (by simp),F4.old nr gr,zzM,wK]
 refine ⟨d,l,_,rfl,F4.dl,by omega,fun j G5 j0 j1 k5 D5=>?_⟩;have F5:=F4.draw k5 D5;obtain ⟨x,hx,ex⟩:=zdX (xs:=L++xs) j0 (by rw[zzW];omega);refine ixL (xC (F5.at (p:=a4) (o:=sW (L++xs)) (by simp))) ?_;rw[ex]
 have xl:x.length<=7:=by
  rcases ZE.mp hx with hx|hx
  .exact ll x hx
  .exact Zn (zcV (nx.nm x hx)) (by decide)
 replace F5:=F5.sub (gs:=[]) (by simp);refine yR ?_
 erw[e10,e1,vD,vE,F5.old np gp,zzM]
 refine ⟨d,l,_,rfl,F5.dl,by omega,fun a G6 b0 b1 k6 D6=>?_⟩;have F6:=F5.draw k6 D6;refine yR ?_
 erw[e10]
 refine ⟨d,l,4,rfl,F6.dl,by decide,fun way G7 w0 w1 k7 D7=>?_⟩;have F7:=F6.draw k7 D7
 clear F3 F4 F5 F6
 have fin:∀ {vs:List Str} {z:Addr} {G':Hw} {fs:List (Addr×O)},qE vs<=3 * qE us+20->Fk G G' d l ((z,sW vs)::fs)->Q (.ref z) G':=fun {vs z G' fs} hv F=>h z vs G' hv (F.ob _ zzT).2.1 (F.at zzT) F.kp F.dl;have ct:=zck us
 have two:∀ {lo hi:Option Int},fF (.ref p) none lo G7 fun x1 G1=>fF (.ref p) hi none G1 fun y1 G2=>wK .Add x1 y1 G2 Q:=by
  intro lo hi;refine slK F7 (F7.old np gp) fun s1 G8 F8=>slK F8 (F8.old np gp) fun s2 G9 F9=>?_;have c1:=ct none lo;have c2:=ct hi none;refine rX F9 F9.a1 F9.a0 (by omega) fun z G10 F10=>fin ?_ F10;rw[yE];omega
 have mid:∀ {lo hi:Option Int},fF (.ref p) none lo G7 fun x1 G1=>[W.str x].length<=sizeLine/\∀ q,G1 q=none->wK .Add x1 (.ref q) (put G1 q (.lst [.str x])) fun x2 G2=>fF (.ref p) hi none G2 fun y1 G3=>wK .Add x2 y1 G3 Q:=by
  intro lo hi;refine slK F7 (F7.old np gp) fun s1 G8 F8=>⟨z1,fun q hq=>?_⟩;have F9:=F8.new (o:=sW [x]) hq;have c1:=ct none lo;have c2:=ct hi none;refine rX (B:=[x]) F9 F9.a1 F9.a0 (by rw[tV];omega) fun s2 G10 F10=>slK F10 (F10.old np gp) fun s3 G11 F11=>?_;refine rX F11 F11.a1 F11.a0 (by rw[yE,tV];omega) fun z G12 F12=>fin ?_ F12;rw[yE,yE,tV];omega
 refine yR (qC rfl (fun _=>?_) fun _=>?_)
 .refine yR ?_
  erw[wK]
  exact two
 refine yR (qC rfl (fun _=>?_) fun _=>?_)
 .refine yR ?_
  erw[]
  refine slK F7 (F7.old np gp) fun s1 G8 F8=>?_;refine addI ?_;refine slK F8 (F8.old np gp) fun s2 G9 F9=>?_;have c1:=ct none (some a);have c2:=ct (some a) (some (a+1));have c3:=ct (some a) none;refine rX F9 F9.a1 F9.a0 (by omega) fun s3 G10 F10=>slK F10 (F10.old np gp) fun s4 G11 F11=>?_;refine rX F11 F11.a1 F11.a0 (by rw[yE];omega) fun z G12 F12=>fin ?_ F12;rw[yE,yE];omega
 refine yR (qC rfl (fun _=>?_) fun _=>?_)
 .refine yR ?_
  erw[]
  exact mid
 refine yR ?_
 erw[]
 exact mid
end
theorem sl_to {x:Str} {j:Int} {G:Hw} {Q:Q3} (h0:0<=j) (h1:j<=x.length) (hx:x.length<=50000) (q:∀ y:Str,y.length=j.toNat->Q (.str y) G):fF (.str x) none (some j) G Q :=
 ⟨sz _ (by omega),q _ (by rw[← xU,bB h0 h1,Z5,xU];omega)⟩
theorem zgN {x:Str} {j:Int} {G:Hw} {Q:Q3} (h0:0<=j) (h1:j<=x.length) (hx:x.length<=50000) (q:∀ y:Str,y.length=x.length-j.toNat->Q (.str y) G):fF (.str x) (some j) none G Q :=
 ⟨sz _ (by omega),q _ (by rw[← xU,pU h0 h1,Z0,xU])⟩
def ze1:List Str:=[" ", ".", "|", ","]
theorem l4:∀ z∈ze1,z.length=1:=by decide +kernel
section
variable {K:yS} {CQ:Nat->Addr}
theorem zhf {n:Nat} (hn:16<=n) {G G':Hw} {Q:Q3} {d l r p:Addr} {x:Str} {a way:W} {v6:Option W} {R:List Str} {fs:List (Addr×O)} (h:∀ (y:Str) G',y.length<=20000->zV [d,l] G G'->yA G' d l->Q (.str y) G') (tR:qE R<=13000) (F:Fk G G' d l ((p,sW R)::fs)) :
  zC (yX K CQ n) XN (qD (qD (qD (qD (qD (qD (qD (qD (qD yN))))))))) { nx:=fun _ G'=>Q .non G',rt:=Q } [some (.ref d),some (.str x),some (.ref r),some (.ref p),some a,some way,v6,none] G':=by
 have e1:(yX K CQ n).fn[1]?=some nU:=jD 1 hn rfl;have e10:(yX K CQ n).fn[10]?=some tM:=jD 10 hn rfl;have t1:(yX K CQ n).mt[1]?=some tN:=rfl;have z0:=sz 0 (by decide);have z4:=sz 4 (by decide)
 have ret:∀ {R:List Str} {G':Hw} {v7:Option W} {fs:List (Addr×O)},qE R<=20000->Fk G G' d l ((p,sW R)::fs)->zC (yX K CQ n) XN (.cons (.ret (.mth 1 (.con (.str "\n")) (.cons (.var 3) .nil))) .nil) { nx:=fun _ G'=>Q .non G',rt:=Q } [some (.ref d),some (.str x),some (.ref r),some (.ref p),some a,some way,v6,v7] G':=by
  intro R G' v7 fs tR F;refine yR ?_
  erw[t1]
  exact ⟨rfl,R,xC F.a0,vP gX (by omega),h _ G' (Zn (sC _ _ gX) tR) F.kp F.dl⟩
 simp only[yN,qD];refine yR ?_
 erw[Zo,z0,true_and]
 intro e he;have F1:=F.new (o:=.lst []) he;simp only[yI];rw[zdw F1.a1 F1.a0 (qW R)];simp only[Zcd]
 cases R with
 |nil =>
  simp only[List.isEmpty_nil,Zu,zzB,if_false];exact qP (ret (R:=[]) (fs:=[]) (by omega) (F1.sub (by simp)))
 |cons y0 R =>
  simp only[List.isEmpty_cons,ZA,if_true,e10];replace F1:=F1.sub (gs:=[(p,sW (y0::R))]) (by simp);rw[yH] at tR;refine ⟨d,l,8,rfl,F1.dl,by decide,fun j G2 j0 j1 k2 D2=>?_⟩;have F2:=F1.draw k2 D2;simp only[wB]
  by_cases hj:j=7
  case neg =>
   simp only[decide_eq_false hj,zzB,if_false];exact qP (ret (by rw[yH];omega) F2)
  simp only[decide_eq_true hj,if_true];refine yR ?_
  erw[e10,e1]
  refine ixL (xC F2.a0) ?_;rw[zzU,at_0]
  erw[vD,vE,sz _ (show y0.length<=100000 by omega),if_true,wK]
  refine ⟨d,l,_,rfl,F2.dl,by omega,fun b G3 b0 b1 k3 D3=>?_⟩;have F3:=F2.draw k3 D3;refine yR ?_
  erw[e10]
  refine ixL (xC F3.a0) ?_;rw[zzU,at_0];refine sl_to b0 (by omega) (by omega) fun y1 h1=>?_;simp only[zzC,zzL,zzA,Nat.reduceAdd,z4,true_and];intro q hq;have F4:=F3.new (o:=sW ze1) hq;refine ⟨d,l,4,rfl,F4.dl,by decide,fun c G5 c0 c1 k5 D5=>?_⟩;have F5:=F4.draw k5 D5;obtain ⟨u,hu,eu⟩:=zdX (xs:=ze1) c0 (by simpa[ze1] using c1);refine ixL (xC F5.a0) ?_;rw[eu];have ul:=l4 u hu;refine addS (by omega) (ixL (xC F5.a1) ?_);rw[zzU,at_0];refine zgN b0 (by omega) (by omega) fun y3 h3=>addS (by rw[Zz];omega) ?_;have g5:=F5.a1;simp only[sL,g5,zzU];have e0:nH (W.str y0::R.map W.str).length 0=some 0:=by simp[nH]
  rw[e0];refine qP (ret (R:=(y1++u++y3)::R) ?_ (F5.set (o:=sW (y0::R)) (Zk _ zzT)));rw[yH,Zz,Zz];omega
theorem zjw {n:Nat} (hn:16<=n) {ws:List W} {G:Hw} {Q:Q3} (h:spOt ws G Q XN):zC (yX K CQ n) XN yN { nx:=fun _ G'=>Q .non G',rt:=Q } (yG jF ws) G:=by
 obtain ⟨d,l,r,x,xs,rfl,D,nr,gr,xl,nx,h⟩:=h;have e1:(yX K CQ n).fn[1]?=some nU:=jD 1 hn rfl;have e10:(yX K CQ n).fn[10]?=some tM:=jD 10 hn rfl;have e15:(yX K CQ n).fn[15]?=some ⟨"_law_other_words", spOw⟩:=jD 15 hn rfl;have t1:(yX K CQ n).mt[1]?=some tN:=rfl;have t2:(yX K CQ n).mt[2]?=some eApp:=rfl;have t3:(yX K CQ n).mt[3]?=some sV:=rfl;have s1:(yX K CQ n).sx[1]?=some ⟨rvM,rvS⟩:=rfl;have z1:=sz 1 (by decide);have F0:Fk G G d l []:=⟨D,zV.refl,(fun f hf=>nomatch hf)⟩;have tR:qE (Txt.split x "\n")<=3001:=by rw[pM,qO];omega
 have R1:1<=(Txt.split x "\n").length:=by
  have:=vB x 10;rw[← pM] at this
  cases hs:Txt.split x "\n" with
  |nil=>exact absurd hs this
  |cons _ _=>simp
 have lR:=uG (Txt.split x "\n");show zC (yX K CQ n) XN yN { nx:=fun _ G'=>Q .non G',rt:=Q } [some (.ref d),some (.str x),some (.ref r),none,none,none,none,none] G;have tail:∀ {p:Addr} {a way:W} {v6:Option W} {R:List Str} {G':Hw} {fs:List (Addr×O)},qE R<=13000->Fk G G' d l ((p,sW R)::fs)->zC (yX K CQ n) XN (qD (qD (qD (qD (qD (qD (qD (qD (qD yN))))))))) { nx:=fun _ G'=>Q .non G',rt:=Q } [some (.ref d),some (.str x),some (.ref r),some (.ref p),some a,some way,v6,none] G':=fun t F=>zhf hn h t F;simp only[yN,qD] at tail;simp only[yN];refine yR ?_
 erw[t3]
 refine ⟨rfl,by decide +kernel,by omega,fun p hp=>?_⟩;have F1:=F0.new (o:=sW (Txt.split x "\n")) hp;generalize Txt.split x "\n" = R at *;refine yR ?_
 erw[e10,e1,vD,vE,F1.a0,zzM]
 refine ⟨d,l,_,rfl,F1.dl,by omega,fun a G2 a0 a1 k2 D2=>?_⟩;have F2:=F1.draw k2 D2;obtain ⟨a,rfl⟩:=Int.eq_ofNat_of_zero_le a0;have ha:a<R.length:=by omega
 have ea:sS (R.map W.str) (a:Int)=some (.str R[a]):=atN (by rw[Zm,Zl ha];rfl);have hm:R[a].length+1<=qE R:=zaD (ZJ ha)
 have ei:nH (R.map W.str).length (a:Int)=some a:=by
  unfold nH;rw[if_pos (by omega),zzM,if_pos (by omega)];rfl
 generalize R[a]=y at ea hm;refine yR ?_
 erw[e10]
 refine ⟨d,l,11,rfl,F2.dl,by decide,fun way G3 w0 w1 k3 D3=>?_⟩;have F3:=F2.draw k3 D3
 clear F0 F1 F2
 have ct:=zck R;refine yR (qC rfl (fun w=>?_) fun n10=>?_)
 .subst w;refine yR ?_
  erw[]
  refine addI (slK F3 F3.a0 fun q1 G4 F4=>?_);refine yR ?_
  erw[s1]
  refine slK F4 F4.a1 fun q2 G5 F5=>⟨_,xC F5.a1,fun q3 h3=>?_⟩;have c1:=ct (some (a:Int)) (some ((a:Int)+2));have c2:=ct none (some (a:Int));have c3:=ct (some ((a:Int)+2)) none;generalize tL R (some (a:Int)) (some ((a:Int)+2))=M at *;have F6:=F5.new (o:=sW M.reverse) h3;rw[← List.map_reverse];refine rX F6 F6.a1 F6.a0 (by rw[bE];omega) fun q4 G7 F7=>addI (slK F7 (F7.at (p:=p) (o:=sW R) (by simp)) fun q5 G8 F8=>?_);refine rX F8 F8.a1 F8.a0 (by rw[yE,bE];omega) fun q6 G9 F9=>?_;refine qP (yR (zke rfl (fun z=>absurd z (by decide)) fun _=>yR (qC rfl (fun z=>absurd z (by decide)) fun _=>yR (qC rfl (fun z=>absurd z (by decide)) fun _=>yR (qC rfl (fun z=>absurd z (by decide)) fun _=>yR (qC rfl (fun z=>absurd z (by decide)) fun _=>?_))))));exact tail (by rw[yE,yE,bE];omega) F9
 refine yR (zke rfl (fun w=>?_) fun n6=>?_)
 .refine yR ?_
  erw[t1,e15]
  refine ⟨rfl,ixL (xC F3.a0) ?_⟩;rw[ea]
  erw[t3]
  refine ⟨rfl,by decide +kernel,by omega,fun q hq=>?_⟩;have F4:=F3.new (o:=sW (Txt.split y " ")) hq;have ty:qE (Txt.split y " ")=y.length+1:=by rw[zcr,qO]
  have ny:Txt.split y " " ≠ []:=by rw[zcr];exact vB y 32
  refine ⟨d,l,q,r,Txt.split y " ", xs,rfl,F4.dl,(F4.ob _ zzT).2.1,nr,F4.a0,F4.old nr gr,ny,by omega,nx,fun q2 vs G5 tv n2 g2 k5 D5=>?_⟩;have F5:=F4.draw k5 D5;refine ⟨vs,xC g2,vP zbd (by omega),?_⟩;have jl:=sC " " vs zbd;have g5:=F5.a1;generalize Txt.join " " vs=s at *;simp only[sL,g5];rw[ei];have F6:=F5.set (o:=sW R) (o':=sW (R.set a s)) (Zk _ zzT);dsimp only;rw[map_set];have ts:=zcj R a s;refine qP (yR (qC rfl (fun z=>absurd z (by omega)) fun _=>yR (qC rfl (fun z=>absurd z (by omega)) fun _=>yR (qC rfl (fun z=>absurd z (by omega)) fun _=>yR (qC rfl (fun z=>absurd z (by omega)) fun _=>?_)))));exact tail (by omega) F6
 refine yR (qC rfl (fun w=>?_) fun n6'=>?_)
 .subst w;refine yR ?_
  erw[]
  refine slK F3 F3.a0 fun q1 G4 F4=>addI (slK F4 F4.a1 fun q2 G5 F5=>?_);have c2:=ct none (some (a:Int));have c3:=ct (some ((a:Int)+1)) none;refine rX F5 F5.a1 F5.a0 (by omega) fun q6 G9 F9=>?_;refine qP (yR (qC rfl (fun z=>absurd z (by decide)) fun _=>yR (qC rfl (fun z=>absurd z (by decide)) fun _=>yR (qC rfl (fun z=>absurd z (by decide)) fun _=>?_))));exact tail (by rw[yE];omega) F9
 refine yR (qC rfl (fun w=>?_) fun n7=>?_)
 .subst w;refine yR ?_
  erw[]
  refine slK F3 F3.a0 fun q1 G4 F4=>ixL (xC F4.a1) ?_;rw[ea];refine ⟨z1,fun q2 h2=>?_⟩;have F5:=F4.new (o:=sW [y]) h2;have c2:=ct none (some (a:Int));have c3:=ct (some (a:Int)) none;refine rX (B:=[y]) F5 F5.a1 F5.a0 (by rw[tV];omega) fun q3 G7 F7=>slK F7 (F7.at (p:=p) (o:=sW R) (by simp)) fun q5 G8 F8=>?_;refine rX F8 F8.a1 F8.a0 (by rw[yE,tV];omega) fun q6 G9 F9=>?_;refine qP (yR (qC rfl (fun z=>absurd z (by decide)) fun _=>yR (qC rfl (fun z=>absurd z (by decide)) fun _=>?_)));exact tail (by rw[yE,yE,tV];omega) F9
 have em:("" : Str).length=0:=by decide +kernel
 refine yR (qC rfl (fun w=>?_) fun n8=>?_)
 .subst w;refine yR ?_
  erw[]
  refine slK F3 F3.a0 fun q1 G4 F4=>⟨z1,fun q2 h2=>?_⟩;have F5:=F4.new (o:=sW [""]) h2;have c2:=ct none (some (a:Int));have c3:=ct (some (a:Int)) none;refine rX (B:=[""]) F5 F5.a1 F5.a0 (by rw[tV,em];omega) fun q3 G7 F7=>slK F7 (F7.at (p:=p) (o:=sW R) (by simp)) fun q5 G8 F8=>?_;refine rX F8 F8.a1 F8.a0 (by rw[yE,tV,em];omega) fun q6 G9 F9=>?_;refine qP (yR (qC rfl (fun z=>absurd z (by decide)) fun _=>?_));exact tail (by rw[yE,yE,tV,em];omega) F9
 refine yR (qC rfl (fun w=>?_) fun n9=>?_)
 .refine yR (zdv t2 rfl F3.a0 ?_)
  erw[]
  refine zkM F3.a0 (by rw[zzM];omega) ?_;have F4:=F3.set (o:=sW R) (o':=sW (R++[("" : Str)])) zzT;rw[sW,ZaJ] at F4;refine qP (tail (R:=R++[("" : Str)]) (fs:=[]) (by rw[yE,tV,em];omega) ?_);rw[sW,ZaJ];exact F4
 exact tail (by omega) F3
end
abbrev fx3 (CQ:Nat->Addr):List Fx3:=[rV,⟨"read_number", sM CQ⟩,⟨"read_world", spRR CQ⟩,⟨"read_web", fE CQ⟩]
theorem zbe:∀ l:List Nat,xF (wG l)=true/\jQ (wG l)=0/\jU (wG l) (wG l)=true
 | []=>⟨rfl,rfl,by simp[wG,jU]⟩
 |a::l=>by
  obtain ⟨h1,h2,h3⟩:=zbe l;unfold wG at h1 h2 h3 ⊢;exact ⟨by simp[xF,kR,h1],by simp[jQ,uD,h2],by simp[jU,jB,h3]⟩
theorem zcn:∀ l:List Str,jU (l.map W.str) (l.map W.str)=true
 | []=>by simp[jU]
 |a::l=>by simp[jU,jB,zcn l]
theorem zb7:∀ web:List Wd,xF (web.map Wd.w)=true/\jQ (web.map Wd.w)<=3/\jU (web.map Wd.w) (web.map Wd.w)=true
 | []=>⟨rfl,Zan _,by simp[jU]⟩
 |v::web=>by
  obtain ⟨h1,h2,h3⟩:=zb7 web;obtain ⟨n1,n2,n3⟩:=zbe v.ls;refine ⟨?_,?_,?_⟩
  .simp[xF,kR,Wd.w,n1,qW,h1]
  .simp[jQ,uD,Wd.w,n2,uP];omega
  .simp[jU,jB,Wd.w,n3,zcn,h3]
theorem zgl {G:Hw} (web:List Wd):eqG G (wY web) (wY web)=some true:=by
 obtain ⟨h1,h2,h3⟩:=zb7 web;have hd:uD (.tup (web.map Wd.w))<=4:=by simp only[uD];omega
 simp only[eqG,wY,kR,h1];rw[if_pos (by simp;omega),jB,h3]
section
variable {K:yS} {CQ:Nat->Addr} {T:Addr}
theorem zeA {n:Nat} (hn:24<=n) (cl:Cl K CQ) {ws:List W} {G:Hw} {Q:Q3} (h:za4 ws G Q XN):xZ (yX K CQ n) (qS CQ (fx3 CQ) T) vJ (fun _ _ _=>False) { nx:=fun _ G'=>Q .non G',rt:=Q } (yG tD ws) G:=by
 have e4:(yX K CQ n).fn[4]?=some (eIsx K):=jD 4 hn rfl;have g6:(yX K CQ n).gl[6]?=some (("NoText" : Str),.ref (CQ 0)):=rfl;have g7:(yX K CQ n).gl[7]?=some (("NoBook" : Str),.ref (CQ 1)):=rfl;have g8:(yX K CQ n).gl[8]?=some (("NotLet" : Str),.ref (CQ 2)):=rfl;have g9:(yX K CQ n).gl[9]?=some (("NoMove" : Str),.ref (CQ 3)):=rfl;have g10:(yX K CQ n).gl[10]?=some (("NoPlan" : Str),.ref (CQ 4)):=rfl;have g11:(yX K CQ n).gl[11]?=some (("NoTalker" : Str),.ref (CQ 5)):=rfl;have g12:(yX K CQ n).gl[12]?=some (("NoPaper" : Str),.ref (CQ 6)):=rfl;have g13:(yX K CQ n).gl[13]?=some (("NoWeb" : Str),.ref (CQ 7)):=rfl;have g14:(yX K CQ n).gl[14]?=some (("NoRow" : Str),.ref (CQ 8)):=rfl;have g15:(yX K CQ n).gl[15]?=some (("NoName" : Str),.ref (CQ 9)):=rfl;have f3:(qS CQ (fx3 CQ) T).fx[3]?=some ⟨"read_web", fE CQ⟩:=rfl;have t0:(qS CQ (fx3 CQ) T).tr[0]?=some ⟨"TalkError", T,[CQ 0]⟩:=rfl;have z4:=sz 4 (by decide);have z5:=sz 5 (by decide)
 obtain ⟨w,o,rfl,hq,key⟩:∃ (w:W) (o:Option (List Wd)),ws=[w]/\K0 (opW o) G Q/\∀ (Q':Q3) (E:X3),(∀ G',zV [] G G'->match o.map wY with|some w=>Q' w G'|none=>E (xT CQ) G')->fE CQ [w] G Q' E:=by
  rcases h with ⟨w,rfl,hw,h⟩|⟨x,rfl,xl,h⟩
  .exact ⟨w,none,rfl,h,fun Q' E r=>.inl ⟨w,rfl,hw,r⟩⟩
  .exact ⟨_,rdX x,rfl,h,fun Q' E r=>.inr ⟨x,rfl,xl,r⟩⟩
 show xZ (yX K CQ n) (qS CQ (fx3 CQ) T) vJ (fun _ _ _=>False) { nx:=fun _ G'=>Q .non G',rt:=Q } [some w,none,none,none] G;simp only[vJ];refine pP ?_;simp only[jS]
 erw[]
 refine pP ?_;simp only[jS]
 erw[]
 refine pP ?_;simp only[jS,t0];refine pP ?_;simp only[jS]
 erw[f3]
 refine key _ _ fun G1 k1=>?_;have h1:=hq G1 k1
 cases o with
 |some web =>
  refine xtn ?_
  erw[]
  refine pP ?_;simp only[jS]
  erw[yI,isR,wY,zzB,if_false,if_true]
  refine qP (pP ?_);simp only[jS]
  erw[yI,isR,zzB,if_false,if_true]
  refine yR ?_
  erw[]
  exact h1
 |none =>
  refine ⟨CQ 0,[],[],rfl,ZG.mpr rfl,?_⟩
  erw[]
  simp only[xT];refine pP ?_;simp only[jS]
  erw[yI,isR,zzB,if_false,if_true]
  refine qP (pP ?_);simp only[jS]
  erw[yI,isR,zzB,if_false,if_true]
  refine qP (pP ?_);simp only[jS]
  erw[e4,g13,g7,g8,g9,g10,zzC,zzL,zzA,Nat.reduceAdd,z5,true_and]
  refine ⟨cl.xc,cl.xk,_,_,rfl,cl.any1,?_⟩;simp only[vX,zzB,if_false];refine qP (pP ?_);simp only[jS]
  erw[e4,g11,g12,g14,g15,g6,zzC,zzL,zzA,Nat.reduceAdd,z4,true_and]
  refine ⟨cl.xc,cl.xk,_,_,rfl,cl.any2,?_⟩;simp only[vX,zzB,if_false];refine ⟨cl.xc,cl.xk,_,cl.one,?_⟩;simp only[vX,Zu,zzB,if_false];refine qP (pP ?_);simp only[jS]
  erw[]
  exact h1
theorem zet {n:Nat} (hn:25<=n) (cl:Cl K CQ) {ws:List W} {G:Hw} {Q:Q3} (h:mL ws G Q XN):zC (yX K CQ n) XN vK { nx:=fun _ G'=>Q .non G',rt:=Q } (yG tE ws) G:=by
 obtain ⟨web,rfl,hl,h⟩:=h;have e4:(yX K CQ n).fn[4]?=some (eIsx K):=jD 4 hn rfl;have g3:(yX K CQ n).gl[3]?=some (("bool" : Str),W.ty "bool"):=rfl;have g5:(yX K CQ n).gl[5]?=some (("tuple" : Str),W.ty "tuple"):=rfl;show zC (yX K CQ n) XN vK { nx:=fun _ G'=>Q .non G',rt:=Q } [some (wY web),some (wY web),none,none] G;simp only[vK];refine yR ?_
 erw[e4,g5]
 refine ⟨"tuple", true,rfl,cl.tt,?_⟩;simp only[vX,Zu,zzB,if_false,yI,zgl];refine qP (yR ?_)
 erw[]
 refine zfa ?_;refine ⟨fun i σ G'=>∃ v2 v3:Option W,σ=[some (wY web),some (wY web),v2,v3]/\zV [] G G',⟨none,none,rfl,zV.refl⟩,fun _ _ _ _ _=>trivial,?_,?_⟩
 .rintro i w σ G' hw ⟨v2,v3,rfl,kp⟩;rw[Zm] at hw;obtain ⟨v,hv,rfl⟩:=Zs.mp hw;have vl:=hl v (Zr hv);simp only[Wd.w]
  erw[]
  refine yR ?_
  erw[e4,g5,g3]
  refine ⟨"tuple", true,rfl,cl.tt,?_⟩;simp only[vX,Zu,zzB,if_false];refine zfa (pX v.ls (fun j:Nat=>.int (j:Int)) (fun _=>.bl false) rfl (by omega) (fun _ _=>trivial) (fun j hj G2 κ k2 hκ=>?_) fun G2 r k2 hr=>?_)
  .simp only[qT,Zf,Zo,List.replicate,zzV,Zw,Z9]
   erw[if_true]
   exact ⟨"int", false,rfl,cl.ib,hκ G2 k2⟩
  .simp only[yI,tB,zW]
   have pu:∀ l:List Nat,xF (l.map fun _=>W.bl false)=true/\((l.map fun _=>W.bl false).any fun w=>jB w (.bl true))=false:=fun l=>by
    induction l with
    |nil=>exact ⟨rfl,rfl⟩
    |cons a l ih=>exact ⟨by simp[xF,kR,ih.1],by simp[jB,ih.2]⟩
   refine ⟨⟨by simp[kR],(pu v.ls).1,Zn (Zcg _ _) (by simp[uD])⟩,?_⟩;rw[(pu v.ls).2];simp only[zzB,if_false];exact qP ⟨_,_,rfl,(kp.trans k2).trans (zV.new hr)⟩
 .rintro σ G' ⟨v2,v3,rfl,kp⟩;refine yR ?_
  erw[]
  exact h _ kp
end
theorem zi6 {y:Str} {web:List Wd} (h:rdX y=some web) (hl:y.length<=20000):∀ v∈web,v.ls.length<=50000:=by
 unfold rdX at h
 split at h
 .cases h;simp
 .unfold rdW at h
  split at h
  .cases h;intro v hv;obtain ⟨k,hk,e⟩:=ZbT.mp hv;have hk:=ZH.mp hk;have r1:=zap y (fR hk);unfold rdK rdR at e
   split at e
   .cases e;simp only[zzM,Z0];have:=uI ((Txt.split y "\n").getD k "") " ";omega
   .cases e
  .cases h
theorem eqL {G:Hw} {p q:Addr} {a:List W} (hp:G p=some (.lst a)) (hq:G q=some (.lst a)) (pa:xF a=true) (da:jQ a<=150) (ea:jU a a=true):eqG G (.ref p) (.ref q)=some true:=by
 simp only[eqG,xC hp,xC hq,pa,ea];rw[if_pos (by simp;omega)]
theorem web0:nA [] = "" := by decide +kernel
section
variable {K:yS} {CQ:Nat->Addr}
theorem zhr {n:Nat} (hn:28<=n) {s0:W} {ns:List Int} {G:Hw} {Q:Q3} {nx:xE->Hw->Prop} (sc:bF G s0 ns) (nl:ns.length<=63) (h:∀ G',Q (.bl true) G'):zC (yX K CQ n) XN blaw { nx:=nx,rt:=Q } [some s0,none,none,none,none,none,none,none,none] G:=by
 have e9:(yX K CQ n).fn[9]?=some zkx:=jD 9 hn rfl;have e10:(yX K CQ n).fn[10]?=some tM:=jD 10 hn rfl;have e11:(yX K CQ n).fn[11]?=some ⟨"_law_names", nP⟩:=jD 11 hn rfl;have e12:(yX K CQ n).fn[12]?=some ⟨"_law_changed", zem⟩:=jD 12 hn rfl;have e13:(yX K CQ n).fn[13]?=some ⟨"_law_text", vW⟩:=jD 13 hn rfl;have e14:(yX K CQ n).fn[14]?=some ⟨"_law_web", zek⟩:=jD 14 hn rfl;have e16:(yX K CQ n).fn[16]?=some ⟨"_law_other_text", spOt⟩:=jD 16 hn rfl;have e19:(yX K CQ n).fn[19]?=some ⟨"_law_due", zel⟩:=jD 19 hn rfl;have e23:(yX K CQ n).fn[23]?=some ⟨"read_web", N0 (fE CQ)⟩:=jD 23 hn rfl;have e24:(yX K CQ n).fn[24]?=some ⟨"_law_read", za4⟩:=jD 24 hn rfl;have e25:(yX K CQ n).fn[25]?=some ⟨"_law_same", mL⟩:=jD 25 hn rfl;have e27:(yX K CQ n).fn[27]?=some ⟨"show_web", vW⟩:=jD 27 hn rfl;have i0:(yX K CQ n).it[0]?=some dR:=rfl;have z0:=sz 0 (by decide);have z1:=sz 1 (by decide);have z5:=sz 5 (by decide);simp only[blaw];refine yR ?_
 erw[e9]
 refine ⟨s0,0,ns,rfl,sc,nl,by decide,fun d l G1 hd hl k1 D1=>?_⟩;refine yR ?_
 erw[e11,e10,wK]
 refine ⟨d,l,5,rfl,D1,by decide,fun q2 G2 q20 q21 k2 D2=>?_⟩;refine ⟨d,l,1+q2,rfl,D2,by omega,by omega,fun r xs G3 nm nr gr k3 D3=>?_⟩;refine yR ?_
 erw[e12,e14]
 refine ⟨d,l,r,12,xs,rfl,D3,nr,gr,nm,by decide,by decide,fun wb0 G4 wo0 k4 D4=>?_⟩;refine ⟨d,l,r,xs,wb0,rfl,D4,nr,k4 _ _ nr gr,nm,wo0,fun web G5 wo k5 D5=>?_⟩;have gr5:=k5 _ _ nr (k4 _ _ nr gr)
 clear k4 D4 wo0 k5 gr D3 D2 D1 k3 k2 k1
 refine yR ?_
 erw[e13]
 refine ⟨web,rfl,wo.few,wo.ok,fun G6 k6=>?_⟩;have gr6:=k0 k6 gr5;have D6:=bR k6 D5;have xl:=zgA wo.few wo.ok
 have hX:rdX (nA web)=some web:=by
  unfold rdX;rw[if_neg (zir wo.one (by have:=wo.few;omega) wo.ok)];exact zfY wo.one (by have:=wo.few;omega) wo.ok
 have rb:∀ {G':Hw} {R:Q3},(∀ G'',zV [] G' G''->R (wY web) G'')->N0 (fE CQ) [.str (nA web)] G' R XN:=fun q=>.inr ⟨_,rfl,by omega,fun G'' k''=>by rw[hX];exact q G'' k''⟩;have sm:∀ {G':Hw} {R:Q3},(∀ G'',zV [] G' G''->R (.bl true) G'')->mL [wY web,wY web] G' R XN:=fun q=>⟨web,rfl,fun v hv=>by have:=(wo.ok v hv).ll;omega,q⟩;have sh:∀ {G':Hw} {R:Q3},(∀ G'',zV [] G' G''->R (.str (nA web)) G'')->vW [wY web] G' R XN:=fun q=>⟨web,rfl,wo.few,wo.ok,q⟩;generalize nA web=X at *;refine yR ?_
 erw[e27,e23,e25]
 refine sh fun G7 k7=>?_;simp only[yI,vO,beq_self_eq_true,Zu,zzB,if_false];refine rb fun G8 k8=>sm fun G9 k9=>?_;simp only[vX,Zu,zzB,if_false];have kk:=(k7.trans k8).trans k9;have gr9:=k0 kk gr6;have D9:=bR kk D6
 clear k7 k8 k9 kk gr6 D6 k6 gr5 D5
 refine qP (yR ?_)
 erw[i0]
 refine ⟨⟨by decide,by decide⟩,?_⟩;refine ⟨fun i σ G'=>∃ v5 v6 v7 v8:Option W,σ=[some s0,some (.ref d),some (.ref r),some (wY web),some (.str X),v5,v6,v7,v8]/\G' r=some (sW xs)/\yA G' d l,⟨none,none,none,none,rfl,gr9,D9⟩,fun _ _ _ _ _=>trivial,?_,?_⟩
 .rintro i w σ GA hw ⟨v5,v6,v7,v8,rfl,grA,DA⟩;refine yR ?_
  erw[e16]
  refine ⟨d,l,r,X,xs,rfl,DA,nr,grA,by omega,nm,fun y GB yl kB DB=>?_⟩;have grB:=kB _ _ nr grA;refine yR ?_
  erw[e19]
  refine ⟨y,rfl,yl,fun GC kC=>?_⟩
  have rest:∀ {D':End3},(∀ σ G',(∃ v5 v6 v7 v8:Option W,σ=[some s0,some (.ref d),some (.ref r),some (wY web),some (.str X),v5,v6,v7,v8]/\G' r=some (sW xs)/\yA G' d l)->D'.nx σ G')->∀ v8:Option W,
    zC (yX K CQ n) XN (qD (qD (qD (forB (hdS (qD (qD (qD (qD (qD blaw))))))))) ) D' [some s0,some (.ref d),some (.ref r),some (wY web),some (.str X),some w,some (.str y),some (opW (rdX y)),v8] GC:=by
   intro D' hD v8;simp only[blaw,qD,forB,hdS];refine yR ?_
   erw[e24]
   refine .inr ⟨y,rfl,yl,fun GD kD=>?_⟩;have kk:=kC.trans kD;have grD:=k0 kk grB;have DD:=bR kk DB;refine yR ?_
   cases hy:rdX y with
   |none =>
    erw[opW,yI,isR,zzB,if_false,if_true]
    exact qP (hD _ _ ⟨_,_,_,_,rfl,grD,DD⟩)
   |some web' =>
    have e':opW (some web')=.tup (web'.map Wd.w):=rfl;rw[e']
    erw[yI,isR,e25,zzB,if_false,if_true]
    refine ⟨web',rfl,zi6 hy yl,fun GE kE=>?_⟩;simp only[vX,Zu,zzB,if_false];exact qP (hD _ _ ⟨_,_,_,_,rfl,k0 kE grD,bR kE DD⟩)
  simp only[blaw,qD,forB,hdS] at rest;refine yR ?_
  erw[yI,vO]
  by_cases hy:y = ""
  .rw[beq_iff_eq.mpr hy,if_pos rfl];refine yR ?_
   erw[Zo,z0,true_and]
   have e0:opW (rdX y)=.tup []:=by rw[rdX,if_pos hy];rfl
   rw[e0] at rest;exact qP (rest (fun _ _ z=>z) _)
  .rw[beq_eq_false_iff_ne.mpr hy,if_neg zzN];have e0:opW (rdX y)=opW (rdW (Txt.split y "\n")):=by rw[rdX,if_neg hy]
   rw[e0] at rest;exact qP (rest (fun _ _ z=>z) _)
 .rintro σ GA ⟨v5,v6,v7,v8,rfl,grA,DA⟩
  clear gr9 D9 grA DA
  refine yR ?_
  erw[e24,zzC,zzL,zzA,Nat.reduceAdd,z1,z5,true_and]
  intro q hq;have gq:(put GA q (.lst [.str X])) q=some (.lst [.str X]):=zW;generalize put GA q (.lst [.str X])=GB at gq ⊢;refine zfa (pX [.non,.int 5,.bl true,.ref q,.tup [.str X]] id (fun _=>.non) rfl (by simp) (fun _ _=>trivial) (fun w hw G' κ kp hκ=>?_) fun G' p kp hp=>?_)
  .simp only[qT,Zf,Zo,List.replicate,zzV,Zw,Z9,id]
   erw[if_true]
   refine .inl ⟨w,rfl,?_,fun G'' k''=>hκ _ (kp.trans k'')⟩;simp only[Zp,ZL,or_false] at hw;rcases hw with rfl|rfl|rfl|rfl|rfl
   .exact ⟨"NoneType", by simp,rfl⟩
   .exact ⟨"int", by simp,rfl⟩
   .exact ⟨"bool", by simp,rfl⟩
   .exact ⟨"list", by simp,by simp only[tyO,k0 kp gq]⟩
   .exact ⟨"tuple", by simp,rfl⟩
  .have gP:put G' p (.lst (List.map (fun _=>W.non) [W.non,W.int 5,W.bl true,W.ref q,W.tup [W.str X]])) p=some (.lst (List.replicate 5 .non)):=zW;generalize put G' p (.lst (List.map (fun _=>W.non) [W.non,W.int 5,W.bl true,W.ref q,W.tup [W.str X]]))=GP at gP ⊢;intro p2 hp2;have g1:=tG (u:=.lst [.non]) hp2 gP;simp only[wK,zW];refine ⟨⟨by decide,by decide,z5⟩,fun p3 hp3=>?_⟩;have g2:=tG (u:=.lst (List.replicate (Int.toNat 5) [W.non]).flatten) hp3 g1;simp only[yI];rw[eqL (a:=List.replicate 5 .non) g2 zW rfl (by decide) (by simp[jU,jB,List.replicate])];simp only[Zu,zzB,if_false];refine qP (yR ?_)
   erw[e27,e23,e25,Zo,z0,true_and]
   refine ⟨[],rfl,by simp,(fun v hv=>nomatch hv),fun GC kC=>?_⟩;rw[web0];simp only[yI,vO,beq_self_eq_true,if_true];refine .inr ⟨"", rfl,by decide +kernel,fun GD kD=>?_⟩;have e0:rdX "" = some []:=if_pos rfl;rw[e0];simp only[Zo,z0,true_and];have:=zgl (G:=GD) [];simp only[wY,zzV] at this;simp only[Option.map_some,wY,zzV,this,if_true];exact rb fun GE kE=>sm fun GF kF=>h GF
end
structure Txt (K:yS) (mg:Str->Option Value) (CQ:Nat->Addr) (oA T0:Addr):Prop where
 deal:∃ f,mg "_law_deal" = some (.ref f)/\HD K "_law_deal" "_law_deal" jV .none f
 draw:∃ f,mg "_law_draw" = some (.ref f)/\HD K "_law_draw" "_law_draw" jW .none f
 names:∃ f,mg "_law_names" = some (.ref f)/\HD K "_law_names" "_law_names" wS .none f
 chg:∃ f,mg "_law_changed" = some (.ref f)/\HD K "_law_changed" "_law_changed" xK .none f
 txt:∃ f,mg "_law_text" = some (.ref f)/\HD K "_law_text" "_law_text" jZ .none f
 web:∃ f,mg "_law_web" = some (.ref f)/\HD K "_law_web" "_law_web" jH .none f
 ow:∃ f,mg "_law_other_words" = some (.ref f)/\HD K "_law_other_words" "_law_other_words" yL .none f
 ot:∃ f,mg "_law_other_text" = some (.ref f)/\HD K "_law_other_text" "_law_other_text" yF .none f
 ni:∃ f,mg "_law_name_is" = some (.ref f)/\HD K "_law_name_is" "_law_name_is" xL .none f
 nu:∃ f,mg "_law_number_is" = some (.ref f)/\HD K "_law_number_is" "_law_number_is" yB .none f
 due:∃ f,mg "_law_due" = some (.ref f)/\HD K "_law_due" "_law_due" jG .none f
 isn:∃ f,mg "is_name" = some (.ref f)/\HD K "is_name" "is_name" qL .none f
 rn:∃ f,mg "read_number" = some (.ref f)/\HD K "read_number" "read_number" xD .none f
 rr:∃ f,mg "read_world" = some (.ref f)/\HD K "read_world" "read_world" wU .none f
 rb:∃ f,mg "read_web" = some (.ref f)/\HD K "read_web" "read_web" jI .none f
 rd:∃ f,mg "_law_read" = some (.ref f)/\HD K "_law_read" "_law_read" jX .none f
 same:∃ f,mg "_law_same" = some (.ref f)/\HD K "_law_same" "_law_same" jY .none f
 sr:∃ f,mg "show_world" = some (.ref f)/\HD K "show_world" "show_world" wV .none f
 sb:∃ f,mg "show_web" = some (.ref f)/\HD K "show_web" "show_web" jJ .none f
 max:mg "max" = none
 len:mg "len" = none
 all:mg "all" = none
 list:mg "list" = none
 isi:mg "isinstance" = none
 srt:mg "sorted" = none
 tup:mg "tuple" = none
 int:mg "int" = none
 str:mg "str" = none
 range:mg "range" = none
 rev:mg "reversed" = none
 enu:mg "enumerate" = none
 bool:mg "bool" = none
 mgLo:∃ t,mg "LONGEST_NAME" = some (.int 6 t)
 mgMo:∃ t,mg "MOST_FIGURES" = some (.int 3 t)
 mgN:mg "NO_NAMES" = some (.ref oA)
 rpN:∀ H,wO K H (.tup (sQ.map .str)) (.ref oA)
 qc:Cl K CQ
 mgE:mg "TalkError" = some (.ref T0)
 tr:∃ ini,XM K T0 ini
 sub:bG K (CQ 0) T0
 x0:XM K (CQ 0) (.builtin "ValueError.__init__")
 m0:mg "NoText" = some (.ref (CQ 0))
 m1:mg "NoBook" = some (.ref (CQ 1))
 m2:mg "NotLet" = some (.ref (CQ 2))
 m3:mg "NoMove" = some (.ref (CQ 3))
 m4:mg "NoPlan" = some (.ref (CQ 4))
 m5:mg "NoTalker" = some (.ref (CQ 5))
 m6:mg "NoPaper" = some (.ref (CQ 6))
 m7:mg "NoWeb" = some (.ref (CQ 7))
 m8:mg "NoRow" = some (.ref (CQ 8))
 m9:mg "NoName" = some (.ref (CQ 9))
def rk (n:Nat):Nat:=2 * n+4
section
variable {q:Pr} {CQ:Nat->Addr} {oA T0:Addr}
def Pn (q:Pr) (CQ:Nat->Addr) (n:Nat):Prop:=∀ A,Room (rk n) A->∀ f∈(fnL q.K CQ).take n,qF (q.at A) f
theorem goodL (T:Txt q.K q.mg CQ oA T0) {l:List Fn3} {A:Around} (hu:A.units+200<cLine) (h:∀ f∈l,qF (q.at A) f):L3.Good (GamL CQ l) (q.at A) :=
 zhI (Γ:=GamL CQ l) hu h
  (zY (wN T.mgLo.choose_spec (v:=.int 6) ⟨_,rfl⟩ fun _=>rfl) (zY (wN T.mgN (v:=.ref oA) rfl T.rpN) (zY (wN T.mgMo.choose_spec (v:=.int 3) ⟨_,rfl⟩ fun _=>rfl) (zY (zaJ T.bool (by decide +kernel)) (zY (zaJ T.str (by decide +kernel)) (zY (zaJ T.tup (by decide +kernel)) (zY (wN T.m0 (v:=.ref _) rfl fun _=>rfl) (zY (wN T.m1 (v:=.ref _) rfl fun _=>rfl) (zY (wN T.m2 (v:=.ref _) rfl fun _=>rfl) (zY (wN T.m3 (v:=.ref _) rfl fun _=>rfl) (zY (wN T.m4 (v:=.ref _) rfl fun _=>rfl) (zY (wN T.m5 (v:=.ref _) rfl fun _=>rfl) (zY (wN T.m6 (v:=.ref _) rfl fun _=>rfl) (zY (wN T.m7 (v:=.ref _) rfl fun _=>rfl) (zY (wN T.m8 (v:=.ref _) rfl fun _=>rfl) (zY (wN T.m9 (v:=.ref _) rfl fun _=>rfl) yJ))))))))))))))))
  (zY zhT (zY zft (zY zh0 (zY zdC (zY (zhZ hu) (zY (zhY hu) yJ))))))
  (zY (zhR T.range) (zY (zkt T.enu) yJ))
  yJ
  (zY (zhS T.list T.rev) (zY ⟨sx_rv,zex⟩ (zY ⟨sx_em,zfw⟩ (zY ⟨sx_tr T.tup T.rev,za1⟩ (zY ⟨ziI,zdq⟩ yJ))))) rfl
theorem zeb {k:Nat} {A:Around} (hr:Room k A):A.units+200<cLine:=by have:=hr.un;omega
theorem good (T:Txt q.K q.mg CQ oA T0) {n:Nat} (h:Pn q CQ n):∀ A,Room (rk n) A->L3.Good (yX q.K CQ n) (q.at A):=fun A hr=>goodL T (zeb hr) (h A hr)
theorem next {n:Nat} {e:Fn3} (h:Pn q CQ n) (hk:rk n<=rk (n+1)) (he:(fnL q.K CQ).take (n+1)=(fnL q.K CQ).take n++[e]) (hx:∀ A,Room (rk (n+1)) A->qF (q.at A) e):Pn q CQ (n+1):=fun A hr=>by
 rw[he];exact zaK (h A (hr.mono hk)) (hx A hr)
theorem p9 (T:Txt q.K q.mg CQ oA T0):Pn q CQ 9:=fun A hr=>zY (zhU T.max) (zY (zhW T.len) (zY (zh1 T.all) (zY (zhV T.list) (zY (zhX T.isi) (zY (zfs T.srt) (zY (zhP T.tup) (zY (zfu T.int) (zY (zhQ T.str) yJ))))))))
theorem more {n:Nat} {nm qual:Str} {st:Stmt} {f:Addr} {M:MC} {ps:List Str} {sp:nQ} {body:ISs} (T:Txt q.K q.mg CQ oA T0) (h:Pn q CQ n) (hk:rk n+1<=rk (n+1)) (hm:q.mg nm=some (.ref f)) (hd:HD q.K nm qual st .none f) (S:FnScope M.N ps (zX st)) (eM:MOk (yX q.K CQ n) M (zX st)) (look:sZ body M (zI st)=true)
  (len:∀ ws G Q,sp ws G Q XN->ws.length=ps.length) (hb:∀ ws G Q,sp ws G Q XN->zC (yX q.K CQ n) XN body { nx:=fun _ G'=>Q .non G',rt:=Q } (yG M.N ws) G) (mono:zd3 ⟨nm,sp⟩)
  (hbind:∀ (kV doc pm:Value) (an:Option Addr) (cdv ct:Value) (us:List Value),us.length=ps.length->bindArgs (fnOf nm qual (yP st) (zI st) (zX st) .none kV doc pm an cdv ct) ⟨us,[]⟩=pure (ps.zip us))
  (he:(fnL q.K CQ).take (n+1)=(fnL q.K CQ).take n++[⟨nm,sp⟩]):Pn q CQ (n+1):=by
 obtain ⟨fd,F,_⟩:=hd.fd;have FO:=zdI F S (good T h) eM look len hb;exact next h (by omega) he fun A hr=>zdE FO hm F.kp (uN F hbind) mono hr hk
theorem usS {P:List Value->Prop} {n:Nat} (h:∀ a l,l.length=n->P (a::l)) (us:List Value) (e:us.length=n+1):P us:=by
 cases us with
 |nil=>exact absurd e (Nat.succ_ne_zero n).symm
 |cons a l=>exact h a l (Nat.succ.inj e)
theorem us0 {P:List Value->Prop} (h:P []) (us:List Value) (e:us.length=0):P us:=by
 cases us with
 |nil=>exact h
 |cons a l=>exact absurd e (Nat.succ_ne_zero _)
theorem us1 {P:List Value->Prop} (h:∀ a0,P [a0]):∀ us:List Value,us.length=1->P us:=usS (P:=fun l=>P (l)) (fun a0=>us0 (P:=fun l=>P (a0::l)) (h a0))
theorem us2 {P:List Value->Prop} (h:∀ a0 a1,P [a0,a1]):∀ us:List Value,us.length=2->P us:=usS (P:=fun l=>P (l)) (fun a0=>usS (P:=fun l=>P (a0::l)) (fun a1=>us0 (P:=fun l=>P (a0::a1::l)) (h a0 a1)))
theorem us3 {P:List Value->Prop} (h:∀ a0 a1 a2,P [a0,a1,a2]):∀ us:List Value,us.length=3->P us:=usS (P:=fun l=>P (l)) (fun a0=>usS (P:=fun l=>P (a0::l)) (fun a1=>usS (P:=fun l=>P (a0::a1::l)) (fun a2=>us0 (P:=fun l=>P (a0::a1::a2::l)) (h a0 a1 a2))))
theorem p10 (T:Txt q.K q.mg CQ oA T0):Pn q CQ 10:=by
 obtain ⟨f,hm,hd⟩:=T.deal
 exact more (sp:=zct) (M:=gF) T (p9 T) (by decide) hm hd zaw ⟨rfl,rfl,rfl,rfl,rfl,rfl,rfl,rfl⟩ dU
  (fun ws G Q h=>by obtain ⟨a,b,ns,rfl,_⟩:=h;rfl) (fun ws G Q ⟨a,b,ns,e,h1,h2,h3,h4⟩=>by subst e;exact zfB rfl rfl h1 h2 h3 h4) (zar) (fun _ _ _ _ _ _=>us2 (fun _ _=>rfl)) rfl
theorem p11 (T:Txt q.K q.mg CQ oA T0):Pn q CQ 11:=by
 obtain ⟨f,hm,hd⟩:=T.draw
 exact more (sp:=zcs) (M:=gG) T (p10 T) (by decide) hm hd zav ⟨rfl,rfl,rfl,rfl,rfl,rfl,rfl,rfl⟩ dW
  (fun ws G Q h=>by obtain ⟨a,b,m,rfl,_⟩:=h;rfl) (fun ws G Q ⟨a,b,m,e,h1,h2,h3⟩=>by subst e;exact zfy rfl rfl h1 h2 h3) (zaq) (fun _ _ _ _ _ _=>us2 (fun _ _=>rfl)) rfl
theorem p12 (T:Txt q.K q.mg CQ oA T0):Pn q CQ 12:=by
 obtain ⟨f,hm,hd⟩:=T.names
 exact more (sp:=nP) (M:=pJ) T (p11 T) (by decide) hm hd zad ⟨rfl,rfl,rfl,rfl,rfl,rfl,rfl,rfl⟩ gA
  (fun ws G Q h=>by obtain ⟨d,l,m,rfl,_⟩:=h;rfl) (fun ws G Q h=>zcX (by decide) h) (fun ws G Q Q' E k hh=>by
   obtain ⟨d,l,m,h1,h2,h3,h4,h⟩:=hh;exact ⟨d,l,m,h1,h2,h3,h4,fun u0 u1 G' y0 y1 y2 y3 y4=>k _ _ (h u0 u1 G' y0 y1 y2 y3 y4)⟩) (fun _ _ _ _ _ _=>us2 (fun _ _=>rfl)) rfl
theorem p13 (T:Txt q.K q.mg CQ oA T0):Pn q CQ 13:=by
 obtain ⟨f,hm,hd⟩:=T.chg
 exact more (sp:=zem) (M:=tQ) T (p12 T) (by decide) hm hd hJ ⟨rfl,rfl,rfl,rfl,rfl,rfl,rfl,rfl⟩ pY
  (fun ws G Q h=>by obtain ⟨d,l,r,xs,web,rfl,_⟩:=h;rfl) (fun ws G Q h=>zif (by decide) h) (fun ws G Q Q' E k hh=>by
   obtain ⟨d,l,r,xs,web,h1,h2,h3,h4,h5,h6,h⟩:=hh;exact ⟨d,l,r,xs,web,h1,h2,h3,h4,h5,h6,fun u0 G' y0 y1 y2=>k _ _ (h u0 G' y0 y1 y2)⟩) (fun _ _ _ _ _ _=>us3 (fun _ _ _=>rfl)) rfl
theorem p14 (T:Txt q.K q.mg CQ oA T0):Pn q CQ 14:=by
 obtain ⟨f,hm,hd⟩:=T.txt
 exact more (sp:=vW) (M:=gJ) T (p13 T) (by decide) hm hd zas ⟨rfl,rfl,rfl,rfl,rfl,rfl,rfl,rfl⟩ dZ
  (fun ws G Q h=>by obtain ⟨web,rfl,_⟩:=h;rfl) (fun ws G Q h=>zeh (by decide) h) (fun ws G Q Q' E k hh=>by
   obtain ⟨web,h1,h2,h3,h⟩:=hh;exact ⟨web,h1,h2,h3,fun G' y=>k _ _ (h G' y)⟩) (fun _ _ _ _ _ _=>us1 (fun _=>rfl)) rfl
theorem p15 (T:Txt q.K q.mg CQ oA T0):Pn q CQ 15:=by
 obtain ⟨f,hm,hd⟩:=T.web
 exact more (sp:=zek) (M:=cL) T (p14 T) (by decide) hm hd zbL ⟨rfl,rfl,rfl,rfl,rfl,rfl,rfl,rfl⟩ zai
  (fun ws G Q h=>by obtain ⟨d,l,r,m,xs,rfl,_⟩:=h;rfl) (fun ws G Q h=>zgy (by decide) h) (fun ws G Q Q' E k hh=>by
   obtain ⟨d,l,r,m,xs,h1,h2,h3,h4,h5,h6,h7,h⟩:=hh;exact ⟨d,l,r,m,xs,h1,h2,h3,h4,h5,h6,h7,fun u0 G' y0 y1 y2=>k _ _ (h u0 G' y0 y1 y2)⟩) (fun _ _ _ _ _ _=>us3 (fun _ _ _=>rfl)) rfl
theorem p16 (T:Txt q.K q.mg CQ oA T0):Pn q CQ 16:=by
 obtain ⟨f,hm,hd⟩:=T.ow
 exact more (sp:=spOw) (M:=qA) T (p15 T) (by decide) hm hd tI ⟨rfl,rfl,rfl,rfl,rfl,rfl,rfl,rfl⟩ uT
  (fun ws G Q h=>by obtain ⟨d,l,p,r,us,xs,rfl,_⟩:=h;rfl) (fun ws G Q h=>zjv (by decide) h) (fun ws G Q Q' E k hh=>by
   obtain ⟨d,l,p,r,us,xs,h1,h2,h3,h4,h5,h6,h7,h8,h9,h⟩:=hh;exact ⟨d,l,p,r,us,xs,h1,h2,h3,h4,h5,h6,h7,h8,h9,fun u0 u1 G' y0 y1 y2 y3 y4=>k _ _ (h u0 u1 G' y0 y1 y2 y3 y4)⟩) (fun _ _ _ _ _ _=>us3 (fun _ _ _=>rfl)) rfl
theorem p17 (T:Txt q.K q.mg CQ oA T0):Pn q CQ 17:=by
 obtain ⟨f,hm,hd⟩:=T.ot
 exact more (sp:=spOt) (M:=kH) T (p16 T) (by decide) hm hd sJ ⟨rfl,rfl,rfl,rfl,rfl,rfl,rfl,rfl⟩ tX
  (fun ws G Q h=>by obtain ⟨d,l,r,x,xs,rfl,_⟩:=h;rfl) (fun ws G Q h=>zjw (by decide) h) (fun ws G Q Q' E k hh=>by
   obtain ⟨d,l,r,x,xs,h1,h2,h3,h4,h5,h6,h⟩:=hh;exact ⟨d,l,r,x,xs,h1,h2,h3,h4,h5,h6,fun u0 G' y0 y1 y2=>k _ _ (h u0 G' y0 y1 y2)⟩) (fun _ _ _ _ _ _=>us3 (fun _ _ _=>rfl)) rfl
theorem p18 (T:Txt q.K q.mg CQ oA T0):Pn q CQ 18:=by
 obtain ⟨f,hm,hd⟩:=T.ni
 exact more (sp:=spNI) (M:=tT) T (p17 T) (by decide) hm hd hU ⟨rfl,rfl,rfl,rfl,rfl,rfl,rfl,rfl⟩ pZ
  (fun ws G Q h=>by obtain ⟨x,rfl,_⟩:=h;rfl) (fun ws G Q h=>zjK (by decide) h) (fun ws G Q Q' E k hh=>by
   obtain ⟨x,h1,h2,h⟩:=hh;exact ⟨x,h1,h2,fun G' y=>k _ _ (h G' y)⟩) (fun _ _ _ _ _ _=>us1 (fun _=>rfl)) rfl
theorem p19 (T:Txt q.K q.mg CQ oA T0):Pn q CQ 19:=by
 obtain ⟨f,hm,hd⟩:=T.nu
 exact more (sp:=spNu) (M:=vH) T (p18 T) (by decide) hm hd rN ⟨rfl,rfl,rfl,rfl,rfl,rfl,rfl,rfl⟩ sY
  (fun ws G Q h=>by obtain ⟨x,rfl,_⟩:=h;rfl) (fun ws G Q h=>zjF (by decide) h) (fun ws G Q Q' E k hh=>by
   obtain ⟨x,h1,h⟩:=hh;exact ⟨x,h1,fun G' y=>k _ _ (h G' y)⟩) (fun _ _ _ _ _ _=>us1 (fun _=>rfl)) rfl
theorem p20 (T:Txt q.K q.mg CQ oA T0):Pn q CQ 20:=by
 obtain ⟨f,hm,hd⟩:=T.due
 exact more (sp:=zel) (M:=cK) T (p19 T) (by decide) hm hd zbM ⟨rfl,rfl,rfl,rfl,rfl,rfl,rfl,rfl⟩ zaj
  (fun ws G Q h=>by obtain ⟨x,rfl,_⟩:=h;rfl) (fun ws G Q h=>zh6 (by decide) h) (fun ws G Q Q' E k hh=>by
   obtain ⟨x,h1,h2,h⟩:=hh;exact ⟨x,h1,h2,fun G' y=>k _ _ (h G' y)⟩) (fun _ _ _ _ _ _=>us1 (fun _=>rfl)) rfl
theorem p21 (T:Txt q.K q.mg CQ oA T0):Pn q CQ 21:=by
 obtain ⟨f,hm,hd⟩:=T.isn
 exact more (sp:=spNI) (M:=zbh) T (p20 T) (by decide) hm hd zcF ⟨rfl,rfl,rfl,rfl,rfl,rfl,rfl,rfl⟩ zaE
  (fun ws G Q h=>by obtain ⟨x,rfl,_⟩:=h;rfl) (fun ws G Q h=>zhv (by decide) T.qc h) (fun ws G Q Q' E k hh=>by
   obtain ⟨x,h1,h2,h⟩:=hh;exact ⟨x,h1,h2,fun G' y=>k _ _ (h G' y)⟩) (fun _ _ _ _ _ _=>us1 (fun _=>rfl)) rfl
theorem Rs.mono {o:Option W} {G:Hw} {Q Q':Q3} {E E':X3} (k:∀ w G',Q w G'->Q' w G') (k':∀ w G',E w G'->E' w G') (h:Rs CQ o G Q E):Rs CQ o G Q' E':=fun G' y=>by
 have:=h G' y
 cases o with
 |some w=>exact k _ _ this
 |none=>exact k' _ _ this
theorem sI:kO ⟨"read_number", sM CQ⟩:=fun ws G Q Q' E E' k k' hh=>by
 obtain ⟨x,h1,h2,h⟩:=hh;exact ⟨x,h1,h2,h.mono k k'⟩
theorem nO:kO ⟨"read_world", spRR CQ⟩:=fun ws G Q Q' E E' k k' hh=>by
 obtain ⟨n,x,h1,h2,h3,h⟩:=hh;exact ⟨n,x,h1,h2,h3,h.mono k k'⟩
theorem zay:kO ⟨"read_web", fE CQ⟩:=fun ws G Q Q' E E' k k' hh=>by
 rcases hh with ⟨w,h1,h2,h⟩|⟨x,h1,h2,h⟩
 .exact .inl ⟨w,h1,h2,h.mono k k'⟩
 .exact .inr ⟨x,h1,h2,h.mono k k'⟩
theorem zbq (T:Txt q.K q.mg CQ oA T0) {l:List Fx3} {A:Around} (hl:∀ f∈l,FxE (q.at A) f/\kO f):GoodX (qS CQ l T0) (q.at A) :=
 ⟨hl,zY (cl_0 T.x0 T.m0) yJ,zY ⟨T.mgE,T.tr,zY T.sub yJ⟩ yJ⟩
theorem rnE (T:Txt q.K q.mg CQ oA T0):∀ A,Room (rk 22) A->FxE (q.at A) ⟨"read_number", sM CQ⟩:=fun A hr=>by
 obtain ⟨f,hm,hd⟩:=T.rn;obtain ⟨fd,F,_⟩:=hd.fd;have FO:=zaN (k:=rk 21) (Γ:=yX q.K CQ 21) (Δ:=qS CQ [rV] T0) (M:=sG) (Z:=sO) (sp:=sM CQ) F fC (good T (p21 T)) (fun A hr=>zbq T (zY (zbr T.tup) yJ)) ⟨rfl,rfl,rfl,rfl,rfl,rfl,rfl,rfl⟩ ⟨rfl,rfl,rfl⟩ nX (fun ws G Q E h=>by obtain ⟨x,rfl,_⟩:=h;rfl) (fun ws G Q E h=>zi0 (by decide) h);exact zdo (nm := "read_number") FO hm F.kp (uN F fun _ _ _ _ _ _=>us2 fun _ _=>rfl) sI (hr.mono (by decide))
theorem p22 (T:Txt q.K q.mg CQ oA T0):Pn q CQ 22:=by
 exact next (p21 T) (by decide) rfl fun A hr=>zdD (rnE T A hr) sI
theorem rrE (T:Txt q.K q.mg CQ oA T0):∀ A,Room (rk 23) A->FxE (q.at A) ⟨"read_world", spRR CQ⟩:=fun A hr=>by
 obtain ⟨f,hm,hd⟩:=T.rr;obtain ⟨fd,F,_⟩:=hd.fd;have FO:=zaN (k:=rk 22) (Γ:=yX q.K CQ 22) (Δ:=qS CQ [rV,⟨"read_number", sM CQ⟩] T0) (M:=pK) (Z:=pQ) (sp:=spRR CQ) F zac (good T (p22 T)) (fun A hr=>zbq T (zY (zbr T.tup) (zY ⟨rnE T A (hr.mono (by decide)),sI⟩ yJ))) ⟨rfl,rfl,rfl,rfl,rfl,rfl,rfl,rfl⟩ ⟨rfl,rfl,rfl⟩ gB (fun ws G Q E h=>by obtain ⟨k,x,rfl,_⟩:=h;rfl) (fun ws G Q E h=>ziZ (by decide) h);exact zdo (nm := "read_world") FO hm F.kp (uN F fun _ _ _ _ _ _=>us2 fun _ _=>rfl) nO (hr.mono (by decide))
theorem p23 (T:Txt q.K q.mg CQ oA T0):Pn q CQ 23:=by
 exact next (p22 T) (by decide) rfl fun A hr=>zdD (rrE T A hr) nO
theorem rbE (T:Txt q.K q.mg CQ oA T0):∀ A,Room (rk 24) A->FxE (q.at A) ⟨"read_web", fE CQ⟩:=fun A hr=>by
 obtain ⟨f,hm,hd⟩:=T.rb;obtain ⟨fd,F,_⟩:=hd.fd;have FO:=zaN (k:=rk 23) (Γ:=yX q.K CQ 23) (Δ:=qS CQ [rV,⟨"read_number", sM CQ⟩,⟨"read_world", spRR CQ⟩] T0) (M:=cO) (Z:=dJ) (sp:=fE CQ) F zbK (good T (p23 T)) (fun A hr=>zbq T (zY (zbr T.tup) (zY ⟨rnE T A (hr.mono (by decide)),sI⟩ (zY ⟨rrE T A (hr.mono (by decide)),nO⟩ yJ)))) ⟨rfl,rfl,rfl,rfl,rfl,rfl,rfl,rfl⟩ ⟨rfl,rfl,rfl⟩ zah (fun ws G Q E h=>by rcases h with ⟨w,rfl,_⟩|⟨x,rfl,_⟩<;>rfl) (fun ws G Q E h=>zi9 (by decide) T.qc h);exact zdo (nm := "read_web") FO hm F.kp (uN F fun _ _ _ _ _ _=>us1 fun _=>rfl) zay (hr.mono (by decide))
theorem p24 (T:Txt q.K q.mg CQ oA T0):Pn q CQ 24:=by
 exact next (p23 T) (by decide) rfl fun A hr=>zdD (rbE T A hr) zay
theorem p25 (T:Txt q.K q.mg CQ oA T0):Pn q CQ 25:=by
 obtain ⟨f,hm,hd⟩:=T.rd;obtain ⟨fd,F,_⟩:=hd.fd;have FO:=zh8 (k:=rk 24) (Γ:=yX q.K CQ 24) (Δ:=qS CQ (fx3 CQ) T0) (M:=gH) (Z:=nB) (sp:=za4) F zau (good T (p24 T)) (fun A hr=>zbq T (zY (zbr T.tup) (zY ⟨rnE T A (hr.mono (by decide)),sI⟩ (zY ⟨rrE T A (hr.mono (by decide)),nO⟩ (zY ⟨rbE T A (hr.mono (by decide)),zay⟩ yJ))))) ⟨rfl,rfl,rfl,rfl,rfl,rfl,rfl,rfl⟩ ⟨rfl,rfl,rfl⟩ dX (fun ws G Q h=>by rcases h with ⟨w,rfl,_⟩|⟨x,rfl,_⟩<;>rfl) (fun ws G Q h=>zeA (by decide) T.qc h)
 exact next (p24 T) (by decide) rfl fun A hr=>zdE FO hm F.kp (uN F fun _ _ _ _ _ _=>us1 fun _=>rfl) (fun ws G Q Q' E k hh=>by
   rcases hh with ⟨w,h1,h2,h⟩|⟨x,h1,h2,h⟩
   .exact .inl ⟨w,h1,h2,fun G' a=>k _ _ (h G' a)⟩
   .exact .inr ⟨x,h1,h2,fun G' a=>k _ _ (h G' a)⟩) hr (by decide)
theorem p26 (T:Txt q.K q.mg CQ oA T0):Pn q CQ 26:=by
 obtain ⟨f,hm,hd⟩:=T.same
 exact more (sp:=mL) (M:=gI) T (p25 T) (by decide) hm hd zat ⟨rfl,rfl,rfl,rfl,rfl,rfl,rfl,rfl⟩ dY
  (fun ws G Q h=>by obtain ⟨web,rfl,_⟩:=h;rfl) (fun ws G Q h=>zet (by decide) T.qc h) (fun ws G Q Q' E k hh=>by
   obtain ⟨web,h1,h2,h⟩:=hh;exact ⟨web,h1,h2,fun G' y=>k _ _ (h G' y)⟩) (fun _ _ _ _ _ _=>us2 (fun _ _=>rfl)) rfl
theorem p27 (T:Txt q.K q.mg CQ oA T0):Pn q CQ 27:=by
 obtain ⟨f,hm,hd⟩:=T.sr
 exact more (sp:=spSr) (M:=pL) T (p26 T) (by decide) hm hd zab ⟨rfl,rfl,rfl,rfl,rfl,rfl,rfl,rfl⟩ gC
  (fun ws G Q h=>by obtain ⟨k,v,rfl,_⟩:=h;rfl) (fun ws G Q h=>ziJ (by decide) h) (fun ws G Q Q' E k hh=>by
   obtain ⟨n,v,h1,h2,h3,h⟩:=hh;exact ⟨n,v,h1,h2,h3,fun G' y=>k _ _ (h G' y)⟩) (fun _ _ _ _ _ _=>us2 (fun _ _=>rfl)) rfl
theorem p28 (T:Txt q.K q.mg CQ oA T0):Pn q CQ 28:=by
 obtain ⟨f,hm,hd⟩:=T.sb
 exact more (sp:=vW) (M:=cP) T (p27 T) (by decide) hm hd zbJ ⟨rfl,rfl,rfl,rfl,rfl,rfl,rfl,rfl⟩ zag
  (fun ws G Q h=>by obtain ⟨web,rfl,_⟩:=h;rfl) (fun ws G Q h=>ziP (by decide) h) (fun ws G Q Q' E k hh=>by
   obtain ⟨web,h1,h2,h3,h⟩:=hh;exact ⟨web,h1,h2,h3,fun G' y=>k _ _ (h G' y)⟩) (fun _ _ _ _ _ _=>us1 (fun _=>rfl)) rfl
theorem zhs:(zX slaw).names.lookup ("_law_script" : Str)=some .local:=by decide +kernel
theorem zjV {P:Program} {w:World} {K:yS} {mg:Str->Option Value} (T:Txt K mg CQ oA T0) {f:Addr} (hd:HD K "law" "law" slaw .none f):∃ fd:FuncData,(∀ (s:Shared) (u:Value),BindsTo s fd ⟨[u],[]⟩ [("_law_script", u)])/\fd.scope.names.lookup ("_law_script" : Str)=some .local/\∀ base:Heap,FnOk P w K mg base CX0 61 f fd ["_law_script"] (tP K dA):=by
 obtain ⟨fd,F,kV,doc,pm,an,cdv,ct,e⟩:=hd.fd;refine ⟨fd,fun s u=>by subst e;exact .of_eq rfl,by subst e;exact zhs,fun base=>zdI (q:=⟨P,w,K,mg,base⟩) (k:=60) (sp:=dA) (M:=mlaw) F sclaw (good (q:=⟨P,w,K,mg,base⟩) T (p28 T)) ⟨rfl,rfl,rfl,rfl,rfl,rfl,rfl,rfl⟩ zho (fun ws G Q h=>by obtain ⟨a,ns,rfl,_⟩:=h;rfl) fun ws G Q h=>?_⟩;obtain ⟨a,ns,rfl,hs,hl,h⟩:=h;exact zhr (by decide) hs hl h
end
structure Kc (K:yS) (T C:Addr) (ini:Value):Prop where
 cls:∃ (nm qn:Str) (N:Addr) (bs:List Value) (sn:List Str) (sub:List Value) (ab:Bool) (col:Option Bool) (dd:Option Addr) (k0 k1 k2 k3 k5:Option Value),
  K.lookup C=some (excClassObj nm qn C N bs [.ref T,.type "ValueError", .type "Exception", .type "BaseException", .type "object"] true sn sub ab col dd k0 k1 k2 k3 k5 "ValueError.__new__")
 ga:findIn K (.ref C) "__getattribute__" = some (some (.builtin "BaseException.__getattribute__"))
 gt:findIn K (.ref C) "__getattr__" = some none
 ca:findIn K (.ref C) "__class__" = some (some (.builtin "object.__class__"))
 ini:findIn K (.ref C) "__init__" = some (some ini)
 kp:keepIn K (.ref C)=true
theorem Kc.mk' {K:yS} {T C N:Addr} {ini:Value} {nm qn:Str} {bs:List Value} {sn:List Str} {sub:List Value} {ab:Bool} {col:Option Bool} {dd:Option Addr} {k0 k1 k2 k3 k5:Option Value}
  (l:K.lookup C=some (excClassObj nm qn C N bs [.ref T,.type "ValueError", .type "Exception", .type "BaseException", .type "object"] true sn sub ab col dd k0 k1 k2 k3 k5 "ValueError.__new__"))
  (ga:findIn K (.ref C) "__getattribute__" = some (some (.builtin "BaseException.__getattribute__"))) (gt:findIn K (.ref C) "__getattr__" = some none) (ca:findIn K (.ref C) "__class__" = some (some (.builtin "object.__class__")))
  (ini':findIn K (.ref C) "__init__" = some (some ini)) (kp:keepIn K (.ref C)=true):Kc K T C ini:=⟨⟨nm,qn,N,bs,sn,sub,ab,col,dd,k0,k1,k2,k3,k5,l⟩,ga,gt,ca,ini',kp⟩
section
variable {K:yS} {T C:Addr} {ini:Value}
theorem Kc.cd (k:Kc K T C ini):∃ cd,PySem.W.clsIn K C=some cd/\cd.hasDict=true/\cd.mro=[.ref C,.ref T,.type "ValueError", .type "Exception", .type "BaseException", .type "object"]:=by
 obtain ⟨nm,qn,N,bs,sn,sub,ab,col,dd,k0,k1,k2,k3,k5,l⟩:=k.cls;exact ⟨_,by unfold PySem.W.clsIn;rw[l],rfl,rfl⟩
theorem Kc.ty (k:Kc K T C ini):PySem.W.typeIn K (.ref C)=some (.type "type"):=by
 obtain ⟨nm,qn,N,bs,sn,sub,ab,col,dd,k0,k1,k2,k3,k5,l⟩:=k.cls;show (K.lookup C).map (·.cls)=_;rw[l];rfl
theorem Kc.mro (k:Kc K T C ini) (v:Value):PySem.W.mroIn K C v=some (([.ref C,.ref T,.type "ValueError", .type "Exception", .type "BaseException", .type "object"]:List Value).contains v):=by
 obtain ⟨cd,e,_,m⟩:=k.cd;unfold PySem.W.mroIn;rw[e];show (if cd.mro.isEmpty=true then none else some (cd.mro.contains v))=_;rw[m];rfl
theorem zce {x:String} (C T:Addr) (h:(["ValueError", "Exception", "BaseException", "object"]:List String).contains x=true):([.ref C,.ref T,.type "ValueError", .type "Exception", .type "BaseException", .type "object"]:List Value).contains (.type x)=true:=by
 rw[ZV] at h ⊢;simp only[Zp,ZL,or_false] at h ⊢;rcases h with rfl|rfl|rfl|rfl<;>simp
theorem zcd {x:String} (C T:Addr) (h:(["ValueError", "Exception", "BaseException", "object"]:List String).contains x=false):([.ref C,.ref T,.type "ValueError", .type "Exception", .type "BaseException", .type "object"]:List Value).contains (.type x)=false:=by
 rw[Zb0] at h ⊢;intro e;refine h ?_;rw[ZV] at e ⊢;simp only[Zp,ZL,or_false] at e ⊢;rcases e with e|e|e|e|e|e
 .cases e
 .cases e
 .exact .inl (ZbY e)
 .exact .inr (.inl (ZbY e))
 .exact .inr (.inr (.inl (ZbY e)))
 .exact .inr (.inr (.inr (ZbY e)))
theorem Kc.xc (k:Kc K T C ini):PySem.W.XC K C where
 cls:=by obtain ⟨cd,e,_⟩:=k.cd;rw[e];rfl
 ga:=k.ga
 gt:=k.gt
 sub:=(k.mro _).trans (by rw[zce C T (by decide)])
 cl:=k.ca
 mro:=(k.mro _).trans (by rw[zce C T (by decide)])
theorem Kc.xm (k:Kc K T C ini):XM K C ini where
 cls:=by
  obtain ⟨nm,qn,N,bs,sn,sub,ab,col,dd,k0,k1,k2,k3,k5,l⟩:=k.cls;exact ⟨nm,qn,N,bs,_,true,sn,sub,ab,col,dd,k0,k1,k2,k3,k5,l,zce C T (by decide),zcd C T (by decide),zcd C T (by decide),zce C T (by decide)⟩
 ini:=k.ini
 kp:=k.kp
theorem Kc.hd (k:Kc K T C ini):PySem.W.hasDictIn K C=true:=by
 obtain ⟨cd,e,h,m⟩:=k.cd;unfold PySem.W.hasDictIn;rw[e];exact h
theorem Kc.val (k:Kc K T C ini):PySem.W.kitOne K (.ref C) (.type "ValueError")=some true:=by
 unfold PySem.W.kitOne;rw[if_neg (fun z=>by cases beq_iff_eq.mp z)];unfold PySem.W.kitCls;dsimp only;rw[if_pos (by decide +kernel)];exact (k.mro _).trans (by rw[zce C T (by decide)])
theorem Kc.no {D:Addr} {cd:ClassData} (k:Kc K T C ini) (hc:PySem.W.clsIn K D=some cd) (ht:PySem.W.typeIn K (.ref D)=some (.type "type")) (hn:D≠C/\D≠T):PySem.W.kitOne K (.ref C) (.ref D)=some false:=by
 unfold PySem.W.kitOne;rw[if_neg (fun z=>hn.1 (Zb8 (beq_iff_eq.mp z)).symm)];unfold PySem.W.kitCls;dsimp only;rw[if_pos (by rw[hc,ht];rfl)];refine (k.mro _).trans ?_;congr 1;rw[Zb0];intro z;rw[ZV] at z;simp only[Zp,ZL,or_false] at z;rcases z with z|z|z|z|z|z
 .exact hn.1 (Zb8 z)
 .exact hn.2 (Zb8 z)
 .cases z
 .cases z
 .cases z
 .cases z
theorem zcc {x:String} (T:Addr) (h:(["ValueError", "Exception", "BaseException", "object"]:List String).contains x=false):([.ref T,.type "ValueError", .type "Exception", .type "BaseException", .type "object"]:List Value).contains (.type x)=false:=by
 have:=zcd T T h;rw[List.contains_cons] at this;exact (Bool.or_eq_false_iff.mp this).2
end
def cs (c0 c1 c2 c3 c4 c5 c6 c7 c8 c9:Addr):Nat->Addr
 | 0=>c0
 | 1=>c1
 | 2=>c2
 | 3=>c3
 | 4=>c4
 | 5=>c5
 | 6=>c6
 | 7=>c7
 | 8=>c8
 |_=>c9
theorem all_mk {l:PySem.W.OpenLaw} {w:World} {K:yS} {h:Heap} {mg:Str->Option Value} {fa oA T0 f1 f2 f3 f4 f5 f6 f7 f8 f9 f10 f11 f12 f13 f14 f15 f16 f17 f18 f19 f20:Addr} (X:K.In h) (G:h.Ns mainGlobals mg) (hfa:mg "law" = some (.ref fa))
  {od1 an1 od2 an2 od3 an3 od4 an4 od5 an5 od6 an6 od7 an7 od8 an8 od9 an9 od10 an10 od11 an11 od12 an12 od13 an13 od14 an14 od15 an15 od16 an16 od17 an17 od18 an18 od19 an19 od20 an20:Option Addr} {sl1 sl2 sl3 sl4 sl5 sl6 sl7 sl8 sl9 sl10 sl11 sl12 sl13 sl14 sl15 sl16 sl17 sl18 sl19 sl20:Array (Option Value)} {oc1 kV1 dc1 pm1 cd1 ct1 oc2 kV2 dc2 pm2 cd2 ct2 oc3 kV3 dc3 pm3 cd3 ct3 oc4 kV4 dc4 pm4 cd4 ct4 oc5 kV5 dc5 pm5 cd5 ct5 oc6 kV6 dc6 pm6 cd6 ct6 oc7 kV7 dc7 pm7 cd7 ct7 oc8 kV8 dc8 pm8 cd8 ct8 oc9 kV9 dc9 pm9 cd9 ct9 oc10 kV10 dc10 pm10 cd10 ct10 oc11 kV11 dc11 pm11 cd11 ct11 oc12 kV12 dc12 pm12 cd12 ct12 oc13 kV13 dc13 pm13 cd13 ct13 oc14 kV14 dc14 pm14 cd14 ct14 oc15 kV15 dc15 pm15 cd15 ct15 oc16 kV16 dc16 pm16 cd16 ct16 oc17 kV17 dc17 pm17 cd17 ct17 oc18 kV18 dc18 pm18 cd18 ct18 oc19 kV19 dc19 pm19 cd19 ct19 oc20 kV20 dc20 pm20 cd20 ct20:Value} {oN:Option Addr} {sN:Array (Option Value)} {nN:Nat} {tLo tMo vN0 vN1 vN2 vN3:Tok} {C0 C1 C2 C3 C4 C5 C6 C7 C8 C9 N7 NT:Addr} {nm7 qn7 nmT qnT:Str} {bs7 sub7 bsT subT:List Value} {sn7 snT:List Str} {ab7 abT:Bool} {col7 colT:Option Bool} {dd7 ddT:Option Addr} {ka7 kb7 kc7 kd7 ke7 kaT kbT kcT kdT keT:Option Value} {cz1 cz2 cz3 cz4 cz5 cz6 cz7 cz8 cz9:ClassData}
  (a1:nsIn K mainGlobals "_law_deal" = some (some (.ref f1))) (l1:K.lookup f1=some ⟨oc1,od1,.func (fnOf "_law_deal" "_law_deal" (yP jV) (zI jV) (zX jV) .none kV1 dc1 pm1 an1 cd1 ct1),sl1⟩) (c1:codeIn K cd1 "_law_deal" = true) (k1:keepIn K (.ref f1)=true)
  (a2:nsIn K mainGlobals "_law_draw" = some (some (.ref f2))) (l2:K.lookup f2=some ⟨oc2,od2,.func (fnOf "_law_draw" "_law_draw" (yP jW) (zI jW) (zX jW) .none kV2 dc2 pm2 an2 cd2 ct2),sl2⟩) (c2:codeIn K cd2 "_law_draw" = true) (k2:keepIn K (.ref f2)=true)
  (a3:nsIn K mainGlobals "_law_names" = some (some (.ref f3))) (l3:K.lookup f3=some ⟨oc3,od3,.func (fnOf "_law_names" "_law_names" (yP wS) (zI wS) (zX wS) .none kV3 dc3 pm3 an3 cd3 ct3),sl3⟩) (c3:codeIn K cd3 "_law_names" = true) (k3:keepIn K (.ref f3)=true)
  (a4:nsIn K mainGlobals "_law_changed" = some (some (.ref f4))) (l4:K.lookup f4=some ⟨oc4,od4,.func (fnOf "_law_changed" "_law_changed" (yP xK) (zI xK) (zX xK) .none kV4 dc4 pm4 an4 cd4 ct4),sl4⟩) (c4:codeIn K cd4 "_law_changed" = true) (k4:keepIn K (.ref f4)=true)
  (a5:nsIn K mainGlobals "_law_text" = some (some (.ref f5))) (l5:K.lookup f5=some ⟨oc5,od5,.func (fnOf "_law_text" "_law_text" (yP jZ) (zI jZ) (zX jZ) .none kV5 dc5 pm5 an5 cd5 ct5),sl5⟩) (c5:codeIn K cd5 "_law_text" = true) (k5:keepIn K (.ref f5)=true)
  (a6:nsIn K mainGlobals "_law_web" = some (some (.ref f6))) (l6:K.lookup f6=some ⟨oc6,od6,.func (fnOf "_law_web" "_law_web" (yP jH) (zI jH) (zX jH) .none kV6 dc6 pm6 an6 cd6 ct6),sl6⟩) (c6:codeIn K cd6 "_law_web" = true) (k6:keepIn K (.ref f6)=true)
  (a7:nsIn K mainGlobals "_law_other_words" = some (some (.ref f7))) (l7:K.lookup f7=some ⟨oc7,od7,.func (fnOf "_law_other_words" "_law_other_words" (yP yL) (zI yL) (zX yL) .none kV7 dc7 pm7 an7 cd7 ct7),sl7⟩) (c7:codeIn K cd7 "_law_other_words" = true) (k7:keepIn K (.ref f7)=true)
  (a8:nsIn K mainGlobals "_law_other_text" = some (some (.ref f8))) (l8:K.lookup f8=some ⟨oc8,od8,.func (fnOf "_law_other_text" "_law_other_text" (yP yF) (zI yF) (zX yF) .none kV8 dc8 pm8 an8 cd8 ct8),sl8⟩) (c8:codeIn K cd8 "_law_other_text" = true) (k8:keepIn K (.ref f8)=true)
  (a9:nsIn K mainGlobals "_law_name_is" = some (some (.ref f9))) (l9:K.lookup f9=some ⟨oc9,od9,.func (fnOf "_law_name_is" "_law_name_is" (yP xL) (zI xL) (zX xL) .none kV9 dc9 pm9 an9 cd9 ct9),sl9⟩) (c9:codeIn K cd9 "_law_name_is" = true) (k9:keepIn K (.ref f9)=true)
  (a10:nsIn K mainGlobals "_law_number_is" = some (some (.ref f10))) (l10:K.lookup f10=some ⟨oc10,od10,.func (fnOf "_law_number_is" "_law_number_is" (yP yB) (zI yB) (zX yB) .none kV10 dc10 pm10 an10 cd10 ct10),sl10⟩) (c10:codeIn K cd10 "_law_number_is" = true) (k10:keepIn K (.ref f10)=true)
  (a11:nsIn K mainGlobals "_law_due" = some (some (.ref f11))) (l11:K.lookup f11=some ⟨oc11,od11,.func (fnOf "_law_due" "_law_due" (yP jG) (zI jG) (zX jG) .none kV11 dc11 pm11 an11 cd11 ct11),sl11⟩) (c11:codeIn K cd11 "_law_due" = true) (k11:keepIn K (.ref f11)=true)
  (a12:nsIn K mainGlobals "is_name" = some (some (.ref f12))) (l12:K.lookup f12=some ⟨oc12,od12,.func (fnOf "is_name" "is_name" (yP qL) (zI qL) (zX qL) .none kV12 dc12 pm12 an12 cd12 ct12),sl12⟩) (c12:codeIn K cd12 "is_name" = true) (k12:keepIn K (.ref f12)=true)
  (a13:nsIn K mainGlobals "read_number" = some (some (.ref f13))) (l13:K.lookup f13=some ⟨oc13,od13,.func (fnOf "read_number" "read_number" (yP xD) (zI xD) (zX xD) .none kV13 dc13 pm13 an13 cd13 ct13),sl13⟩) (c13:codeIn K cd13 "read_number" = true) (k13:keepIn K (.ref f13)=true)
  (a14:nsIn K mainGlobals "read_world" = some (some (.ref f14))) (l14:K.lookup f14=some ⟨oc14,od14,.func (fnOf "read_world" "read_world" (yP wU) (zI wU) (zX wU) .none kV14 dc14 pm14 an14 cd14 ct14),sl14⟩) (c14:codeIn K cd14 "read_world" = true) (k14:keepIn K (.ref f14)=true)
  (a15:nsIn K mainGlobals "read_web" = some (some (.ref f15))) (l15:K.lookup f15=some ⟨oc15,od15,.func (fnOf "read_web" "read_web" (yP jI) (zI jI) (zX jI) .none kV15 dc15 pm15 an15 cd15 ct15),sl15⟩) (c15:codeIn K cd15 "read_web" = true) (k15:keepIn K (.ref f15)=true)
  (a16:nsIn K mainGlobals "_law_read" = some (some (.ref f16))) (l16:K.lookup f16=some ⟨oc16,od16,.func (fnOf "_law_read" "_law_read" (yP jX) (zI jX) (zX jX) .none kV16 dc16 pm16 an16 cd16 ct16),sl16⟩) (c16:codeIn K cd16 "_law_read" = true) (k16:keepIn K (.ref f16)=true)
  (a17:nsIn K mainGlobals "_law_same" = some (some (.ref f17))) (l17:K.lookup f17=some ⟨oc17,od17,.func (fnOf "_law_same" "_law_same" (yP jY) (zI jY) (zX jY) .none kV17 dc17 pm17 an17 cd17 ct17),sl17⟩) (c17:codeIn K cd17 "_law_same" = true) (k17:keepIn K (.ref f17)=true)
  (a18:nsIn K mainGlobals "show_world" = some (some (.ref f18))) (l18:K.lookup f18=some ⟨oc18,od18,.func (fnOf "show_world" "show_world" (yP wV) (zI wV) (zX wV) .none kV18 dc18 pm18 an18 cd18 ct18),sl18⟩) (c18:codeIn K cd18 "show_world" = true) (k18:keepIn K (.ref f18)=true)
  (a19:nsIn K mainGlobals "show_web" = some (some (.ref f19))) (l19:K.lookup f19=some ⟨oc19,od19,.func (fnOf "show_web" "show_web" (yP jJ) (zI jJ) (zX jJ) .none kV19 dc19 pm19 an19 cd19 ct19),sl19⟩) (c19:codeIn K cd19 "show_web" = true) (k19:keepIn K (.ref f19)=true)
  (a20:nsIn K mainGlobals "law" = some (some (.ref f20))) (l20:K.lookup f20=some ⟨oc20,od20,.func (fnOf "law" "law" (yP slaw) (zI slaw) (zX slaw) .none kV20 dc20 pm20 an20 cd20 ct20),sl20⟩) (c20:codeIn K cd20 "law" = true) (k20:keepIn K (.ref f20)=true)
  (z0:nsIn K mainGlobals "max" = some none)
  (z1:nsIn K mainGlobals "len" = some none)
  (z2:nsIn K mainGlobals "all" = some none)
  (z3:nsIn K mainGlobals "list" = some none)
  (z4:nsIn K mainGlobals "isinstance" = some none)
  (z5:nsIn K mainGlobals "sorted" = some none)
  (z6:nsIn K mainGlobals "tuple" = some none)
  (z7:nsIn K mainGlobals "int" = some none)
  (z8:nsIn K mainGlobals "str" = some none)
  (z9:nsIn K mainGlobals "range" = some none)
  (z10:nsIn K mainGlobals "reversed" = some none)
  (z11:nsIn K mainGlobals "enumerate" = some none)
  (z12:nsIn K mainGlobals "bool" = some none)
  (aLo:nsIn K mainGlobals "LONGEST_NAME" = some (some (.int 6 tLo)))
  (aMo:nsIn K mainGlobals "MOST_FIGURES" = some (some (.int 3 tMo)))
  (aN:nsIn K mainGlobals "NO_NAMES" = some (some (.ref oA)))
  (lN:K.lookup oA=some ⟨.type "tuple", oN,.seq #[.str "and" vN0,.str "or" vN1,.str "not" vN2,.str "then" vN3] nN,sN⟩)
  (A0:nsIn K mainGlobals "NoText" = some (some (.ref C0)))
  (A1:nsIn K mainGlobals "NoBook" = some (some (.ref C1)))
  (A2:nsIn K mainGlobals "NotLet" = some (some (.ref C2)))
  (A3:nsIn K mainGlobals "NoMove" = some (some (.ref C3)))
  (A4:nsIn K mainGlobals "NoPlan" = some (some (.ref C4)))
  (A5:nsIn K mainGlobals "NoTalker" = some (some (.ref C5)))
  (A6:nsIn K mainGlobals "NoPaper" = some (some (.ref C6)))
  (A7:nsIn K mainGlobals "NoWeb" = some (some (.ref C7)))
  (A8:nsIn K mainGlobals "NoRow" = some (some (.ref C8)))
  (A9:nsIn K mainGlobals "NoName" = some (some (.ref C9)))
  (aE:nsIn K mainGlobals "TalkError" = some (some (.ref T0)))
  (L7:K.lookup C0=some (excClassObj nm7 qn7 C0 N7 bs7 [.ref T0,.type "ValueError", .type "Exception", .type "BaseException", .type "object"] true sn7 sub7 ab7 col7 dd7 ka7 kb7 kc7 kd7 ke7 "ValueError.__new__"))
  (G7:findIn K (.ref C0) "__getattribute__" = some (some (.builtin "BaseException.__getattribute__")))
  (H7:findIn K (.ref C0) "__getattr__" = some none)
  (J7:findIn K (.ref C0) "__class__" = some (some (.builtin "object.__class__")))
  (I7:findIn K (.ref C0) "__init__" = some (some (.builtin "ValueError.__init__")))
  (K7:keepIn K (.ref C0)=true)
  (LT:K.lookup T0=some (excClassObj nmT qnT T0 NT bsT [.type "ValueError", .type "Exception", .type "BaseException", .type "object"] true snT subT abT colT ddT kaT kbT kcT kdT keT "ValueError.__new__"))
  (IT:findIn K (.ref T0) "__init__" = some (some (.builtin "ValueError.__init__")))
  (KT:keepIn K (.ref T0)=true)
  (xg:PySem.W.specialIn K (.builtin "object.__class__") "__get__" = some (some (.builtin "getset_descriptor.__get__")))
  (xt:PySem.W.takesIn K (.builtin "object.__class__")=some true)
  (D1:PySem.W.clsIn K C1=some cz1)
  (E1:PySem.W.typeIn K (.ref C1)=some (.type "type"))
  (D2:PySem.W.clsIn K C2=some cz2)
  (E2:PySem.W.typeIn K (.ref C2)=some (.type "type"))
  (D3:PySem.W.clsIn K C3=some cz3)
  (E3:PySem.W.typeIn K (.ref C3)=some (.type "type"))
  (D4:PySem.W.clsIn K C4=some cz4)
  (E4:PySem.W.typeIn K (.ref C4)=some (.type "type"))
  (D5:PySem.W.clsIn K C5=some cz5)
  (E5:PySem.W.typeIn K (.ref C5)=some (.type "type"))
  (D6:PySem.W.clsIn K C6=some cz6)
  (E6:PySem.W.typeIn K (.ref C6)=some (.type "type"))
  (D7:PySem.W.clsIn K C7=some cz7)
  (E7:PySem.W.typeIn K (.ref C7)=some (.type "type"))
  (D8:PySem.W.clsIn K C8=some cz8)
  (E8:PySem.W.typeIn K (.ref C8)=some (.type "type"))
  (D9:PySem.W.clsIn K C9=some cz9)
  (E9:PySem.W.typeIn K (.ref C9)=some (.type "type"))
  (hw1:∀ d∈[C1,C2,C3,C4,C5,C6,C7,C8,C9],d≠C0/\d≠T0) :
  ∃ fd:FuncData,(∀ (s:Shared) (u:Value),BindsTo s fd ⟨[u],[]⟩ [("_law_script", u)])/\fd.scope.names.lookup ("_law_script" : Str)=some .local/\∀ base:Heap,K.In base->base.Ns mainGlobals mg->FnOk l.prog w K mg base CX0 61 fa fd ["_law_script"] (tP K dA):=by
 have e:=hfa.symm.trans (mg_of X G a20);cases e;have sz0:∀ k:Nat,k<=9->k<=sizeLine:=fun k hk=>by rw[Zt];omega
 have y7:=Kc.mk' L7 G7 H7 J7 I7 K7
 have v1:PySem.W.kitAny K (.ref C0) [.ref C7,.ref C1,.ref C2,.ref C3,.ref C4]=some false:=by
  simp only[PySem.W.kitAny,y7.no D7 E7 (hw1 C7 (by simp)),y7.no D1 E1 (hw1 C1 (by simp)),y7.no D2 E2 (hw1 C2 (by simp)),y7.no D3 E3 (hw1 C3 (by simp)),y7.no D4 E4 (hw1 C4 (by simp))]
 have v2:PySem.W.kitAny K (.ref C0) [.ref C5,.ref C6,.ref C8,.ref C9]=some false:=by
  simp only[PySem.W.kitAny,y7.no D5 E5 (hw1 C5 (by simp)),y7.no D6 E6 (hw1 C6 (by simp)),y7.no D8 E8 (hw1 C8 (by simp)),y7.no D9 E9 (hw1 C9 (by simp))]
 have c:Cl K (cs C0 C1 C2 C3 C4 C5 C6 C7 C8 C9):=⟨⟨xg,xt⟩,y7.xc,by unfold PySem.W.kitOne;rw[if_pos (beq_self_eq_true _)],v1,v2,rfl,rfl,rfl,zY rfl (zY rfl (zY rfl (zY rfl (zY rfl yJ))))⟩;have xT:XM K T0 (.builtin "ValueError.__init__"):=⟨⟨_,_,_,_,_,_,_,_,_,_,_,_,_,_,_,_,LT,by rw[ZV];simp,zcc T0 (by decide),zcc T0 (by decide),by rw[ZV];simp⟩,IT,KT⟩;have sb:bG K C0 T0:=⟨_,_,_,_,_,_,_,_,_,_,_,_,_,_,_,_,L7,by rw[ZV];simp⟩
 have T:Txt K mg (cs C0 C1 C2 C3 C4 C5 C6 C7 C8 C9) oA T0:={
  deal:=⟨f1,mg_of X G a1,HD.mk' l1 c1 k1⟩
  draw:=⟨f2,mg_of X G a2,HD.mk' l2 c2 k2⟩
  names:=⟨f3,mg_of X G a3,HD.mk' l3 c3 k3⟩
  chg:=⟨f4,mg_of X G a4,HD.mk' l4 c4 k4⟩
  txt:=⟨f5,mg_of X G a5,HD.mk' l5 c5 k5⟩
  web:=⟨f6,mg_of X G a6,HD.mk' l6 c6 k6⟩
  ow:=⟨f7,mg_of X G a7,HD.mk' l7 c7 k7⟩
  ot:=⟨f8,mg_of X G a8,HD.mk' l8 c8 k8⟩
  ni:=⟨f9,mg_of X G a9,HD.mk' l9 c9 k9⟩
  nu:=⟨f10,mg_of X G a10,HD.mk' l10 c10 k10⟩
  due:=⟨f11,mg_of X G a11,HD.mk' l11 c11 k11⟩
  isn:=⟨f12,mg_of X G a12,HD.mk' l12 c12 k12⟩
  rn:=⟨f13,mg_of X G a13,HD.mk' l13 c13 k13⟩
  rr:=⟨f14,mg_of X G a14,HD.mk' l14 c14 k14⟩
  rb:=⟨f15,mg_of X G a15,HD.mk' l15 c15 k15⟩
  rd:=⟨f16,mg_of X G a16,HD.mk' l16 c16 k16⟩
  same:=⟨f17,mg_of X G a17,HD.mk' l17 c17 k17⟩
  sr:=⟨f18,mg_of X G a18,HD.mk' l18 c18 k18⟩
  sb:=⟨f19,mg_of X G a19,HD.mk' l19 c19 k19⟩
  max:=Zar X G z0
  len:=Zar X G z1
  all:=Zar X G z2
  list:=Zar X G z3
  isi:=Zar X G z4
  srt:=Zar X G z5
  tup:=Zar X G z6
  int:=Zar X G z7
  str:=Zar X G z8
  range:=Zar X G z9
  rev:=Zar X G z10
  enu:=Zar X G z11
  bool:=Zar X G z12
  mgLo:=⟨tLo,mg_of X G aLo⟩
  mgMo:=⟨tMo,mg_of X G aMo⟩
  mgN:=mg_of X G aN
  rpN:=zgW (vs:=[.str "and", .str "or", .str "not", .str "then"]) lN rfl rfl (sz0 4 (by decide)) (.cons ⟨_,rfl⟩ (.cons ⟨_,rfl⟩ (.cons ⟨_,rfl⟩ (.cons ⟨_,rfl⟩ .nil)))) fun H=>⟨_,_,rfl,rfl,⟨_,_,rfl,rfl,⟨_,_,rfl,rfl,⟨_,_,rfl,rfl,rfl⟩⟩⟩⟩
  qc:=c
  mgE:=mg_of X G aE
  tr:=⟨_,xT⟩
  sub:=sb
  x0:=y7.xm
  m0:=mg_of X G A0
  m1:=mg_of X G A1
  m2:=mg_of X G A2
  m3:=mg_of X G A3
  m4:=mg_of X G A4
  m5:=mg_of X G A5
  m6:=mg_of X G A6
  m7:=mg_of X G A7
  m8:=mg_of X G A8
  m9:=mg_of X G A9 }
 obtain ⟨fd,hb,hx,hF⟩:=zjV (P:=l.prog) (w:=w) T (HD.mk' l20 c20 k20);exact ⟨fd,hb,hx,fun base _ _=>hF base⟩
end K70
end
namespace PySem.W.Fast
def tw8205279776803556621:=0
def tw1667972473681369901:=0
def tw3717364296627128776:=0
def tw9323580742676358692:=0
def tw14641832289083676238:=0
def tw9182117424627097913:=0
def tw1061722794957786897:=0
def tw15186103486476697259:=0
def tw5715861156564560740:=0
def tw5187903430017503416:=0
def tw10111951954434828128:=0
def tw17549740015315248445:=0
def tw16658351619862084283:=0
def tw4206072734529828592:=0
def tw17704665093102229158:=0
def tw12920795216538738971:=0
def tw9237656099294545453:=0
def tw18176285783471666442:=0
def tw11736413678378141625:=0
def tw10095240585965194014:=0
def tw11298738895166850795:=0
def tw6339085196210703730:=0
def tw4863487420121385079:=0
def tw1664470656520110182:=0
def tw11778542708983213432:=0
def tw9570112801187156340:=0
def tw12643673828575763195:=0
def tw15279007751927043344:=0
def tw4647371568562768396:=0
def tw17915363913358118668:=0
def tw11477580673671390356:=0
def tw1589436488527877862:=0
def tw10263000429203746657:=0
def tw2212199078016358161:=0
def tw8633417200775686273:=0
def tw14511186919655774458:=0
def tw16749781956702143896:=0
def tw15841885198013210307:=0
def tw12373710705509377503:=0
def tw9899669276936195623:=0
def tw137850430587950018:=0
def tw3849247063468601529:=0
def tw13395485531360832327:=0
def tw1776652104280177300:=0
def tw4919621174961943718:=0
def tw9033127187592109943:=0
def tw10248024501933398771:=0
def tw9514033947448826242:=0
def tw12961958954249598269:=0
def tw3785913378609066443:=0
def tw11592762077801634678:=0
def tw9371199652093473315:=0
def tw2933250670253665217:=0
def tw17980243042814236890:=0
def tw8362661488231380885:=0
def tw9861415068601835896:=0
def tw7844717430871723559:=0
def tw7951706853238790662:=0
def tw17408123627739895764:=0
def tw6153163933624538768:=0
def tw11898789025111509630:=0
def tw2028694215448984415:=0
def tw660979696871068426:=0
def tw11498487300202888493:=0
def tw15140401643437222156:=0
def tw3029920690249827619:=0
def tw5208211571840897833:=0
def tw3448155594465322726:=0
def tw10724641096904491366:=0
def tw8930911110750960890:=0
def tw12713826409954899601:=0
def tw9807384184940291069:=0
def tw8753715447660269922:=0
def tw17595291404183317035:=0
def tw11968513850920742077:=0
def tw5438340188235635403:=0
def tw2113555451419705754:=0
def tw6138345529898166314:=0
def tw18427389317190226854:=0
def tw3540898291946538547:=0
def tw10827419258263273887:=0
def tw8060489017752415256:=0
def tw17888845865840583611:=0
def tw13820234364463517221:=0
def tw3476452308856752428:=0
def tw2340471903515661144:=0
def tw7771468343848438993:=0
def tw2394648964972715166:=0
def tw10723996026250759066:=0
def tw12731648227393386889:=0
def tw16007152210409929486:=0
def tw2989000061004035946:=0
def tw1700810519067551376:=0
def tw8401768280700480993:=0
def tw8976034379867049171:=0
def tw1746664076694820750:=0
def tw16747054299175423681:=0
def tw11163304002283567251:=0
def tw11021478051810760895:=0
def tw1041936777836070736:=0
def tw1038737710808590528:=0
def tw2314503348479878774:=0
def tw2126382807498104893:=0
def tw87234139603219122:=0
def tw27323267212019496:=0
def tw17252279138793628811:=0
def tw5274638540609231879:=0
def tw4506864301419876326:=0
def tw15656057974321394702:=0
def tw12639394710176822237:=0
def tw14637337405441260757:=0
def tw14466761471226744133:=0
def tw896201919829861592:=0
def tw3258541739835415005:=0
def tw9036751984007839499:=0
def tw5645396219649116438:=0
def tw4583923153901500046:=0
def tw10424708096767730224:=0
def tw45711058118015917:=0
def tw736235581963340097:=0
def tw14325494741421233829:=0
def tw17270290819955298936:=0
def tw14471136633439788286:=0
def tw13555172861136292372:=0
def tw17984949861649488099:=0
def tw8240138891024607405:=0
def tw6953595055607962152:=0
def tw8446766179081088344:=0
def tw15384001636589555068:=0
def tw10572196896064466742:=0
def tw619773305715055969:=0
def tw5054677766259687773:=0
def tw17917106316218372939:=0
def tw17425314529812931831:=0
def tw11584186207726880833:=0
def tw17186783252737255787:=0
def tw6813196914100169246:=0
def tw4338740369507600588:=0
def tw3253503386374612948:=0
def tw2675781226072460962:=0
def tw11759070722705611482:=0
def tw17841806954150849876:=0
def tw8214282541461228368:=0
def tw8097961598120535111:=0
def tw16557252362022882248:=0
def tw3514104149418720123:=0
def tw1397734751900496387:=0
def tw10579410890252001505:=0
def tw2561585040440519692:=0
def tw11702914316340582099:=0
def tw13321943131303198488:=0
def tw4755501135602022449:=0
def tw338091562857703407:=0
def tw3851567738442054017:=0
def tw2415266351079063756:=0
def tw1094871476906408280:=0
def tw4593853424734091660:=0
def tw12484766758583113219:=0
def tw169151530042742513:=0
def tw16630080282912365694:=0
def tw14171663079467802821:=0
def tw5184890653463586138:=0
def tw5684623663776854264:=0
def tw6299516900570353784:=0
def tw3575884343841710201:=0
def tw6708430691618830538:=0
def tw10133020608672533706:=0
def tw12763281236693101852:=0
def tw12855358701121153370:=0
def tw11669514888944525952:=0
def tw6177408001280798688:=0
def tw2116859973729303403:=0
def tw9598296391403448069:=0
def tw5653448231844228768:=0
def tw10196815780676246954:=0
def tw8573955176878919954:=0
def tw6158305269366171498:=0
def tw16850826732241965976:=0
def tw3629327157061088853:=0
def tw9297405138643799840:=0
def tw14074345696392808798:=0
def tw12858616582779035677:=0
def tw16385426365699206938:=0
def tw9979416650601945528:=0
def tw7502875861648564847:=0
def tw512311422276283002:=0
def tw2606675941724884300:=0
def tw2183945680460947875:=0
def tw16256285948494450752:=0
def tw14425173729494281167:=0
def tw13759839028077679925:=0
def tw12473660213185527018:=0
def tw11213505203250985525:=0
def tw11089552766279028649:=0
def tw1864110064155321494:=0
def tw1768339612028368273:=0
def tw2888600800484576973:=0
def tw7540967230328947481:=0
def tw7624458948233887609:=0
def tw7368603785833558919:=0
def tw7236119862067255308:=0
def tw16107546792946305411:=0
def tw1907900781510301453:=0
def tw12195215559760169367:=0
def tw13455034311724719843:=0
def tw9604733381679384278:=0
def tw4575388085160368521:=0
def tw8428518156776941220:=0
def tw7606661898404846411:=0
def tw5107001402145421023:=0
def tw17841553152187256195:=0
def tw9198432394723910016:=0
def tw6669027758698400667:=0
def tw6208514228205968632:=0
def tw6174438548647084389:=0
def tw508174133520567673:=0
def tw3085243265310406887:=0
def tw2194098817461018536:=0
def tw17734931962395011948:=0
def tw17633489723282480678:=0
def tw16033776092367262563:=0
def tw14468962013875511332:=0
def tw7491325573855160285:=0
def tw6002268340617195467:=0
def tw4026311324546567192:=0
def tw3863030238375046869:=0
def tw2830827357416638226:=0
def tw2671666000686879788:=0
def tw1855228611061183399:=0
def tw18407730307333810582:=0
def tw15448937302129371277:=0
def tw1453850004322272904:=0
def tw11646206297092503314:=0
def tw8030347604873222405:=0
def tw9901791512999999520:=0
def tw8510118438340896880:=0
def tw7841465019841340028:=0
def tw7612009019760368172:=0
def tw17612739791322573086:=0
def tw12968880267778776001:=0
def tw12548883155665954966:=0
def tw11446091470428854866:=0
def tw11418417897504004575:=0
def tw10980815337240519984:=0
def tw9617042499845798149:=0
def tw655911893178126450:=0
def tw5875445764116004509:=0
def tw2129636458608096344:=0
def tw18224733190493790363:=0
def tw16131399152831933896:=0
def tw15047576511115101873:=0
def tw13140598729063000943:=0
def tw12514329311507021390:=0
def tw10345717297236187281:=0
def tw10185383039297096446:=0
def tw9877316458495157592:=0
def tw95038406569109394:=0
def tw9297452891897872287:=0
def tw9266057881481121759:=0
def tw8530293091862105318:=0
def tw7770447241757917731:=0
def tw7430001073098332406:=0
def tw6858615455145646716:=0
def tw6397706464061365129:=0
def tw5905389085132625292:=0
def tw5565316334403418592:=0
def tw5418128337484656520:=0
def tw5415871353785839867:=0
def tw5358106649628711339:=0
def tw4808069226864860546:=0
def tw4540984949607391920:=0
def tw4295582711820239721:=0
def tw4081993494222458005:=0
def tw3868577601620217321:=0
def tw3767134551763726442:=0
def tw308803519170387115:=0
def tw2686381171682504129:=0
def tw2479375595054316281:=0
def tw2452571810391389834:=0
def tw2414051184143164831:=0
end PySem.W.Fast
open PySem PySem.W PyProof.Rows
set_option maxRecDepth 100000 in
set_option maxHeartbeats 8000000 in
theorem PySem.Challenge.cw_talkcourt_k70_webs_written_and_read_holds : PySem.Challenge.rw_talkcourt_k70_webs_written_and_read.Holds := by
 w_on;o_law;k_head;(case hw=>w_witness2)
 k_fill
 refine L3.walk3 (l:=PySem.Challenge.rw_talkcourt_k70_webs_written_and_read) (k:=61) rfl rfl ⟨rfl,rfl,by decide,by decide⟩ (fun w h Y=>PySem.W.kIn_of Y) ?F
 case F =>
  intro w mg fa h KX G hmg;refine' K70.all_mk KX G hmg ?a1 ?l1 ?c1 ?k1 ?a2 ?l2 ?c2 ?k2 ?a3 ?l3 ?c3 ?k3 ?a4 ?l4 ?c4 ?k4 ?a5 ?l5 ?c5 ?k5 ?a6 ?l6 ?c6 ?k6 ?a7 ?l7 ?c7 ?k7 ?a8 ?l8 ?c8 ?k8 ?a9 ?l9 ?c9 ?k9 ?a10 ?l10 ?c10 ?k10 ?a11 ?l11 ?c11 ?k11 ?a12 ?l12 ?c12 ?k12 ?a13 ?l13 ?c13 ?k13 ?a14 ?l14 ?c14 ?k14 ?a15 ?l15 ?c15 ?k15 ?a16 ?l16 ?c16 ?k16 ?a17 ?l17 ?c17 ?k17 ?a18 ?l18 ?c18 ?k18 ?a19 ?l19 ?c19 ?k19 ?a20 ?l20 ?c20 ?k20 ?z0 ?z1 ?z2 ?z3 ?z4 ?z5 ?z6 ?z7 ?z8 ?z9 ?z10 ?z11 ?z12 ?aLo ?aMo ?aN ?lN ?A0 ?A1 ?A2 ?A3 ?A4 ?A5 ?A6 ?A7 ?A8 ?A9 ?aE ?L7 ?G7 ?H7 ?J7 ?I7 ?K7 ?LT ?IT ?KT ?xg ?xt ?D1 ?E1 ?D2 ?E2 ?D3 ?E3 ?D4 ?E4 ?D5 ?E5 ?D6 ?E6 ?D7 ?E7 ?D8 ?E8 ?D9 ?E9 ?hw1
  case a1|l1|c1|k1|a2|l2|c2|k2|a3|l3|c3|k3|a4|l4|c4|k4|a5|l5|c5|k5|a6|l6|c6|k6|a7|l7|c7|k7|a8|l8|c8|k8|a9|l9|c9|k9|a10|l10|c10|k10|a11|l11|c11|k11|a12|l12|c12|k12|a13|l13|c13|k13|a14|l14|c14|k14|a15|l15|c15|k15|a16|l16|c16|k16|a17|l17|c17|k17|a18|l18|c18|k18|a19|l19|c19|k19|a20|l20|c20|k20|z0|z1|z2|z3|z4|z5|z6|z7|z8|z9|z10|z11|z12|aLo|aMo|aN|lN|A0|A1|A2|A3|A4|A5|A6|A7|A8|A9|aE|L7|G7|H7|J7|I7|K7|LT|IT|KT|xg|xt|D1|E1|D2|E2|D3|E3|D4|E4|D5|E5|D6|E6|D7|E7|D8|E8|D9|E9=>k_is
  case hw1=>first|k_is|decide|rfl
